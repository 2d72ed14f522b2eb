import PyProof.Rows.All
import Wide.All
import OpenK.AllK
import Wide.FinOn
import Lean
import PyProof.EqAt
import PyProof.EqKinds
import PyProof.TupleCall
import PyProof.Rows.SortRuns
import PySem.Challenge.RW_trialfield_k26_whole_even_as_words_say
set_option Elab.async false
set_option linter.all false
set_option maxRecDepth 100000
set_option maxHeartbeats 4000000
def A0:=@PySem.wpAny_bind
def A3:=@Option.bind_eq_some_iff
def A4:=@PySem.Heap.get?_push_of_some
def A5:=@List.mem_singleton
def A6:=@PySem.wpAny_pure
def A7:=@PyProof.Rows.wpS_bind
def A8:=@List.mem_append_right
def A9:=@PyProof.Rows.wpS_pure
def AA:=@if_neg
def AB:=@List.getElem?_eq_getElem
def AC:=@List.length_map
def AD:=@if_pos
def AF:=@Nat.le_refl
def AG:=@Option.map_eq_some_iff
def AI:=@PySem.Heap.get?_push_size
def AJ:=@Array.getElem?_toList
def AK:=@List.mem_cons_of_mem
def AN:=@List.mem_cons
def AO:=@of_decide_eq_true
def AQ:=@List.mem_cons_self
def AR:=@decide_eq_true
def AS:=@List.getElem?_eq_some_iff
def AT:=@List.size_toArray
def AU:=@PySem.Heap.lt_size
def AV:=@List.mem_append
def AX:=@List.getElem?_map
def AY:=@List.mem_map
def AZ:=@decide_eq_false
def B0:=@List.map_cons
def B4:=@List.getElem?_set_ne
def B5:=@PySem.W.mg_of
def B7:=@List.length_cons
def BA:=@Nat.lt_of_lt_of_le
def BB:=@List.mem_of_getElem?
def BC:=@List.length_append
def BF:=@List.mem_range
def BG:=@Option.some.inj
def BH:=@PySem.F.plain_min_loop
def BJ:=@Array.length_toList
def BK:=@List.map_congr_left
def BL:=@Classical.byContradiction
def BN:=@List.not_mem_nil
def BP:=@Nat.ne_of_lt
def BQ:=@Nat.le_trans
def BS:=@getElem?_pos
def BT:=@Nat.zero_add
def BU:=@List.append_assoc
def BW:=@List.replicate_succ
def BX:=@List.take_of_length_le
def C6:=@Nat.mod_eq_of_lt
def C7:=@List.length_replicate
def C8:=@List.mem_filter
def C9:=@PySem.W.mg_none_of
def CA:=@PyProof.Rows.callWith_type1
def CC:=@Int.le_trans
def CF:=@PySem.wpAny_tryCatch
def CG:=@Bool.false_ne_true
def CJ:=@Nat.zero_le
def CK:=@List.getElem?_set_self'
def CM:=@True.intro
def CN:=@PySem.wpAny_callSpecial?_slot
def CP:=@PySem.wpAny_holding
def CW:=@Bool.false_eq_true
def CZ:=@PySem.wpAny_newObj_type
def D1:=@PySem.Heap.size_push
def D2:=@List.lookup_cons
def D4:=@List.length_eq_zero_iff
def D7:=@PyProof.Rows.wpS_forRange
def DC:=@PySem.Heap.get?_update_ne
def DF:=@PySem.PassesOwn.never
def DH:=@PySem.wpAny_seqItems
def DK:=@Int.le_of_lt
def DM:=@PySem.Around.under_plainId
def DN:=@List.eq_nil_or_concat
def DU:=@Int.toNat_natCast
def DY:=@List.mem_append_left
def E1:=@PySem.wpAny_mono
def E2:=@PySem.wpAny_Call_Name_kw
def E3:=@List.drop_eq_getElem_cons
def E5:=@PySem.plainId_quiet
def E7:=@List.mem_iff_getElem?
def E8:=@List.take_append_drop
def EA:=@List.append_nil
def EB:=@PySem.wpAny_truthy_bool
def EC:=@PySem.wpAny_letGo
def ED:=@List.getElem?_replicate
def EE:=@List.pairwise_singleton
def EI:=@PySem.wpAny_call_entry
def EJ:=@List.flatten_cons
def EK:=@List.drop_eq_nil_of_le
def EL:=@Array.getElem?_eq_some_iff
def EM:=@Array.perm_iff_toList_perm
def EN:=@PySem.F.plain_max_loop
def EQ:=@PySem.mem_of_lookup
def ES:=@PyProof.Rows.wpS_mono
def ET:=@Nat.le_succ
def EX:=@List.getElem?_eq_none
def EY:=@List.perm_append_comm
def F0:=@List.length_take
def F1:=@List.all_eq_true
def F2:=@Option.bind_some
def F3:=@List.getElem_mem
def F9:=@PySem.codeAny_builtin
def FB:=@Nat.add_zero
def FC:=@if_false
def FE:=@PySem.F.slot_dict_valueiterator_next
def FJ:=@or_false
def FK:=@List.length_pos_iff
def FO:=@List.map_map
def FP:=@PySem.F.entry_min_loop
def FR:=@Nat.lt_irrefl
def FS:=@Int.le_refl
def FT:=@PyProof.Rows.wpS_modify
def FU:=@PySem.wpAny_updateSeq
def G1:=@List.nodup_cons
def G4:=@List.map_append
def G5:=@PySem.Calls.spliced_cons
def G6:=@if_true
def G7:=@Bool.eq_false_iff
def G8:=@PySem.F.slot_tuple_iterator_next
def G9:=@List.mem_of_mem_take
def GD:=@Array.toList_append
def GE:=@Bool.and_eq_true
def GF:=@Nat.lt_succ_self
def GN:=@Or.inr
def GO:=@Nat.mul_zero
def GP:=@Nat.zero_mod
def GT:=@PySem.Heap.SameBut.update
def GU:=@Option.map_some
def GV:=@List.length_set
def H9:=@List.sum_cons
def HI:=@List.Pairwise.nil
def HJ:=@PySem.wpAny_typeNameOfWhole_valiter
def HK:=@PySem.wpAny_typeNameOfWhole_keyiter
def HQ:=@PySem.Obj.data_mapFields
def HR:=@PySem.wpAny_passesOwn
def HS:=@PySem.F.slot_dict_keyiterator_next
def HU:=@List.pairwise_append
def HV:=@List.mem_iff_getElem
def HW:=@Int.fmod_eq_emod_of_nonneg
def HX:=@Nat.pow_le_pow_right
def IF:=@PySem.Paired.length
def IG:=@List.mem_reverse
def IH:=@decide_eq_decide
def II:=@List.filter_cons
def IJ:=@PySem.Calls.spliced_nil
def IK:=@Array.getElem?_eq_getElem
def IM:=@Int.toNat_of_nonneg
def IZ:=@Nat.add_assoc
def J0:=@PySem.F.slot_dict_values
def J9:=@List.find?_cons
def JA:=@PySem.W.kia_one
def JB:=@PyProof.Rows.get?_update_seq
def JC:=@List.mem_filterMap
def JD:=@List.getElem?_drop
def JE:=@List.getElem?_take
def JI:=@PyProof.Rows.wpS_get
def JO:=@Nat.le_of_lt
def JP:=@decide_eq_true_eq
def JQ:=@PySem.wpAny_attempt
def JR:=@PySem.wpAny_typeNameOf_valiter
def JS:=@PySem.wpAny_typeNameOf_keyiter
def JT:=@List.flatMap_cons
def JU:=@Int.fmod_nonneg_of_pos
def K9:=@PyProof.Rows.wpS_reverse
def KA:=@PyProof.Rows.mirror_perm
def KB:=@PyProof.Rows.slot_tuple_getitem
def KC:=@PySem.wpAny_rule
def KD:=@List.length_singleton
def KE:=@PySem.F.slot_zip_next
def KF:=@List.cons_lt_cons_iff
def KG:=@List.min?_eq_some_iff
def KH:=@List.concat_eq_append
def KP:=@PyProof.Rows.callWith_builtin1
def KQ:=@beq_iff_eq
def KR:=@Or.inl
def KY:=@List.any_cons
def KZ:=@congrArg
def L3:=@PySem.Calls.callWith_builtin
def L4:=@PySem.wpAny_setField
def L5:=@List.exists_mem_of_length_pos
def LK:=@List.nil_append
def LL:=@Int.natCast_mul
def LM:=@Array.Perm.refl
def LN:=@List.length_zip
def MM:=@PySem.call_meets
def MN:=@Nat.mul_comm
def MO:=@PySem.sizeLine_eq
def MP:=@List.getElem?_append_right
def MQ:=@PySem.wpAny_of_eq
def MR:=@List.mem_replicate
def MS:=@decide_eq_true_iff
def NE:=@List.getElem?_append_left
def NG:=@Ne.symm
def NH:=@List.reverse_cons
def NI:=@Option.some.injEq
def NJ:=@Nat.lt_succ_of_lt
def NK:=@Array.toList_push
def NL:=@List.pairwise_map
def NM:=@List.nodup_append
def NN:=@List.length_range
def NO:=@List.filter_congr
def NP:=@List.take_add_one
def NW:=@PySem.F.args_tuple_add_2
def OG:=@PySem.F.entry_tuple_add
def OH:=@PySem.tupleKind_room_in1
def OI:=@PySem.F.plainAttrs_dict
def OJ:=@beq_self_eq_true
def OK:=@List.cons_append
def PP:=@Nat.ne_of_gt
def PQ:=@PySem.F.slot_tuple_add
def PU:=@List.map_nil
def PV:=@Nat.succ_mul
def PX:=@PySem.F.entry_max_loop
def QE:=@List.foldl_cons
def QF:=@PySem.wpAny_dictEntries
def QG:=@Nat.min_eq_left
def QP:=@PySem.F.slot_dict_get
def QQ:=@List.max?_eq_some_iff
def QR:=@List.min?_eq_none_iff
def R6:=@List.forIn_nil
def R7:=@PySem.wpAny_pyIter_zip
def R8:=@PySem.SeqAt.eqAt_reads
def R9:=@PySem.wpAny_isInstance
def RB:=@PySem.F.called_tuple
def RC:=@List.drop_drop
def RD:=@List.map_id
def TN:=@PyProof.Rows.wpS_lift
def TQ:=@beq_eq_false_iff_ne
def TR:=@PySem.call_meetsIn
def TU:=@PyProof.Rows.lt_int
def U6:=@PySem.wpAny_execs_nil
def U7:=@PySem.F.slot_int_rmul
def U8:=@PySem.wpAny_dictEpoch
def VI:=@PySem.F.args_tuple_iterator_next_1
def VJ:=@PySem.Heap.get?_update_self
def VL:=@PySem.Obj.isFreed_of_fields
def VM:=@PySem.wpAny_isOneOf_valiter
def WP:=@PySem.F.entry_tuple_iterator_next
def WQ:=@List.take_sublist
def WR:=@Nat.add_comm
def WS:=@List.ext_getElem?
def WT:=@PySem.wpAny_field
def WU:=@PySem.wpAny_updateSeq_pair
def WW:=@PySem.wpAny_fieldsOf
def WX:=@decide_false
def WY:=@List.findIdx_lt_length_of_exists
def Z3:=@List.zipIdx_cons
def Z4:=@List.map_snd_zip
def Z5:=@List.mem_flatMap
def Z6:=@List.nodup_range
def aT:=@PySem.wpAny_onRaise
def aU:=@PySem.wpAny_newList
def aV:=@PyProof.Rows.pairsOf_size
def aW:=@decide_true
def e9:=@PySem.typeIs_int
def eB:=@PySem.wpAny_pyIter_tuple
def eD:=@PySem.wpAny_setField_rec
def eG:=@List.Perm.of_eq
def eI:=@Nat.mod_add_div
def i9:=@PySem.codeAny_mono
def iA:=@PySem.concat_meets
def iB:=@Bool.and_false
def iC:=@List.nodup_nil
def iD:=@PySem.wpAny_pyIter_list
def iE:=@PySem.Obj.cls_mapFields
def iF:=@PySem.F.args_dict_valueiterator_next_1
def iG:=@Array.size_map
def iH:=@PySem.F.args_dict_values_1
def iI:=@Nat.mod_lt
def iJ:=@Nat.mul_le_mul
def nR:=@PySem.F.entry_dict_valueiterator_next
def nS:=@List.pairwise_iff_getElem
def nU:=@PyProof.Rows.callWith_builtin_kwB
def nV:=@PySem.F.entry_dict_values
def nW:=@Nat.add_mul_mod_self_left
def nX:=@PySem.noFill_tuple_add
def nY:=@List.Perm.eq_of_pairwise
def nZ:=@PySem.F.args_dict_keyiterator_next_1
def o6:=@List.Pairwise.imp_of_mem
def o7:=@List.cons.inj
def o8:=@PySem.F.type_dict_values
def sW:=@PySem.F.args_dict_get_3
def sX:=@PySem.F.plainAttrs_list
def sY:=@PySem.F.plain_tuple_new
def sZ:=@PySem.F.args_zip_next_1
def t5:=@List.pairwise_mergeSort
def t6:=@PySem.F.entry_dict_keyiterator_next
def t7:=@Classical.axiomOfChoice
def uX:=@List.getElem?_set_self
def uY:=@PySem.W.cellsFrom_some
def uZ:=@Nat.lt_trans
def v4:=@PySem.F.entry_dict_get
def v5:=@PySem.pushCells_keeps
def v6:=@Nat.le_of_eq
def v7:=@PySem.F.entry_zip_next
def v8:=@Array.getElem?_eq_none
def v9:=@PySem.wpAny_loadPart'
def vA:=@Nat.pow_succ
def vB:=@List.length_pos_of_mem
def vC:=@List.zipWith_cons_cons
def zN:=@List.getElem?_zipWith
def zO:=@List.getElem?_reverse
def zP:=@List.Pairwise.sublist
def zQ:=@List.Perm.append_left
def zR:=@List.pairwise_reverse
def zS:=@List.countP_mono_left
def zT:=@List.max?_eq_none_iff
def zU:=@PySem.Calls.Name_function_global
def zV:=@Bool.and_eq_true_iff
def zW:=@PySem.isSubtype_stop
def zX:=@List.mem_of_mem_drop
def zY:=@Array.toList_reverse
def zZ:=@Nat.mul_one
def A00:=@List.findIdx_getElem
def A66:=@PySem.wpAny_binaryOp_repeat_ref
def A67:=@PySem.wpAny_letOwnedTupleGo_zip
def A68:=@List.getElem?_range
def A69:=@List.length_zipWith
def A70:=@List.mergeSort_perm
def A71:=@PySem.evalArgs_none
def A72:=@List.flatMap_append
def A73:=@List.map_eq_nil_iff
def A74:=@PySem.wpAny_standAt
def A75:=@PySem.seq_tuple_add
def A76:=@Option.isSome_some
def A77:=@PySem.wpAny_comprehension_free
def A78:=@PySem.wpAny_handled
def A79:=@List.map_inj_right
def A80:=@of_decide_eq_false
def A81:=@Array.size_extract
def A82:=@Int.fmod_lt_of_pos
def A83:=@List.zip_cons_cons
def A97:=@PySem.list_append
def A98:=@Option.isSome_map
def A99:=@List.reverse_perm
def AA0:=@bne_self_eq_false
def AA1:=@PySem.F.plain_min
def AA2:=@PySem.F.entry_min
def AA3:=@PySem.wpAny_Call_method0_late
def AA4:=@List.mem_range'_1
def AA6:=@Nat.min_le_right
def AA7:=@List.length_drop
def AA8:=@Option.getD_none
def AA9:=@PySem.Heap.get?_update_other
def AB0:=@List.take_length
def AB1:=@PySem.wpAny_isTrue_Compare1
def AB2:=@List.of_mem_zip
def AB3:=@PySem.builtinLookup_eq_fast
def AB4:=@List.forIn_cons
def AB5:=@PySem.wpAny_isOneOf_keyiter
def AB6:=@Nat.not_lt_zero
def AB7:=@List.filter_map
def AB8:=@PySem.Around.frames_deeper
def AB9:=@PySem.Calls.evalArgs_plain
def AC0:=@PySem.F.args_list_append_2
def AC1:=@PySem.wpAny_pyIter_revIter
def AC2:=@PySem.wpAny_throw
def AC3:=@List.drop_zero
namespace L2
open PySem PySem.Spec PyProof.Rows
abbrev Key:=Sum Int Str
def UP:Key->Value->Bool
 | .inl k,v=>Value.isInt k v
 | .inr x,v=>Value.isStrOf x v
def A90(w:World):Key->Int
 | .inl k=>hashInt k
 | .inr x=>hashStr w x
theorem FM:∀ {k:Key} {v:Value},UP k v=true->(∃i t,k=Sum.inl i/\v=Value.int i t)\/(∃x t,k=Sum.inr x/\v=Value.str x t)
 | .inl i,v,h=>by
  obtain ⟨t,e⟩:=Value.isInt_shape (k:=i) (v:=v) h
  exact .inl ⟨i,t,rfl,e⟩
 | .inr x,v,h=>by
  obtain ⟨t,e⟩:=Value.isStrOf_shape (x:=x) (v:=v) h;exact .inr ⟨x,t,rfl,e⟩
theorem gU(i:Int)(t:Tok):UP (.inl i) (.int i t)=true:=by simp [UP,Value.isInt]
theorem gZ(x:Str)(t:Tok):UP (.inr x) (.str x t)=true:=by simp [UP,Value.isStrOf]
theorem wK(a b:Int):decide ((Sum.inl a:Key)=Sum.inl b)=(a==b):=by
 by_cases e:a=b
 . subst e;simp
 . have h:¬(Sum.inl a:Key)=Sum.inl b:=fun q=>e (Sum.inl.inj q);rw [AZ h];exact (TQ.mpr e).symm
theorem xR(a b:Str):decide ((Sum.inr a:Key)=Sum.inr b)=decide (a=b):=by
 by_cases e:a=b
 . subst e;simp
 . have h:¬(Sum.inr a:Key)=Sum.inr b:=fun q=>e (Sum.inr.inj q);rw [AZ h,AZ e]
theorem yN(a:Int)(b:Str):decide ((Sum.inl a:Key)=Sum.inr b)=false:=AZ (fun q=>nomatch q)
theorem xS(a:Str)(b:Int):decide ((Sum.inr a:Key)=Sum.inl b)=false:=AZ (fun q=>nomatch q)
def EU(prog:Program)(w:World):PySem.KeyKind prog w Key where
 is:=UP
 hash:=A90 w
 inj:=fun v a b ha hb=>by
  rcases FM ha with ⟨i,t,rfl,rfl⟩ | ⟨x,t,rfl,rfl⟩
  . rcases FM hb with ⟨j,u,rfl,e⟩ | ⟨y,u,rfl,e⟩
    . injection e with e1 _;rw [e1]
    . exact nomatch e
  . rcases FM hb with ⟨j,u,rfl,e⟩ | ⟨y,u,rfl,e⟩
    . exact nomatch e
    . injection e with e1 _;rw [e1]
 byValue:=fun k v h=>by
  rcases FM h with ⟨i,t,rfl,rfl⟩ | ⟨x,t,rfl,rfl⟩ <;> rfl
 pyHash:=fun hv h=>by
  rcases FM hv with ⟨i,t,rfl,rfl⟩ | ⟨x,t,rfl,rfl⟩
  . exact wpAny_pyHash_int h
  . exact wpAny_pyHash_str h
 eqBool:=fun hu hv h=>by
  rcases FM hu with ⟨i,t,rfl,rfl⟩ | ⟨x,t,rfl,rfl⟩
  . rcases FM hv with ⟨j,u,rfl,rfl⟩ | ⟨y,u,rfl,rfl⟩
    . rw [wK] at h;exact wpAny_eqBool_int h
    . rw [yN] at h;exact SeqAt.EqAt.int_str i t y u _ _ _ _ h
  . rcases FM hv with ⟨j,u,rfl,rfl⟩ | ⟨y,u,rfl,rfl⟩
    . rw [xS] at h;exact SeqAt.EqAt.str_int x t j u _ _ _ _ h
    . rw [xR] at h;exact wpAny_eqBool_str h
 «strs» := fun k x t v h => by
  rcases FM h with ⟨i,u,rfl,e⟩ | ⟨y,u,rfl,e⟩
  . exact nomatch e
  . injection e with e1 _
    subst e1
    cases v <;> rfl
theorem YM(prog:Program)(w:World)(i:Int)(t:Tok):(EU prog w).is (.inl i) (.int i t)=true:=gU i t
theorem YB(prog:Program)(w:World)(x:Str)(t:Tok):(EU prog w).is (.inr x) (.str x t)=true:=gZ x t
end L2
namespace L2
open PySem PySem.Spec PyProof.Rows
inductive V where
 | non | bl (b:Bool) | int (i:Int) | str (x:Str) | byt (b:Array UInt8) | flt (b:UInt64) | ref (a:Addr) | ty (n:String)
 deriving DecidableEq
def RelV:V->Value->Prop
 | .non,u=>u=Value.none
 | .bl b,u=>u=Value.bool b
 | .int i,u=>∃t,u=Value.int i t
 | .str x,u=>∃t,u=Value.str x t
 | .byt b,u=>∃t,u=Value.bytes b t
 | .flt b,u=>∃t,u=Value.float b t
 | .ref a,u=>u=Value.ref a
 | .ty n,u=>u=Value.type n
abbrev Vals:List V->List Value->Prop:=Paired RelV
theorem Vals.length{xs:List V}{us:List Value}(r:Vals xs us):xs.length=us.length:=IF r
theorem Vals.get:∀ {xs:List V} {us:List Value} {i:Nat} {x:V},Vals xs us->xs[i]? = some x->∃u,us[i]? = some u/\RelV x u
 | _,_,_,_, .nil,e=>by simp at e
 | _,_,0,_, .cons r _,e=>by simp at e;subst e;exact ⟨_,rfl,r⟩
 | _,_,i+1,x, .cons _ t,e=>by
  obtain ⟨u,h1,h2⟩:=Vals.get (i:=i) (x:=x) t (by simpa using e);exact ⟨u,by simpa using h1,h2⟩
theorem Vals.append:∀ {xs ys:List V} {us ws:List Value},Vals xs us->Vals ys ws->Vals (xs++ys) (us++ws)
 | _,_,_,_, .nil,s=>s
 | _,_,_,_, .cons r t,s=> .cons r (Vals.append t s)
theorem Vals.take:∀ {xs:List V} {us:List Value} (n:Nat),Vals xs us->Vals (xs.take n) (us.take n)
 | _,_,0,_=> .nil
 | _,_,_+1, .nil=> .nil
 | _,_,n+1, .cons r t=> .cons r (Vals.take n t)
theorem Vals.drop:∀ {xs:List V} {us:List Value} (n:Nat),Vals xs us->Vals (xs.drop n) (us.drop n)
 | _,_,0,r=>r
 | _,_,_+1, .nil=> .nil
 | _,_,n+1, .cons _ t=>Vals.drop n t
def RelO:Option V->Option Value->Prop
 | some v,some u=>RelV v u
 | none,none=>True
 | _,_=>False
def KV{κ:Type}:List (κ×V)->List (κ×Value)->Prop:=Paired fun (p:κ×V) (q:κ×Value)=>p.1=q.1/\RelV p.2 q.2
def kV:Key->V
 | .inl i=> .int i
 | .inr x=> .str x
inductive HO where
 | lst (xs:List V)
 | tup (xs:List V)
 | dK (kvs:List (Key×V)) | dT (kvs:List (List Key×V))
 | set (S:Int->Bool) (n:Nat)
 | ins (C dx:Addr) (fs:List (Str×V))
 | own (x:Addr)
 | xd (fs:List (Str×V))
 | met (f x:Addr)
 | rng (lo hi:Int)
 | frz (o:Obj) (u:HO)
 | tbl (ps:Array Value)
 | ext (φ:Heap->Prop)
abbrev Hp:=Addr->Option HO
def upd(H:Hp)(a:Addr)(o:HO):Hp:=fun b=>if b=a then some o else H b
theorem BZ{H:Hp}{a:Addr}{o:HO}:upd H a o a=some o:=by unfold upd;rw [if_pos rfl]
theorem BE{H:Hp}{a b:Addr}{o:HO}(h:b≠a):upd H a o b=H b:=by unfold upd;rw [if_neg h]
theorem tZ{H:Hp}{a b:Addr}{o u:HO}(h:H a=some o)(h':H b=some u)(d:o≠u):a≠b:=by
 intro e;subst e;rw [h] at h';exact d (BG h')
theorem BI{H:Hp}{a b:Addr}{o:HO}(h:H a=some o)(h':H b=none):a≠b:=by
 intro e;subst e;rw [h] at h';cases h'
section
variable (P:Program) (w:World)
def ObjOk(H:Hp)(h:Heap)(a:Addr):HO->Prop
 | .lst xs=>xs.length<=sizeLine/\∃(its:List Value) (n:Nat),Vals xs its/\h.get? a=some {cls:= .type "list",data:= .seq its.toArray n}
 | .tup xs=>xs.length<=sizeLine/\∃its:List Value,Vals xs its/\IsTup h a its.toArray
 | .dK kvs=>kvs.length<=sizeLine/\(a==sysModules)=false/\∃vs,KV kvs vs/\h.DictOf (EU P w) a vs
 | .dT kvs => kvs.length <= sizeLine /\ (a == sysModules) = false /\ ∃ xs : List (List Key × Addr × Value),
  Paired (fun (p:List Key×V) (q:List Key×Addr×Value)=>p.1=q.1/\H q.2.1=some (.tup (p.1.map kV))/\RelV p.2 q.2.2) kvs xs /\
  ∃o es ep,h.get? a=some o/\o.ExactDict/\o.data = .dict es ep/\es.toList=xs.map (entryOfKey (tupleKind (EU P w)))/\(xs.map (·.1)).Nodup
 | .set S n=>h.SetOf (intKind P w) a S n
 | .ins C dx fs => H dx = some (.own a) /\ fs.length <= 1000 /\ dx ≠ a /\ h.get? a = some (PySem.W.instObj C dx) /\
  ∃mA,h.Ns1 dx mA/\(∀f,RelO (fs.lookup f) (mA f))/\PySem.Within mA (fs.map (·.1))
 | .own _=>∃o,h.get? a=some o
 | .xd fs=>∃mA,h.Ns1 a mA/\∀f,RelO (fs.lookup f) (mA f)
 | .rng lo hi=>∃t u v,h.get? a=some {cls:= .type "range",data:= .fields #[.int lo t, .int hi u, .int 1 v]}
 | .frz o u=>h.get? a=some o/\ObjOk H h a u
 | .tbl _=>∃qs:Array Value,h.get? a=some {cls:= .none,data:= .fields qs}/\TriplesOk qs.toList/\∀pos v,codeAmong pos qs.toList=some v->∃c oc vs x,v=Value.ref c/\H c=some (.frz oc (.own 0))/\oc.data = .fields vs/\vs[1]? = some x
 | .met f x=>h.get? a=some (PySem.W.methodObj (.ref f) (.ref x))
 | .ext φ=>φ h/\(∃o,h.get? a=some o)/\∀h1 h2:Heap,φ h1->(∀o,h1.get? a=some o->h2.get? a=some o)->φ h2
def HOk(H:Hp)(h:Heap):Prop:=∀a o,H a=some o->ObjOk P w H h a o
end
section
variable {P:Program} {w:World} {H H':Hp} {h h':Heap} {a:Addr} {o:HO}
theorem ObjOk.lt(x:ObjOk P w H h a o):a<h.objs.size:=by
 cases o with
 | lst xs=>obtain ⟨_,_,_,_,e⟩:=x;exact AU e
 | tup xs=>obtain ⟨_,_,_,p⟩:=x;exact p.lt
 | dK kvs=>obtain ⟨_,_,_,_,o,_,_,e,_⟩:=x;exact AU e
 | dT kvs=>obtain ⟨_,_,_,_,o,_,_,e,_⟩:=x;exact AU e
 | set S n=>obtain ⟨o,_,_,_,e,_⟩:=x;exact AU e
 | ins C dx fs=>obtain ⟨_,_,_,e,_⟩:=x;exact AU e
 | own y=>obtain ⟨_,e⟩:=x;exact AU e
 | xd fs=>obtain ⟨_,⟨_,_,_,e,_⟩,_⟩:=x;exact AU e
 | rng lo hi=>obtain ⟨_,_,_,e⟩:=x;exact AU e
 | frz ob u=>obtain ⟨e,_⟩:=x;exact AU e
 | tbl ps=>obtain ⟨_,e,_⟩:=x;exact AU e
 | met f y=>exact AU (show h.get? a=some _ from x)
 | ext φ=>obtain ⟨_,⟨_,e⟩,_⟩:=x;exact AU e
theorem Paired.mapP{α β:Type}{F G:α->β->Prop}:∀ {l₁:List α} {l₂:List β},Paired F l₁ l₂->(∀a b,F a b->G a b)->Paired G l₁ l₂
 | _,_, .nil,_=> .nil
 | _,_, .cons r t,f=> .cons (f _ _ r) (Paired.mapP t f)
theorem ObjOk.stay (x : ObjOk P w H h a o) (k : ∀ b u, (b = a \/ H b = some (.own a)) -> h.get? b = some u -> h'.get? b = some u)
 (ho:∀b,H b=some (.own a)->H' b=some (.own a)) (ht:∀b xs,H b=some (.tup xs)->H' b=some (.tup xs)) (hf:∀b o u,H b=some (.frz o u)->H' b=some (.frz o u):=by exact fun _ _ _ q=>q):ObjOk P w H' h' a o:=by
 induction o with
 | lst xs=>obtain ⟨z,its,n,r,e⟩:=x;exact ⟨z,its,n,r,k _ _ (.inl rfl) e⟩
 | tup xs=>obtain ⟨z,its,r,ob,e,c⟩:=x;exact ⟨z,its,r,ob,k _ _ (.inl rfl) e,c⟩
 | dK kvs=>obtain ⟨z,y,vs,r,ob,es,ep,e,c⟩:=x;exact ⟨z,y,vs,r,ob,es,ep,k _ _ (.inl rfl) e,c⟩
 | dT kvs=>
  obtain ⟨z,y,xs,r,ob,es,ep,e,c⟩:=x
  exact ⟨z,y,xs,Paired.mapP r fun p q z=>⟨z.1,ht _ _ z.2.1,z.2.2⟩,ob,es,ep,k _ _ (.inl rfl) e,c⟩
 | set S n=>obtain ⟨ob,es,ep,t,e,c⟩:=x;exact ⟨ob,es,ep,t,k _ _ (.inl rfl) e,c⟩
 | ins C dx fs=>
  obtain ⟨d,z,ne,e,mA,⟨od,es,ep,e2,c⟩,r⟩:=x
  exact ⟨ho _ d,z,ne,k _ _ (.inl rfl) e,mA,⟨od,es,ep,k _ _ (.inr d) e2,c⟩,r⟩
 | own y=>obtain ⟨ob,e⟩:=x;exact ⟨ob,k _ _ (.inl rfl) e⟩
 | xd fs=>obtain ⟨mA,⟨od,es,ep,e,c⟩,r⟩:=x;exact ⟨mA,⟨od,es,ep,k _ _ (.inl rfl) e,c⟩,r⟩
 | rng lo hi=>obtain ⟨t,u,v,e⟩:=x;exact ⟨t,u,v,k _ _ (.inl rfl) e⟩
 | frz ob u ih=>obtain ⟨e,q⟩:=x;exact ⟨k _ _ (.inl rfl) e,ih q⟩
 | tbl ps=>obtain ⟨qs,e,t,c⟩:=x;exact ⟨qs,k _ _ (.inl rfl) e,t,fun pos v q=>let ⟨c',oc,vs,y,e1,e2,e3⟩:=c pos v q;⟨c',oc,vs,y,e1,hf _ _ _ e2,e3⟩⟩
 | met f y=>
  have e:h.get? a=some (PySem.W.methodObj (.ref f) (.ref y)):=x;show h'.get? a=some (PySem.W.methodObj (.ref f) (.ref y))
  exact k a _ (.inl rfl) e
 | ext φ=>obtain ⟨p,⟨o,e⟩,st⟩:=x;exact ⟨st _ _ p fun o q=>k _ _ (.inl rfl) q,⟨o,k _ _ (.inl rfl) e⟩,st⟩
theorem HOk.lt(x:HOk P w H h)(e:H a=some o):a<h.objs.size:=(x a o e).lt
theorem HOk.fresh(x:HOk P w H h)(e:h.objs.size<=a):H a=none:=by
 cases q:H a with
 | none=>rfl
 | some u=>exact absurd (BA (x.lt q) e) (FR _)
theorem HOk.kept(x:HOk P w H h)(k:∀b u,h.get? b=some u->h'.get? b=some u):HOk P w H h':=fun a o e=>
 (x a o e).stay (fun b u _ q=>k b u q) (fun _ q=>q) fun _ _ q=>q
theorem HOk.laid(x:HOk P w H h)(k:∀b u,h.get? b=some u->h'.get? b=some u)(hp:h.objs.size<=a)(new:ObjOk P w (upd H a o) h' a o):HOk P w (upd H a o) h':=fun b u e=>by
 have hn:=x.fresh hp
 by_cases hb:b=a
 . subst hb;rw [BZ] at e;cases e;exact new
 . rw [BE hb] at e
   exact (x b u e).stay (fun c v _ q=>k c v q) (fun c q=>by rw [BE (BI q hn)];exact q) (fun c xs q=>by rw [BE (BI q hn)];exact q) fun c ob xs q=>by rw [BE (BI q hn)];exact q
end
def Rd(H:Hp)(a:Addr)(u:HO):Prop:=H a=some u\/∃o,H a=some (.frz o u)
theorem Rd.ok{P:Program}{w:World}{H:Hp}{h:Heap}{a:Addr}{u:HO}(r:Rd H a u)(x:HOk P w H h):ObjOk P w H h a u:=by
 rcases r with r | ⟨o,r⟩
 . exact x a u r
 . obtain ⟨_,q⟩:=x a _ r;exact q
def Mut:Option HO->Prop
 | some (.lst _)=>True
 | some (.dK _)=>True
 | some (.dT _)=>True
 | some (.set _ _)=>True
 | some (.ins _ _ _)=>True
 | some (.ext _)=>True
 | _=>False
section
variable {P:Program} {w:World} {H:Hp} {h h':Heap} {x e:Addr} {o':HO}
theorem HOk.write (ok : HOk P w H h) (mu : Mut (H x)) (he : e = x \/ H e = some (.own x)) (k : ∀ b u, b ≠ e -> h.get? b = some u -> h'.get? b = some u) (heo : ∃ u, h'.get? e = some u)
 (new:ObjOk P w (upd H x o') h' x o'):HOk P w (upd H x o') h':=fun b u q=>by
 have nown:∀c y,H c=some (.own y)->c≠x:=fun c y r z=>by subst z;rw [r] at mu;exact mu
 have ntup:∀c xs,H c=some (.tup xs)->c≠x:=fun c xs r z=>by subst z;rw [r] at mu;exact mu
 by_cases hb:b=x
 . subst hb;rw [BZ] at q;cases q;exact new
 . rw [BE hb] at q
   by_cases hbe:b=e
   . have q' : H b = some (.own x) := by
      rcases he with z | z
      . exact absurd (hbe.trans z) hb
      . rw [hbe];exact z
     rw [q] at q';cases q'
     obtain ⟨v,hv⟩:=heo;exact ⟨v,by rw [hbe];exact hv⟩
   . refine (ok b u q).stay (fun c v hc r=>k c v ?_ r) (fun c r=>by rw [BE (nown c b r)];exact r) (fun c xs r=>by rw [BE (ntup c xs r)];exact r) fun c ob xs r=>by rw [BE (fun z=>by subst z;rw [r] at mu;exact mu)];exact r
     rcases hc with rfl | hc
     . exact hbe
     . rintro rfl;rcases he with z | z
       . exact nown c b hc z
       . rw [hc] at z;cases z;exact hb rfl
end
structure Un (fs ex:List Addr) (H H':Hp) (h h':Heap):Prop where
 keep:∀b o,h.get? b=some o->H b=none->b ∉ fs->b ∉ ex->h'.get? b=some o
 slot:∀b o,h.get? b=some o->H b=none->b ∈ fs->b ∉ ex->∃sl,h'.get? b=some {o with slots:=sl}
 free:∀b o,h.get? b=some o->H b=none->b ∉ ex->H' b=none
 there:∀b o,h.get? b=some o->b ∉ ex->∃o',h'.get? b=some o'
 tups:∀b xs,H b=some (.tup xs)->H' b=some (.tup xs)
 frzs:∀b o u,H b=some (.frz o u)->H' b=some (.frz o u)
 tbls:∀b ps,H b=some (.tbl ps)->∃more,H' b=some (.tbl (ps++more))
section
variable {fs fs' ex ex':List Addr} {H H1 H2:Hp} {h h1 h2 h':Heap} {a x e:Addr} {o:HO}
theorem Un.any(u:Un fs ex H H1 h h1){b:Addr}{ob:Obj}(q:h.get? b=some ob)(n:H b=none)(hx:b ∉ ex):∃sl,h1.get? b=some {ob with slots:=sl}:=by
 by_cases hb:b ∈ fs
 . exact u.slot b ob q n hb hx
 . exact ⟨ob.slots,u.keep b ob q n hb hx⟩
theorem Un.kept(k:∀b u,h.get? b=some u->h'.get? b=some u):Un fs ex H H h h' :=
 ⟨fun b ob q _ _ _=>k b ob q,fun b ob q _ _ _=>⟨ob.slots,k b ob q⟩,fun _ _ _ n _=>n,fun b ob q _=>⟨ob,k b ob q⟩,fun _ _ q=>q,fun _ _ _ q=>q,fun _ ps q=>⟨#[],by rw [q];simp⟩⟩
theorem Un.refl:Un fs ex H H h h:=Un.kept fun _ _ q=>q
theorem Un.laid(k:∀b u,h.get? b=some u->h'.get? b=some u)(hp:h.objs.size<=a)(hn:H a=none):Un fs ex H (upd H a o) h h' where
 keep:=fun b u q _ _ _=>k b u q
 slot:=fun b u q _ _ _=>⟨u.slots,k b u q⟩
 free:=fun b u q n _=>by rw [BE (BP (BA (AU q) hp))];exact n
 there:=fun b u q _=>⟨u,k b u q⟩
 tups:=fun b xs q=>by rw [BE (BI q hn)];exact q
 frzs:=fun b u xs q=>by rw [BE (BI q hn)];exact q
 tbls:=fun b ps q=>⟨#[],by rw [BE (BI q hn),q];simp⟩
theorem Un.write(mu:Mut (H x))(he:e=x\/H e=some (.own x))(k:∀b u,b≠e->h.get? b=some u->h'.get? b=some u)(heo:∃u,h'.get? e=some u):Un fs ex H (upd H x o) h h':=by
 have hx:∀b,H b=none->b≠x:=fun b n z=>by subst z;rw [n] at mu;exact mu
 have hb:∀b,H b=none->b≠e:=fun b n z=>by
  subst z;rcases he with r | r
  . exact hx b n r
  . rw [n] at r;cases r
 have hm:∀b u,H b=some u->¬Mut (some u)->b≠x:=fun b u q nm z=>by subst z;rw [q] at mu;exact nm mu
 refine ⟨fun b u q n _ _=>k b u (hb b n) q,fun b u q n _ _=>⟨u.slots,k b u (hb b n) q⟩,fun b u q n _=>by rw [BE (hx b n)];exact n,fun b u q _=> ?_,
  fun b xs q=>by rw [BE (hm b _ q fun z=>z)];exact q,fun b u xs q=>by rw [BE (hm b _ q fun z=>z)];exact q,fun b ps q=>⟨#[],by rw [BE (hm b _ q fun z=>z),q];simp⟩⟩
 by_cases hbe:b=e
 . subst hbe;exact heo
 . exact ⟨u,k b u hbe q⟩
end
def trk(h:Heap)(H:Hp):List Addr:=(List.range h.objs.size).filter fun a=>(H a).isSome
def TB(h:Heap)(H:Hp):Heap:=PySem.W.hideAll h (trk h H)
theorem fN(h:Heap)(H:Hp):(TB h H).objs.size=h.objs.size:=PySem.W.hideAll_size _ _
theorem nA{h:Heap}{H:Hp}{b:Addr}{o:Obj}(e:h.get? b=some o)(n:H b=none):(TB h H).get? b=some o:=
 PySem.W.hideAll_get _ e fun hm=>by
  have q:(H b).isSome=true:=(C8.mp hm).2;rw [n] at q;simp at q
theorem pL{h:Heap}{H:Hp}{b:Addr}{o:Obj}(e:(TB h H).get? b=some o):h.get? b=some o/\H b=none:=by
 have e':h.get? b=some o:=PySem.W.of_hideAll (trk h H) e;refine ⟨e',?_⟩
 cases q:H b with
 | none=>rfl
 | some x=>
  have hm:b ∈ trk h H:=C8.mpr ⟨BF.mpr (AU e'),by simp [q]⟩;have z:(TB h H).get? b=none:=PySem.W.hideAll_none (trk h H) hm;rw [z] at e;cases e
def pJ(g h:Heap)(L:Addr):List (Addr×Obj):=(List.range h.objs.size).filterMap fun a=>if a=L\/(g.get? a).isSome=true then none else (h.get? a).map fun o=>(a,o)
def GR(g h:Heap)(L d:Addr):List (Addr×Obj):=(pJ g h L).filter fun p=>decide (p.1≠d)
end L2
namespace L2
open PySem PySem.Spec PyProof.Rows
def IN(K:PySem.W.Frag):List Addr:=match K.getLast? with
 | some (_,⟨.type "tables",_, .fields vs,_⟩)=>vs.toList.filterMap fun v=>match v with
  | .ref a=>some a
  | _=>none
 | _=> []
structure Mod (K:PySem.W.Frag) (mg:Str->Option Value) (base:Heap):Prop where
 kin:K.In base
 glob:base.Ns mainGlobals mg
 blt:∃mb,base.Ns builtinsNs mb/\∀x:Str,x ≠ "__name__" -> mb x=bootBuiltins x
 nolimit:base.NoLimit
structure Cx where
 prog:Program
 w:World
 K:PySem.W.Frag
 mg:Str->Option Value
 base:Heap
 A:Around
 N:List Str
 s₀:Shared
 H₀:Hp
 env:Env
 outer:List Env
 stack:List Env
 ex:List Addr
 fn:Str->Bool
 calm:Bool
 pn:List (Addr×Obj)
 xe:Value->Shared->Prop
def frs(l:List Env):List Addr:=l.filterMap (·.frame)
abbrev Cx.fs (X:Cx):List Addr:=frs X.outer
def Vis(sc:Scope)(x:Str):Prop:=sc.names.lookup x=some .local\/sc.names.lookup x=some .cell\/sc.names.lookup x=some .free
def Loc(sc:Scope)(x:Str):Prop:=sc.names.lookup x=some .local\/sc.names.lookup x=some .cell
def A92(env:Env)(h:Heap)(m:Str->Option Value)(x:Str)(u:Value):Prop:=
 (env.kindOf x=some .local/\m x=some u)\/((env.kindOf x=some .cell\/env.kindOf x=some .free)/\∃c,env.cells.lookup x=some c/\h.IsCell c (some u))
structure Cx.Ok (X:Cx):Prop where
 mod:Mod X.K X.mg X.base
 kind:X.env.scope.kind = .function
 glob:X.env.globals=mainGlobals
 blt:X.env.builtins=builtinsNs
 above:X.s₀.heap.objs.size<=X.env.locals
 inj:∀x y c,X.env.cells.lookup x=some c->X.env.cells.lookup y=some c->x=y
 has:∀x,(X.env.kindOf x=some .cell\/X.env.kindOf x=some .free)->∃c,X.env.cells.lookup x=some c
 cab:∀x c,X.fn x=true->X.env.cells.lookup x=some c->X.s₀.heap.objs.size<=c
 hd:X.calm=true->X.A.handled=none
 frames:X.A.frames=some X.stack
 stk:X.stack=X.outer\/(X.stack=X.env::X.outer/\X.env.frame=some X.env.locals)
 exf:∀b ∈ X.ex,b≠X.env.locals/\∀x c,X.env.cells.lookup x=some c->c≠b
 bs:∀b o,X.base.get? b=some o->X.s₀.heap.get? b=some o/\X.H₀ b=none
 bsz:X.base.objs.size<=X.s₀.heap.objs.size
 noex:∀b o,X.base.get? b=some o->b ∉ X.ex
 exfs:∀b ∈ X.ex,b ∉ X.fs
 funs:X.s₀.heap.FunFrames X.base X.outer
 frf:∀b ∈ X.fs,X.H₀ b=none
 tb:∀p ∈ IN X.K,∃ps,X.H₀ p=some (.tbl ps)
structure Inv (X:Cx) (pins:List (Addr×Obj)) (σ:List (Option V)) (H:Hp) (s:Shared):Prop where
 ok:X.Ok
 os:s.os=X.s₀.os
 bare:AllBare s.gens
 base:Un X.fs X.ex X.H₀ H X.s₀.heap s.heap
 loc:∃m,s.heap.Ns X.env.locals m/\∀(i:Nat) (x:Str) (v:V),X.N[i]? = some x->σ[i]? = some (some v)->Vis X.env.scope x->∃u,RelV v u/\A92 X.env s.heap m x u
 cell:∀x c,X.env.cells.lookup x=some c->∃v,s.heap.IsCell c v
 free:H X.env.locals=none
 freeC:∀x c,X.env.cells.lookup x=some c->H c=none
 pin:∀p ∈ X.pn++pins,s.heap.get? p.1=some p.2/\H p.1=none/\p.1≠X.env.locals/\p.1 ∉ X.fs/\∀v,p.2.data ≠ .cell v
 hok:HOk X.prog X.w H s.heap
 len:σ.length=X.N.length
section
variable {X:Cx} {pins:List (Addr×Obj)} {σ:List (Option V)} {H H':Hp} {s:Shared} {h':Heap}
theorem Cx.Ok.nofr(ok:X.Ok){b:Addr}{o:Obj}(e:X.base.get? b=some o):b ∉ X.fs:=fun hb=>by
 have:=(ok.funs.mem hb).1;rw [e] at this;cases this
theorem Inv.bs(I:Inv X pins σ H s):∀b o,X.base.get? b=some o->s.heap.get? b=some o/\H b=none:=fun b o e=>
 ⟨I.base.keep b o (I.ok.bs b o e).1 (I.ok.bs b o e).2 (I.ok.nofr e) (I.ok.noex b o e),I.base.free b o (I.ok.bs b o e).1 (I.ok.bs b o e).2 (I.ok.noex b o e)⟩
theorem Inv.bk(I:Inv X pins σ H s):∀b o,X.base.get? b=some o->s.heap.get? b=some o:=fun b o e=>(I.bs b o e).1
theorem Inv.tb(I:Inv X pins σ H s):∀p ∈ IN X.K,∃ps,H p=some (.tbl ps):=fun p hp=>by
 obtain ⟨ps,e⟩:=I.ok.tb p hp;obtain ⟨m,e2⟩:=I.base.tbls p ps e;exact ⟨_,e2⟩
theorem Inv.mod(I:Inv X pins σ H s):Mod X.K X.mg X.base:=I.ok.mod
theorem Inv.kIn(I:Inv X pins σ H s):X.K.In s.heap:=I.ok.mod.kin.keeps I.bk
theorem Inv.nolimit(I:Inv X pins σ H s):s.heap.NoLimit:=I.ok.mod.nolimit.keeps I.bk
theorem Inv.fr(I:Inv X pins σ H s):∃m,Fr X.base X.env.locals s.heap m:=
 let ⟨m,hn,_⟩:=I.loc
 ⟨m,hn,I.bk,BQ I.ok.bsz I.ok.above⟩
theorem Inv.lt(I:Inv X pins σ H s):X.env.locals<s.heap.objs.size:=let ⟨_,hn,_⟩:=I.loc;hn.lt
theorem Inv.sz(I:Inv X pins σ H s):X.s₀.heap.objs.size<=s.heap.objs.size:=BQ I.ok.above (JO I.lt)
theorem Inv.nofs(I:Inv X pins σ H s){a:Addr}(h:s.heap.objs.size<=a):a ∉ X.fs:=fun hb=>by
 obtain ⟨_,o,ho,_⟩:=I.ok.funs.mem hb;exact absurd (BA (AU ho) (BQ I.sz h)) (FR _)
theorem Inv.cne(I:Inv X pins σ H s):∀x c,X.env.cells.lookup x=some c->c≠X.env.locals:=fun x c e z=>by
 obtain ⟨v,o,ho,hd⟩:=I.cell x c e;obtain ⟨m,⟨o',es,ep,ho',hd',_⟩,_⟩:=I.loc;rw [z,ho'] at ho;cases ho;rw [hd'] at hd;cases hd
theorem Inv.funs(I:Inv X pins σ H s):s.heap.FunFrames X.base X.outer:=by
 have all:∀(l:List Env),(∀b ∈ frs l,b ∈ X.fs)->X.s₀.heap.FunFrames X.base l->s.heap.FunFrames X.base l:=by
  intro l
  induction l with
  | nil=>intro _ _;trivial
  | cons env r ih=>
   intro hs hl;obtain ⟨hk,⟨L,o,hf,hn,ho,hd⟩,hr⟩:=hl;have hL:L ∈ X.fs:=hs L (by unfold frs;rw [List.filterMap_cons,hf];exact List.mem_cons_self);obtain ⟨sl,e⟩:=I.base.slot L o ho (I.ok.frf L hL) hL fun z=>I.ok.exfs L z hL;exact ⟨hk,⟨L,_,hf,hn,e,hd⟩,ih (fun b hb=>hs b (by unfold frs;rw [List.filterMap_cons,hf];exact List.mem_cons_of_mem _ hb)) hr⟩
 exact all X.outer (fun _ hb=>hb) I.ok.funs
theorem Inv.stack(I:Inv X pins σ H s):s.heap.FunFrames X.base X.stack:=by
 rcases I.ok.stk with e | ⟨e,hf⟩
 . rw [e];exact I.funs
 . rw [e];obtain ⟨m,hn,_⟩:=I.loc;refine .cons (by rw [I.ok.kind];decide) hf hn ?_ I.funs;exact Heap.get?_none_of_le (BQ I.ok.bsz I.ok.above)
theorem Inv.stkSub(I:Inv X pins σ H s):∀b ∈ frs X.stack,b ∈ X.env.locals::X.fs:=fun b hb=>by
 rcases I.ok.stk with e | ⟨e,hf⟩
 . rw [e] at hb;exact AK _ hb
 . rw [e] at hb
   unfold frs at hb
   rw [List.filterMap_cons,hf] at hb
   exact hb
theorem Inv.stkFree(I:Inv X pins σ H s):∀b ∈ frs X.stack,H b=none:=fun b hb=>by
 rcases AN.mp (I.stkSub b hb) with e | hb
 . rw [e];exact I.free
 . obtain ⟨_,o,ho,_⟩:=I.ok.funs.mem hb;exact I.base.free b o ho (I.ok.frf b hb) fun z=>I.ok.exfs b z hb
theorem Inv.step {g' : Array GenState} {t' : Nat} {d' : Drawn} {ch : List Addr} (I : Inv X pins σ H s)
 (hch:∀b ∈ ch,(b ∈ X.ex\/X.s₀.heap.objs.size<=b)/\b≠X.env.locals/\(∀x c,X.env.cells.lookup x=some c->c≠b)/\∀p ∈ X.pn++pins,p.1≠b)
 (keep:∀b o,b≠X.env.locals->b ∉ X.fs->b ∉ ch->s.heap.get? b=some o->H b=none->h'.get? b=some o)
 (slot:∀b o,b≠X.env.locals->b ∈ X.fs->b ∉ ch->s.heap.get? b=some o->H b=none->∃sl,h'.get? b=some {o with slots:=sl}) (free:∀b o,b ∉ ch->s.heap.get? b=some o->H b=none->H' b=none)
 (there:∀b o,b ∉ ch->s.heap.get? b=some o->∃o',h'.get? b=some o')
 (tups:∀b xs,H b=some (.tup xs)->H' b=some (.tup xs)) (frzs:∀b o u,H b=some (.frz o u)->H' b=some (.frz o u)) (tbls:∀b ps,H b=some (.tbl ps)->∃more,H' b=some (.tbl (ps++more)))
 (ns:∀m,s.heap.Ns X.env.locals m->h'.Ns X.env.locals m) (hok:HOk X.prog X.w H' h') (hg:AllBare g') :
 Inv X pins σ H' {s with heap:=h',gens:=g',drawn:=d',toks:=t' }:=by
 have neL:∀b o,X.s₀.heap.get? b=some o->b≠X.env.locals:=fun b o e=>BP (BA (AU e) I.ok.above)
 have neC:∀b o,X.s₀.heap.get? b=some o->b ∉ X.ex->b ∉ ch:=fun b o e hx hb=>by
  rcases (hch b hb).1 with z | z
  . exact hx z
  . exact absurd (BA (AU e) z) (FR _)
 have cellK:∀x c,X.env.cells.lookup x=some c->∀v,s.heap.IsCell c v->h'.IsCell c v:=fun x c e v ⟨o,ho,hd⟩=>by
  have nch:c ∉ ch:=fun z=>(hch c z).2.2.1 x c e rfl
  by_cases hc:c ∈ X.fs
  . obtain ⟨sl,q⟩:=slot c o (I.cne x c e) hc nch ho (I.freeC x c e);exact ⟨_,q,hd⟩
  . exact ⟨o,keep c o (I.cne x c e) hc nch ho (I.freeC x c e),hd⟩
 refine ⟨I.ok,I.os,hg,⟨fun b o e n hb hx=> ?_,fun b o e n hb hx=> ?_,fun b o e n hx=> ?_,fun b o e hx=> ?_,fun b xs e=>tups b xs (I.base.tups b xs e),fun b o xs e=>frzs b o xs (I.base.frzs b o xs e),fun b ps e=> ?_⟩,?_,fun x c e=> ?_,?_,fun x c e=> ?_,fun p hp=> ?_,hok,I.len⟩
 . exact keep b o (neL b o e) hb (neC b o e hx) (I.base.keep b o e n hb hx) (I.base.free b o e n hx)
 . obtain ⟨sl,e1⟩:=I.base.slot b o e n hb hx;obtain ⟨sl',e2⟩:=slot b _ (neL b o e) hb (neC b o e hx) e1 (I.base.free b o e n hx);exact ⟨sl',e2⟩
 . obtain ⟨o',e1⟩:=I.base.there b o e hx;exact free b o' (neC b o e hx) e1 (I.base.free b o e n hx)
 . obtain ⟨o',e1⟩:=I.base.there b o e hx;exact there b o' (neC b o e hx) e1
 . obtain ⟨m1,e1⟩:=I.base.tbls b ps e;obtain ⟨m2,e2⟩:=tbls b _ e1;exact ⟨m1++m2,by rw [e2,Array.append_assoc]⟩
 . obtain ⟨m,hn,hl⟩:=I.loc;refine ⟨m,ns m hn,fun i x v e1 e2 e3=> ?_⟩;obtain ⟨u,r,l⟩:=hl i x v e1 e2 e3;refine ⟨u,r,?_⟩;rcases l with l | ⟨k,c,e,z⟩
   . exact .inl l
   . exact .inr ⟨k,c,e,cellK x c e _ z⟩
 . obtain ⟨v,z⟩:=I.cell x c e;exact ⟨v,cellK x c e v z⟩
 . obtain ⟨m,⟨o,_,_,ho,_⟩,_⟩:=I.loc;exact free _ o (fun z=>(hch _ z).2.1 rfl) ho I.free
 . obtain ⟨v,o,ho,hd⟩:=I.cell x c e;exact free c o (fun z=>(hch c z).2.2.1 x c e rfl) ho (I.freeC x c e)
 . obtain ⟨e,n,ne,nf,d⟩:=I.pin p hp;have nch:p.1 ∉ ch:=fun z=>(hch p.1 z).2.2.2 p hp rfl;exact ⟨keep p.1 p.2 ne nf nch e n,free p.1 p.2 nch e n,ne,nf,d⟩
theorem Inv.un{t':Nat}(I:Inv X pins σ H s)(u:Un X.fs [] H H' s.heap h')(hok:HOk X.prog X.w H' h'):Inv X pins σ H' {s with heap:=h',toks:=t' }:=by
 obtain ⟨m,⟨o,es,ep,ho,r⟩,_⟩:=id I.loc;obtain ⟨sl,hL⟩:=u.any ho I.free (by simp)
 exact I.step (g':=s.gens) (d':=s.drawn) (ch:= []) (fun _ z=>nomatch z) (fun b o _ hb _ e n=>u.keep b o e n hb (by simp)) (fun b o _ hb _ e n=>u.slot b o e n hb (by simp)) (fun b o _ e n=>u.free b o e n (by simp)) (fun b o _ e=>u.there b o e (by simp)) u.tups u.frzs u.tbls (fun m' hm=>by
  obtain ⟨o',es',ep',ho',r'⟩:=hm;rw [ho] at ho';cases ho'
  exact ⟨_,es',ep',hL,r'⟩) hok I.bare
theorem Inv.call {g' : Array GenState} {t' : Nat} {d' : Drawn} {ch : List Addr} (I : Inv X pins σ H s) (u : Un (frs X.stack) ch H H' s.heap h') (hok : HOk X.prog X.w H' h') (hg : AllBare g')
 (hch:∀b ∈ ch,(b ∈ X.ex\/X.s₀.heap.objs.size<=b)/\b≠X.env.locals/\(∀x c,X.env.cells.lookup x=some c->c≠b)/\∀p ∈ X.pn++pins,p.1≠b) :
 Inv X pins σ H' {s with heap:=h',gens:=g',drawn:=d',toks:=t' }:=by
 obtain ⟨m,⟨o,es,ep,ho,r⟩,_⟩:=id I.loc;obtain ⟨sl,hL⟩:=u.any ho I.free fun z=>(hch _ z).2.1 rfl
 exact I.step (ch:=ch) hch (fun b o hL hb hc e n=>u.keep b o e n (fun z=>(AN.mp (I.stkSub b z)).elim hL hb) hc) (fun b o _ _ hc e n=>u.any e n hc) (fun b o hc e n=>u.free b o e n hc) (fun b o hc e=>u.there b o e hc) u.tups u.frzs u.tbls (fun m' hm=>by
  obtain ⟨o',es',ep',ho',r'⟩:=hm;rw [ho] at ho';cases ho'
  exact ⟨_,es',ep',hL,r'⟩) hok hg
theorem Inv.turned {t' : Nat} {it : Addr} (I : Inv X pins σ H s) (k : ∀ b o, b ≠ it -> s.heap.get? b = some o -> h'.get? b = some o) (hn : H it = none) (hL : it ≠ X.env.locals)
 (h1:it ∈ X.ex\/X.s₀.heap.objs.size<=it) (h2:∀x c,X.env.cells.lookup x=some c->c≠it) (h3:∀p ∈ X.pn++pins,p.1≠it):Inv X pins σ H {s with heap:=h',toks:=t' }:=by
 have nit:∀b u,H b=some u->b≠it:=fun b u e z=>by rw [z,hn] at e;cases e
 refine I.step (g':=s.gens) (d':=s.drawn) (ch:= [it]) (fun b hb=> ?_) (fun b o _ _ hc e _=>k b o (fun z=>hc (by simp [z])) e) (fun b o _ _ hc e _=>⟨o.slots,k b o (fun z=>hc (by simp [z])) e⟩) (fun _ _ _ _ n=>n)
  (fun b o hc e=>⟨o,k b o (fun z=>hc (by simp [z])) e⟩) (fun _ _ e=>e) (fun _ _ _ e=>e) (fun b ps e=>⟨#[],by rw [e];simp⟩) (fun m hm=> ?_) (fun b u e=> ?_) I.bare
 . have e:b=it:=by simpa using hb
   subst e;exact ⟨h1,hL,h2,h3⟩
 . obtain ⟨o,es,ep,ho,r⟩:=hm;exact ⟨o,es,ep,k _ o (NG hL) ho,r⟩
 . refine (I.hok b u e).stay (fun c v hc q=>k c v ?_ q) (fun _ q=>q) fun _ _ q=>q;rcases hc with z | z
   . rw [z];exact nit b u e
   . exact nit c _ z
theorem Inv.tok(I:Inv X pins σ H s)(t:Nat):Inv X pins σ H {s with toks:=t}:=I.un (h':=s.heap) (t':=t) Un.refl I.hok
theorem Inv.kept{t':Nat}(I:Inv X pins σ H s)(k:∀b u,s.heap.get? b=some u->h'.get? b=some u):Inv X pins σ H {s with heap:=h',toks:=t' }:=I.un (Un.kept k) (I.hok.kept k)
theorem Inv.laid {a : Addr} {o : HO} {t' : Nat} (I : Inv X pins σ H s) (k : ∀ b u, s.heap.get? b = some u -> h'.get? b = some u) (hp : s.heap.objs.size <= a) (new : ObjOk X.prog X.w (upd H a o) h' a o) :
 Inv X pins σ (upd H a o) {s with heap:=h',toks:=t' }:=I.un (Un.laid k hp (I.hok.fresh hp)) (I.hok.laid k hp new)
theorem Inv.write {x e : Addr} {o : HO} {t' : Nat} (I : Inv X pins σ H s) (mu : Mut (H x)) (he : e = x \/ H e = some (.own x)) (k : ∀ b u, b ≠ e -> s.heap.get? b = some u -> h'.get? b = some u) (heo : ∃ u, h'.get? e = some u)
 (new:ObjOk X.prog X.w (upd H x o) h' x o):Inv X pins σ (upd H x o) {s with heap:=h',toks:=t' }:=I.un (Un.write mu he k heo) (I.hok.write mu he k heo new)
theorem Inv.weak{σ':List (Option V)}(I:Inv X pins σ H s)(hl:σ'.length=σ.length)(w:∀(i:Nat) v,σ'[i]? = some (some v)->σ[i]? = some (some v)):Inv X pins σ' H s:=
 ⟨I.ok,I.os,I.bare,I.base,let ⟨m,hn,hl'⟩:=I.loc;⟨m,hn,fun i x v e1 e2 e3=>hl' i x v e1 (w i v e2) e3⟩,I.cell,I.free,I.freeC,I.pin,I.hok,hl.trans I.len⟩
theorem Inv.pins_of{pins':List (Addr×Obj)}(I:Inv X pins σ H s)(h:∀p ∈ pins',s.heap.get? p.1=some p.2/\H p.1=none/\p.1≠X.env.locals/\p.1 ∉ X.fs/\∀v,p.2.data ≠ .cell v):Inv X pins' σ H s:=
 ⟨I.ok,I.os,I.bare,I.base,I.loc,I.cell,I.free,I.freeC,fun p hp=>(AV.mp hp).elim (fun z=>I.pin p (DY _ z)) (h p),I.hok,I.len⟩
theorem XR{N:List Str}(hN:N.Nodup){i j:Nat}{x:Str}(a:N[i]? = some x)(b:N[j]? = some x):i=j:=by
 obtain ⟨h1,e1⟩:=AS.mp a;obtain ⟨h2,e2⟩:=AS.mp b;exact (List.getElem_inj hN).mp (e1.trans e2.symm)
theorem V8 {M : Model} {A : Around} {E : Value -> Shared -> Prop} {i : Nat} {x : Str} {v : V} {u : Value} {Q : Unit -> Shared -> Prop} (I : Inv X pins σ H s) (hN : X.N.Nodup) (hi : X.N[i]? = some x) (hx : Loc X.env.scope x) (r : RelV v u)
 (h:∀s',Inv X pins (σ.set i (some v)) H s'->(∃a,Heap.SameBut a s.heap s'.heap/\(a=X.env.locals\/X.env.cells.lookup x=some a))->Q () s') (hf:X.fn x=true\/X.env.scope.names.lookup x=some .local:=by first | exact .inl rfl | exact .inr rfl | assumption):wpAny M A (storeName X.env x u) Q E s:=by
 obtain ⟨m,hn,hl⟩:=id I.loc;have hcls:(X.env.scope.kind == .class || (X.env.scope.kind == .module && X.env.locals != X.env.globals))=false:=by rw [I.ok.kind];rfl
 have hiσ:i<σ.length:=by rw [I.len];exact (AS.mp hi).1
 have cne:=I.cne
 have tracked:∀ {a:Addr} {h':Heap},(∃o,s.heap.get? a=some o/\H a=none)->Heap.SameBut a s.heap h'->HOk X.prog X.w H h':=fun {a h'} ha hs b ob e=>by
  obtain ⟨_,_,hfree⟩:=ha;refine (I.hok b ob e).stay (fun c w' hc q=>(hs.2 c ?_).trans q) (fun _ q=>q) fun _ _ q=>q;rintro rfl;rcases hc with rfl | hc
  . rw [hfree] at e;cases e
  . rw [hfree] at hc;cases hc
 rcases hx with hk | hk
 . refine wpAny_storeName_local hk hn (fun h' hn' hs=> ?_) hcls;obtain ⟨oL,_,_,hoL,_⟩:=id hn;refine h _ ⟨I.ok,I.os,I.bare,⟨fun b o e n hb hx=> ?_,fun b o e n hb hx=> ?_,I.base.free,fun b o e hx=> ?_,I.base.tups,I.base.frzs,I.base.tbls⟩,⟨_,hn',fun j y v' e1 e2 e3=> ?_⟩,fun y c e=> ?_,I.free,I.freeC,fun p hp=> ?_,tracked ⟨oL,hoL,I.free⟩ hs,by simpa using I.len⟩ ⟨_,hs, .inl rfl⟩
   . exact (hs.2 b (BP (BA (AU e) I.ok.above))).trans (I.base.keep b o e n hb hx)
   . obtain ⟨sl,e1⟩:=I.base.slot b o e n hb hx;exact ⟨sl,(hs.2 b (BP (BA (AU e) I.ok.above))).trans e1⟩
   . obtain ⟨o',e1⟩:=I.base.there b o e hx;exact ⟨o',(hs.2 b (BP (BA (AU e) I.ok.above))).trans e1⟩
   . by_cases hj:j=i
     . subst hj;rw [hi] at e1;cases e1
       rw [uX hiσ] at e2
       cases e2
       exact ⟨u,r, .inl ⟨hk,by simp⟩⟩
     . rw [B4 (NG hj)] at e2
       obtain ⟨u',r',q⟩:=hl j y v' e1 e2 e3;refine ⟨u',r',?_⟩;rcases q with ⟨k,e⟩ | ⟨k,c,e,z⟩
       . refine .inl ⟨k,?_⟩;have:y≠x:=fun e=>hj (XR hN e1 (e ▸ hi));simp [this,e]
       . exact .inr ⟨k,c,e,z.sameBut hs (cne y c e)⟩
   . obtain ⟨w',z⟩:=I.cell y c e;exact ⟨w',z.sameBut hs (cne y c e)⟩
   . obtain ⟨e,n,ne,nf,d⟩:=I.pin p hp;exact ⟨(hs.2 p.1 ne).trans e,n,ne,nf,d⟩
 . have hfn : X.fn x = true := by
    rcases hf with z | z
    . exact z
    . rw [z] at hk;cases hk
   obtain ⟨c,hc⟩:=I.ok.has x (.inl hk);obtain ⟨w',z⟩:=I.cell x c hc;refine wpAny_storeName_cell I.ok.kind hk hc z (fun h' hc' hs=> ?_);obtain ⟨oc,hoc,hocd⟩:=id z;refine h {s with heap:=h' } ⟨I.ok,I.os,I.bare,⟨fun b o e n hb hx=> ?_,fun b o e n hb hx=> ?_,I.base.free,fun b o e hx=> ?_,I.base.tups,I.base.frzs,I.base.tbls⟩,⟨m,hn.sameBut hs (NG (cne x c hc)),fun j y v' e1 e2 e3=> ?_⟩,fun y c' e=> ?_,I.free,I.freeC,fun p hp=> ?_,tracked ⟨oc,hoc,I.freeC x c hc⟩ hs,by simpa using I.len⟩ ⟨c,hs, .inr hc⟩
   . exact (hs.2 b (BP (BA (AU e) (I.ok.cab x c hfn hc)))).trans (I.base.keep b o e n hb hx)
   . obtain ⟨sl,e1⟩:=I.base.slot b o e n hb hx;exact ⟨sl,(hs.2 b (BP (BA (AU e) (I.ok.cab x c hfn hc)))).trans e1⟩
   . obtain ⟨o',e1⟩:=I.base.there b o e hx;exact ⟨o',(hs.2 b (BP (BA (AU e) (I.ok.cab x c hfn hc)))).trans e1⟩
   . by_cases hj:j=i
     . subst hj;rw [hi] at e1;cases e1
       rw [uX hiσ] at e2
       cases e2
       exact ⟨u,r, .inr ⟨.inl hk,c,hc,hc'⟩⟩
     . rw [B4 (NG hj)] at e2
       obtain ⟨u',r',q⟩:=hl j y v' e1 e2 e3;refine ⟨u',r',?_⟩;rcases q with q | ⟨k,c',e,z'⟩
       . exact .inl q
       . refine .inr ⟨k,c',e,z'.sameBut hs ?_⟩;rintro rfl;exact hj (XR hN e1 (I.ok.inj _ _ _ e hc ▸ hi))
   . by_cases hcc:c'=c
     . subst hcc;exact ⟨_,hc'⟩
     . obtain ⟨w2,z2⟩:=I.cell y c' e;exact ⟨w2,z2.sameBut hs hcc⟩
   . obtain ⟨e,n,ne,nf,d⟩:=I.pin p hp;refine ⟨(hs.2 p.1 ?_).trans e,n,ne,nf,d⟩;intro q;rw [q,hoc] at e
     have q':oc=p.2:=BG e;exact d w' (by rw [<-q'];exact hocd)
theorem YO {M : Model} {A : Around} {E : Value -> Shared -> Prop} {i : Nat} {x : Str} {v : V} {u : Value} {Q : Unit -> Shared -> Prop} (I : Inv X pins σ H s) (hN : X.N.Nodup) (hi : X.N[i]? = some x) (hx : Loc X.env.scope x) (r : RelV v u)
 (h:∀s',Inv X pins (σ.set i (some v)) H s'->Q () s') (hf:X.fn x=true\/X.env.scope.names.lookup x=some .local:=by first | exact .inl rfl | exact .inr rfl | assumption):wpAny M A (storeName X.env x u) Q E s:=
 V8 I hN hi hx r (fun s' I' _=>h s' I') hf
theorem Inv.call' {s' : Shared} {ch : List Addr} (I : Inv X pins σ H s) (ho : s'.os = s.os) (u : Un (frs X.stack) ch H H' s.heap s'.heap) (hok : HOk X.prog X.w H' s'.heap) (hg : AllBare s'.gens)
 (hch:∀b ∈ ch,(b ∈ X.ex\/X.s₀.heap.objs.size<=b)/\b≠X.env.locals/\(∀x c,X.env.cells.lookup x=some c->c≠b)/\∀p ∈ X.pn++pins,p.1≠b):Inv X pins σ H' s':=by
 obtain ⟨h',g',d',t',o'⟩:=s';have e:o'=s.os:=ho;subst e;exact I.call (g':=g') (t':=t') (d':=d') u hok hg hch
end
abbrev XK:=Value->Option Addr->Hp->Prop
abbrev St:=List (Option V)
abbrev VK:=V->Hp->Prop
abbrev TE:=St->Hp->VK->Prop
abbrev TT:=St->Hp->(Bool->Hp->Prop)->Prop
abbrev TA:=St->Hp->(List V->Hp->Prop)->Prop
structure Ends where
 nx:St->Hp->Prop
 rt:VK
 bk:St->Hp->Prop:=fun _ _=>False
 ct:St->Hp->Prop:=fun _ _=>False
abbrev TS:=Ends->St->Hp->Prop
def EP(X:Cx)(pins:List (Addr×Obj))(σ:St)(Q:VK)(u:Value)(s':Shared):Prop:=∃v H',Inv X pins σ H' s'/\RelV v u/\Q v H'
def TP(X:Cx)(pins:List (Addr×Obj))(σ:St)(Q:Bool->Hp->Prop)(b:Bool)(s':Shared):Prop:=∃H',Inv X pins σ H' s'/\Q b H'
def AP(X:Cx)(pins:List (Addr×Obj))(σ:St)(Q:List V->Hp->Prop)(us:List Value)(s':Shared):Prop:=∃vs H',Inv X pins σ H' s'/\Vals vs us/\Q vs H'
def SP(X:Cx)(pins:List (Addr×Obj))(D:Ends)(f:Flow)(s':Shared):Prop:=
 match f with
 | .next=>∃σ' H',Inv X pins σ' H' s'/\D.nx σ' H'
 | .brk=>∃σ' H',Inv X pins σ' H' s'/\D.bk σ' H'
 | .cont=>∃σ' H',Inv X pins σ' H' s'/\D.ct σ' H'
 | .ret u=>∃v σ' H',Inv X pins σ' H' s'/\RelV v u/\D.rt v H'
def PE(X:Cx)(e:Expr)(t:TE):Prop:=
 ∀(pins:List (Addr×Obj)) (s:Shared) (σ:St) (H:Hp) (Q:VK),Inv X pins σ H s->t σ H Q->wpAny (model X.prog X.w) X.A (eval e X.env) (EP X pins σ Q) X.xe s
def PT(X:Cx)(e:Expr)(t:TT):Prop:=
 ∀(pins:List (Addr×Obj)) (s:Shared) (σ:St) (H:Hp) (Q:Bool->Hp->Prop),Inv X pins σ H s->t σ H Q->wpAny (model X.prog X.w) X.A (isTrue e X.env (eval e X.env)) (TP X pins σ Q) X.xe s
def PW(X:Cx)(e:Expr)(t:TT):Prop:=
 ∀(whole:Sem Value) (pins:List (Addr×Obj)) (s:Shared) (σ:St) (H:Hp) (Q:Bool->Hp->Prop),Inv X pins σ H s->t σ H Q->wpAny (model X.prog X.w) X.A (isTrue e X.env whole) (TP X pins σ Q) X.xe s
theorem PW.pt{X:Cx}{e:Expr}{t:TT}(h:PW X e t):PT X e t:=h _
def PA(X:Cx)(es:List Expr)(t:TA):Prop:=
 ∀(pos:Pos) (pins:List (Addr×Obj)) (s:Shared) (σ:St) (H:Hp) (Q:List V->Hp->Prop),Inv X pins σ H s->t σ H Q->wpAny (model X.prog X.w) X.A (spliced (backTo pos (starEach es X.env))) (AP X pins σ Q) X.xe s
def PS(X:Cx)(st:Stmt)(t:TS):Prop:=
 ∀(pins:List (Addr×Obj)) (s:Shared) (σ:St) (H:Hp) (D:Ends),Inv X pins σ H s->t D σ H->wpAny (model X.prog X.w) X.A (exec st X.env) (SP X pins D) X.xe s
def PSs(X:Cx)(st:List Stmt)(t:TS):Prop:=
 ∀(pins:List (Addr×Obj)) (s:Shared) (σ:St) (H:Hp) (D:Ends),Inv X pins σ H s->t D σ H->wpAny (model X.prog X.w) X.A (execs st X.env) (SP X pins D) X.xe s
theorem thn{α:Type}{t:Sem α}{Q Q':α->Shared->Prop}{M:Model}{A:Around}{E:Value->Shared->Prop}{s:Shared}(h:wpAny M A t Q E s)(hQ:∀a s,Q a s->Q' a s):wpAny M A t Q' E s:=E1 h hQ fun _ _ x=>x
end L2
namespace L2
open PySem PySem.Spec PyProof.Rows
section
variable {X:Cx}
theorem bin {a b : Expr} {ta tb : TE} (ha : PE X a ta) (hb : PE X b tb) {pins : List (Addr × Obj)} {s : Shared} {σ : St} {H : Hp} {R : V -> V -> Hp -> Prop} (I : Inv X pins σ H s) (h : ta σ H fun x H1 => tb σ H1 fun y H2 => R x y H2)
 {α:Type} {Q:α->Shared->Prop} {f:Value->Value->Sem α}
 (hf:∀v u s2 x y H2,Inv X pins σ H2 s2->RelV x v->RelV y u->R x y H2->wpAny (model X.prog X.w) X.A (f v u) Q X.xe s2) :
 wpAny (model X.prog X.w) X.A (eval a X.env) (fun v s₁=>wpAny (model X.prog X.w) X.A (eval b X.env) (fun u s₂=>wpAny (model X.prog X.w) X.A (f v u) Q X.xe s₂) X.xe s₁) X.xe s:=by
 refine thn (ha pins s σ H _ I h) fun v s1 ⟨x,H1,I1,r1,q1⟩ => ?_;refine thn (hb pins s1 σ H1 _ I1 q1) fun u s2 ⟨y,H2,I2,r2,q2⟩ => ?_;exact hf v u s2 x y H2 I2 r1 r2 q2
def ZH(i:Nat):TE:=fun σ H Q=>∃v,σ[i]? = some (some v)/\Q v H
def tC(v:V):TE:=fun _ H Q=>Q v H
theorem Q3 {i:Nat} {x:Str} {pos:Pos} (hN:X.N[i]? = some x) (hv:Vis X.env.scope x) (hd:(x==("__debug__" : Str))=false:=by decide) (hcd:(x==("__classdict__" : Str))=false:=by decide):PE X (.Name x pos) (ZH i):=by
 intro pins s σ H Q I h;obtain ⟨v,e,h⟩:=h;obtain ⟨m,hn,hl⟩:=I.loc;obtain ⟨u,r,l⟩:=hl i x v hN e hv;have fin:EP X pins σ Q u s:=⟨v,H,I,r,h⟩;rcases l with ⟨hk,hm⟩ | ⟨hk,c,hc,hcell⟩
 . exact wpAny_Name (wpAny_loadName_local I.ok.kind hk hn hm fin) hd
 . rcases hk with hk | hk
   . exact wpAny_Name (wpAny_loadName_cell I.ok.kind hk hc hcell fin) hd
   . exact wpAny_Name (wpAny_loadName_free I.ok.kind hk hc hcell fin hcd) hd
theorem wE{i j pos}:PE X (.Constant (.int i) j pos) (tC (.int i)):=fun _ _ _ H _ I h=>wpAny_Constant_int ⟨.int i,H,I.tok _,⟨_,rfl⟩,h⟩
theorem A53{b j pos}:PE X (.Constant (.bool b) j pos) (tC (.bl b)):=fun _ _ _ H _ I h=>Constant_bool ⟨.bl b,H,I,rfl,h⟩
theorem vZ{j pos}:PE X (.Constant .none j pos) (tC .non):=fun _ _ _ H _ I h=>Constant_none ⟨.non,H,I,rfl,h⟩
theorem vI{x j pos}:PE X (.Constant (.str x) j pos) (tC (.str x)):=fun _ _ _ H _ I h=>Calls.Constant_str ⟨.str x,H,I.tok _,⟨_,rfl⟩,h⟩
def Gl(X:Cx)(x:Str):Prop:=X.env.kindOf x=some .globalImplicit
theorem bL {E : Value -> Shared -> Prop} {pins : List (Addr × Obj)} {s : Shared} {σ : St} {H : Hp} {x : Str} {u : Value} {pos : Pos} {Q : Value -> Shared -> Prop} (I : Inv X pins σ H s) (hg : Gl X x) (hm : X.mg x = some u) (h : Q u s)
 (hd:(x==("__debug__" : Str))=false:=by decide):wpAny (model X.prog X.w) X.A (eval (.Name x pos) X.env) Q E s:=
 zU I.ok.kind hg (Calls.loadGlobal_global (by rw [I.ok.glob];exact I.mod.glob.keeps I.bk) hm h) hd
theorem GS {E : Value -> Shared -> Prop} {pins : List (Addr × Obj)} {s : Shared} {σ : St} {H : Hp} {x : Str} {u : Value} {pos : Pos} {Q : Value -> Shared -> Prop} (I : Inv X pins σ H s) (hg : Gl X x) (hm : X.mg x = none) (hv : bootBuiltins x = some u) (h : Q u s)
 (hn:x ≠ "__name__" :=by decide) (hd:(x==("__debug__" : Str))=false:=by decide):wpAny (model X.prog X.w) X.A (eval (.Name x pos) X.env) Q E s:=by
 obtain ⟨mb,h1,h2⟩:=I.mod.blt;exact zU I.ok.kind hg (Calls.loadGlobal_builtin (by rw [I.ok.glob];exact I.mod.glob.keeps I.bk) hm (by rw [I.ok.blt];exact h1.keeps I.bk) ((h2 x hn).trans hv) h) hd
theorem qL {x:Str} {v:V} {u:Value} {pos:Pos} (hg:Gl X x) (hm:X.mg x=none) (hv:bootBuiltins x=some u) (r:RelV v u) (hn:x ≠ "__name__" :=by decide) (hd:(x==("__debug__" : Str))=false:=by decide):PE X (.Name x pos) (tC v) :=
 fun _ _ _ H _ I h=>GS I hg hm hv ⟨v,H,I,r,h⟩ hn hd
variable {a b:Expr} {ta tb:TE} {pos:Pos}
def PC(X:Cx)(op:CmpOp)(a b:Expr)(t:TE):Prop:=
 ∀(pins:List (Addr×Obj)) (s:Shared) (σ:St) (H:Hp) (Q:VK),Inv X pins σ H s->t σ H Q ->
   wpAny (model X.prog X.w) X.A (eval a X.env) (fun v s₁=>wpAny (model X.prog X.w) X.A (eval b X.env) (fun u s₂=>wpAny (model X.prog X.w) X.A (compareOp op v u) (EP X pins σ Q) X.xe s₂) X.xe s₁) X.xe s
def tB(t:TE):TT:=fun σ H Q=>t σ H fun x H1=>∃c,x = .bl c/\Q c H1
theorem vD{op:CmpOp}{t:TE}(h:PC X op a b t)(h1:behindInMarks op b=false:=by first | exact nobehind _ (by decide) (by decide) | rfl):PT X (.Compare a [op] [b] pos) (tB t):=by
 intro pins s σ H Q I hw;refine AB1 (thn (h pins s σ H _ I hw) fun v s1 h1=>thn h1 fun u s2 h2=>thn h2 fun c s3 ⟨x,H1,I1,r1,q1⟩ => ?_) h1;obtain ⟨d,rfl,q⟩:=q1
 cases r1
 exact EB ⟨H1,I1,q⟩
theorem xZ{e:Expr}{t:TE}(h:PE X e t)(he:∀whole,isTrue e X.env whole=(do let v <-whole;standAt e.pos;holding [v] (truthy v)):=by intro _;rfl):PT X e (tB t):=by
 intro pins s σ H Q I hw;refine isTrue_plain (thn (h pins s σ H _ I hw) fun v s1 ⟨x,H1,I1,r1,q1⟩ => ?_) (he _);obtain ⟨d,rfl,q⟩:=q1
 cases r1
 exact EB ⟨H1,I1,q⟩
variable {tA tB':TT} {GR:List Expr}
def A38(t u:TT):TT:=fun σ H Q=>t σ H fun c H1=>if c=true then u σ H1 Q else Q false H1
def tOr(t u:TT):TT:=fun σ H Q=>t σ H fun c H1=>if c=true then Q true H1 else u σ H1 Q
def A23(t:TT):TT:=fun σ H Q=>t σ H fun c H1=>Q (!c) H1
theorem oU(ha:PT X a tA):PW X (.BoolOp .And [a] pos) tA:=by
 intro wh pins s σ H Q I h;refine isTrue_and (thn (ha pins s σ H Q I h) fun c s1 e=> ?_)
 cases c with
 | true=>exact isTrue_and_nil e
 | false=>exact e
theorem yV(ha:PT X a tA):PW X (.BoolOp .Or [a] pos) tA:=by
 intro wh pins s σ H Q I h;refine isTrue_or (thn (ha pins s σ H Q I h) fun c s1 e=> ?_)
 cases c with
 | false=>exact isTrue_or_nil e
 | true=>exact e
theorem zC(ha:PT X a tA)(hb:PW X (.BoolOp .And (b::GR) pos) tB'):PW X (.BoolOp .And (a::b::GR) pos) (A38 tA tB'):=by
 intro wh pins s σ H Q I h;refine isTrue_and (thn (ha pins s σ H _ I h) fun c s1 ⟨H1,I1,q1⟩ => ?_)
 cases c with
 | true=>exact hb wh pins s1 σ H1 Q I1 q1
 | false=>exact ⟨H1,I1,q1⟩
theorem A16(ha:PT X a tA)(hb:PW X (.BoolOp .Or (b::GR) pos) tB'):PW X (.BoolOp .Or (a::b::GR) pos) (tOr tA tB'):=by
 intro wh pins s σ H Q I h;refine isTrue_or (thn (ha pins s σ H _ I h) fun c s1 ⟨H1,I1,q1⟩ => ?_)
 cases c with
 | true=>exact ⟨H1,I1,q1⟩
 | false=>exact hb wh pins s1 σ H1 Q I1 q1
theorem xI(ha:PT X a tA):PT X (.UnaryOp .Not a pos) (A23 tA):=by
 intro pins s σ H Q I h;exact isTrue_not (ha pins s σ H (fun c H1=>Q (!c) H1) I h)
def t8(ta tb:TE):TE:=fun σ H Q=>ta σ H fun x H1=>∃c,x = .bl c/\if c=true then tb σ H1 Q else Q (.bl false) H1
def tN(ta:TE):TE:=fun σ H Q=>ta σ H fun x H1=>∃c,x = .bl c/\Q (.bl (!c)) H1
theorem wT{op}{t:TE}(h:PE X a t):PE X (.BoolOp op [a] pos) t:=fun pins s σ H Q I hw=>BoolOp_one (h pins s σ H Q I hw)
theorem yK(ha:PE X a ta)(hb:PE X (.BoolOp .And (b::GR) pos) tb):PE X (.BoolOp .And (a::b::GR) pos) (t8 ta tb):=by
 intro pins s σ H Q I h;refine BoolOp_and (thn (ha pins s σ H _ I h) fun v s1 ⟨x,H1,I1,r1,q1⟩ => ?_);obtain ⟨c,rfl,q1⟩:=q1
 cases r1
 refine EB ?_
 cases c with
 | true=>exact hb pins s1 σ H1 Q I1 q1
 | false=>exact ⟨.bl false,H1,I1,rfl,q1⟩
theorem wZ(ha:PE X a ta):PE X (.UnaryOp .Not a pos) (tN ta):=by
 intro pins s σ H Q I h;refine UnaryOp_ (thn (ha pins s σ H _ I h) fun v s1 ⟨x,H1,I1,r1,q1⟩ => ?_);obtain ⟨c,rfl,q1⟩:=q1
 cases r1
 exact not_of (EB ⟨.bl (!c),H1,I1,rfl,q1⟩)
def tIf(t:TT)(ta tb:TE):TE:=fun σ H Q=>t σ H fun c H1=>if c=true then ta σ H1 Q else tb σ H1 Q
theorem mY{c:Expr}(hc:PT X c tA)(ha:PE X a ta)(hb:PE X b tb):PE X (.IfExp c a b pos) (tIf tA ta tb):=by
 intro pins s σ H Q I h;refine wpAny_IfExp (thn (hc pins s σ H _ I h) fun d s1 ⟨H1,I1,q1⟩ => ?_)
 cases d with
 | true=>exact ha pins s1 σ H1 Q I1 q1
 | false=>exact hb pins s1 σ H1 Q I1 q1
end
end L2
namespace L2
open PySem PySem.Spec PyProof.Rows
def SqL(K:PySem.W.Frag)(H:Hp)(a:Addr)(xs:List V):Prop:=
 Rd H a (.lst xs) \/
  ∃(o:Obj) (its:Array Value) (n:Nat),K.lookup a=some o/\o.cls = .type "list" /\ o.dict=none/\o.data = .seq its n/\its.size<=sizeLine/\Vals xs its.toList
def SqT(K:PySem.W.Frag)(H:Hp)(a:Addr)(xs:List V):Prop:=
 Rd H a (.tup xs) \/
  ∃(o:Obj) (its:Array Value) (n:Nat),K.lookup a=some o/\o.cls = .type "tuple" /\ o.data = .seq its n/\its.size<=sizeLine/\Vals xs its.toList
def A89:Value->Option V
 | .none=>some .non
 | .bool b=>some (.bl b)
 | .int i _=>some (.int i)
 | .str x _=>some (.str x)
 | .bytes b _=>some (.byt b)
 | .float b _=>some (.flt b)
 | .ref a=>some (.ref a)
 | .type n=>some (.ty n)
 | _=>none
theorem RelV.abs{x:V}{u:Value}(r:RelV x u):A89 u=some x:=by
 cases x with
 | non=>cases r;rfl
 | bl _=>cases r;rfl
 | int _=>obtain ⟨t,rfl⟩:=r;rfl
 | str _=>obtain ⟨t,rfl⟩:=r;rfl
 | byt _=>obtain ⟨t,rfl⟩:=r;rfl
 | flt _=>obtain ⟨t,rfl⟩:=r;rfl
 | ref _=>cases r;rfl
 | ty _=>cases r;rfl
theorem RelV.inj{x y:V}{u:Value}(r:RelV x u)(q:RelV y u):x=y:=BG (r.abs.symm.trans q.abs)
theorem Vals.inj:∀ {xs ys:List V} {us:List Value},Vals xs us->Vals ys us->xs=ys
 | _,_,_, .nil, .nil=>rfl
 | _,_,_, .cons r t, .cons r' t'=>by rw [r.inj r',Vals.inj t t']
section
variable {X:Cx} {pins:List (Addr×Obj)} {σ:St} {H:Hp} {s:Shared} {a:Addr} {xs ys:List V}
theorem SqL.of{K:PySem.W.Frag}(h:H a=some (.lst xs)):SqL K H a xs:= .inl (.inl h)
theorem SqT.of{K:PySem.W.Frag}(h:H a=some (.tup xs)):SqT K H a xs:= .inl (.inl h)
theorem Inv.list(I:Inv X pins σ H s)(h:SqL X.K H a xs):∃its:List Value,Vals xs its/\PlainL s.heap a its.toArray/\xs.length<=sizeLine:=by
 rcases h with h | ⟨o,its,n,hk,hc,hd,hs,hz,r⟩
 . obtain ⟨z,its,n,r,e⟩:=h.ok I.hok;exact ⟨its,r,⟨_,n,e,rfl,rfl,rfl⟩,z⟩
 . refine ⟨its.toList,r,⟨o,n,I.kIn a o hk,hc,hd,by simpa using hs⟩,?_⟩;have e:=r.length;simp only [BJ] at e
   omega
theorem Inv.tuple(I:Inv X pins σ H s)(h:SqT X.K H a xs):∃its:List Value,Vals xs its/\IsTup s.heap a its.toArray/\xs.length<=sizeLine:=by
 rcases h with h | ⟨o,its,n,hk,hc,hs,hz,r⟩
 . obtain ⟨z,its,r,p⟩:=h.ok I.hok;exact ⟨its,r,p,z⟩
 . refine ⟨its.toList,r,⟨o,I.kIn a o hk,hc,n,by simpa using hs⟩,?_⟩;have e:=r.length;simp only [BJ] at e
   omega
theorem Inv.list_inj(I:Inv X pins σ H s)(h:SqL X.K H a xs)(h':SqL X.K H a ys):xs=ys:=by
 obtain ⟨its,r,⟨o,n,e,_,_,d⟩,_⟩:=I.list h;obtain ⟨its',r',⟨o',n',e',_,_,d'⟩,_⟩:=I.list h';rw [e] at e';cases e'
 rw [d] at d'
 injection d' with d1 _
 have:its=its':=by simpa using KZ Array.toList d1
 subst this;exact r.inj r'
theorem Inv.tuple_inj(I:Inv X pins σ H s)(h:SqT X.K H a xs)(h':SqT X.K H a ys):xs=ys:=by
 obtain ⟨its,r,⟨o,e,_,n,d⟩,_⟩:=I.tuple h;obtain ⟨its',r',⟨o',e',_,n',d'⟩,_⟩:=I.tuple h';rw [e] at e';cases e'
 rw [d] at d'
 injection d' with d1 _
 have:its=its':=by simpa using KZ Array.toList d1
 subst this;exact r.inj r'
end
abbrev Cx.wish (X:Cx) (E:Value->Shared->Prop):Cx:={ X with xe:=E}
abbrev Cx.nox (X:Cx):Cx:=X.wish fun _ _=>False
theorem Cx.Ok.wish{X:Cx}(ok:X.Ok)(E:Value->Shared->Prop):(X.wish E).Ok:=
 ⟨ok.mod,ok.kind,ok.glob,ok.blt,ok.above,ok.inj,ok.has,ok.cab,ok.hd,ok.frames,ok.stk,ok.exf,ok.bs,ok.bsz,ok.noex,ok.exfs,ok.funs,ok.frf,ok.tb⟩
theorem Cx.Ok.unwish{X:Cx}{E:Value->Shared->Prop}(ok:(X.wish E).Ok):X.Ok:=
 ⟨ok.mod,ok.kind,ok.glob,ok.blt,ok.above,ok.inj,ok.has,ok.cab,ok.hd,ok.frames,ok.stk,ok.exf,ok.bs,ok.bsz,ok.noex,ok.exfs,ok.funs,ok.frf,ok.tb⟩
section
variable {X:Cx} {pins:List (Addr×Obj)} {σ:St} {H:Hp} {s:Shared} {E:Value->Shared->Prop}
theorem Inv.wish(I:Inv X pins σ H s)(E:Value->Shared->Prop):Inv (X.wish E) pins σ H s:=⟨I.ok.wish E,I.os,I.bare,I.base,I.loc,I.cell,I.free,I.freeC,I.pin,I.hok,I.len⟩
theorem Inv.unwish(I:Inv (X.wish E) pins σ H s):Inv X pins σ H s:=⟨I.ok.unwish,I.os,I.bare,I.base,I.loc,I.cell,I.free,I.freeC,I.pin,I.hok,I.len⟩
theorem SP.unwish{D:Ends}{f:Flow}{s':Shared}(h:SP (X.wish E) pins D f s'):SP X pins D f s':=by
 cases f with
 | next=>obtain ⟨σ',H',I,q⟩:=h;exact ⟨σ',H',I.unwish,q⟩
 | brk=>obtain ⟨σ',H',I,q⟩:=h;exact ⟨σ',H',I.unwish,q⟩
 | cont=>obtain ⟨σ',H',I,q⟩:=h;exact ⟨σ',H',I.unwish,q⟩
 | ret u=>obtain ⟨v,σ',H',I,r,q⟩:=h;exact ⟨v,σ',H',I.unwish,r,q⟩
theorem PSs.nox{st:List Stmt}{t:TS}(h:PSs X.nox st t):PSs X st t:=fun pins s σ H D I hw=>
 E1 (h pins s σ H D (I.wish _) hw) (fun _ _ q=>q.unwish) fun _ _ z=>False.elim z
end
section
variable {X:Cx} {st:Stmt} {GR:List Stmt} {t u:TS} {e:Expr} {te:TE} {pos:Pos}
def tNext:TS:=fun D σ H=>D.nx σ H
def A41(t u:TS):TS:=fun D σ H=>t { D with nx:=u D} σ H
theorem qC:PSs X [] tNext:=fun _ _ σ H _ I h=>U6 ⟨σ,H,I,h⟩
theorem mW(h1:PS X st t)(h2:PSs X GR u):PSs X (st::GR) (A41 t u):=by
 intro pins s σ H D I h;refine wpAny_execs_cons (thn (h1 pins s σ H { D with nx:=u D} I h) fun f s1 q=> ?_)
 cases f with
 | next=>
  obtain ⟨σ',H',I',q⟩:=q
  exact h2 pins s1 σ' H' D I' q
 | ret v=>exact q
 | brk=>exact q
 | cont=>exact q
theorem qS(h1:PS X st t):PSs X [st] t:=by
 intro pins s σ H D I h;refine wpAny_execs_cons (thn (h1 pins s σ H D I h) fun f s1 q=> ?_)
 cases f with
 | next=>exact U6 q
 | ret v=>exact q
 | brk=>exact q
 | cont=>exact q
theorem Inv.quiet{pins:List (Addr×Obj)}{σ:St}{H:Hp}{s:Shared}(I:Inv X pins σ H s):interactive X.env=false:=by simp [interactive,I.ok.kind]
def nB(te:TE):TS:=fun D σ H=>te σ H fun _ H1=>D.nx σ H1
theorem bN(he:PE X e te)(hs:swapsWith e none pos.line X.env=pure false:=by rfl):PS X (.Expr e pos) (nB te):=by
 intro pins s σ H D I h;exact wpAny_Expr_any (thn (he pins s σ H _ I h) fun v s1 ⟨x,H1,I1,r1,q1⟩=>⟨σ,H1,I1,q1⟩) I.quiet hs
def y7(te:TE):TS:=fun D σ H=>te σ H D.rt
theorem kM(he:PE X e te):PS X (.Return (some e) pos) (y7 te):=by
 intro pins s σ H D I h;exact wpAny_Return_some (thn (he pins s σ H _ I h) fun v s1 ⟨x,H1,I1,r1,q1⟩=>⟨x,σ,H1,I1,r1,q1⟩)
def A07(c:TT)(t u:TS):TS:=fun D σ H=>c σ H fun b H1=>if b=true then t D σ H1 else u D σ H1
theorem A14{c:Expr}{a b:List Stmt}{tc:TT}(hc:PT X c tc)(ha:PSs X a t)(hb:PSs X b u):PS X (.If c a b pos) (A07 tc t u):=by
 intro pins s σ H D I h;refine wpAny_If (thn (hc pins s σ H _ I h) fun d s1 ⟨H1,I1,q1⟩ => ?_)
 cases d with
 | true=>exact ha pins s1 σ H1 D I1 q1
 | false=>exact hb pins s1 σ H1 D I1 q1
end
abbrev TG:=V->St->Hp->(St->Hp->Prop)->Prop
abbrev TGs:=List V->St->Hp->(St->Hp->Prop)->Prop
def PG(X:Cx)(target:Expr)(t:TG):Prop:=
 ∀(pins:List (Addr×Obj)) (s:Shared) (σ:St) (H:Hp) (v:V) (u:Value) (Q:St->Hp->Prop),Inv X pins σ H s->RelV v u->t v σ H Q ->
   wpAny (model X.prog X.w) X.A (assign target X.env u) (fun _ s'=>∃σ' H',Inv X pins σ' H' s'/\Q σ' H') X.xe s
def PGs(X:Cx)(ts:List Expr)(t:TGs):Prop:=
 ∀(pins:List (Addr×Obj)) (s:Shared) (σ:St) (H:Hp) (vs:List V) (us:List Value) (Q:St->Hp->Prop),Inv X pins σ H s->Vals vs us->t vs σ H Q ->
   wpAny (model X.prog X.w) X.A (assignInOrder ((assignEach ts X.env).map (·.2)) us) (fun _ s'=>∃σ' H',Inv X pins σ' H' s'/\Q σ' H') X.xe s
section
variable {X:Cx} {pos:Pos}
def XM(i:Nat):TG:=fun v σ H Q=>Q (σ.set i (some v)) H
theorem dG{i:Nat}{x:Str}(hN:X.N.Nodup)(hi:X.N[i]? = some x)(hx:Loc X.env.scope x)(hf:X.fn x=true\/X.env.scope.names.lookup x=some .local:=by first | exact .inl rfl | exact .inr rfl | assumption):PG X (.Name x pos) (XM i):=by
 intro pins s σ H v u Q I r h;exact wpAny_assign_Name (YO I hN hi hx r (fun s' I'=>⟨_,H,I',h⟩) hf)
def gNil:TGs:=fun vs σ H Q=>vs = []/\Q σ H
def kA(t:TG)(u:TGs):TGs:=fun vs σ H Q=>∃v r,vs=v::r/\t v σ H fun σ' H'=>u r σ' H' Q
theorem dE:PGs X [] gNil:=by
 intro pins s σ H vs us Q I r h;obtain ⟨e,h⟩:=h;subst e
 cases r
 exact assignInOrder_nil ⟨σ,H,I,h⟩
theorem YK {e : Expr} {es : List Expr} {t : TG} {u : TGs} (h1 : PG X e t) (h2 : PGs X es u)
 (hs:(assignEach (e::es) X.env).map (·.2)=assign e X.env::(assignEach es X.env).map (·.2):=by rfl):PGs X (e::es) (kA t u):=by
 intro pins s σ H vs us Q I r h;obtain ⟨v,vr,e1,h⟩:=h;subst e1
 cases r with
 | cons r rr=>
  rw [hs];refine assignInOrder_cons (thn (h1 pins s σ H _ _ _ I r h) fun _ s1 ⟨σ1,H1,I1,q1⟩ => ?_);exact h2 pins s1 σ1 H1 _ _ Q I1 rr q1
def vQ(K:PySem.W.Frag)(n:Nat)(t:TGs):TG:=fun v σ H Q=>∃a xs,v = .ref a/\SqT K H a xs/\xs.length=n/\t xs σ H Q
theorem mL {es : List Expr} {k : Nat} {t : TGs} {n : Nat} (hc : X.calm = true) (h : PGs X es t)
 (hn:(assignEach es X.env).length=n:=by rfl) (hst:(assignEach es X.env).findIdx? (·.1)=none:=by rfl):PG X (.Tuple es k pos) (vQ X.K n t):=by
 intro pins s σ H v u Q I r hw;obtain ⟨a,xs,e1,hq,hl,hw⟩:=hw;subst e1
 cases r
 obtain ⟨its,rv,ht,hz⟩:=I.tuple hq;refine assign_Tuple_tuple (I.ok.hd hc) ht (by simp [hn, <-hl,rv.length]) hst fun h' hx=> ?_;have I1:Inv X pins σ H {s with heap:=h' }:=I.kept (t':=s.toks) fun b o e=>hx b o (BP (AU e)) e;exact h pins _ σ H xs _ Q I1 (by simpa using rv) hw
def p0(te:TE)(g:TG):TS:=fun D σ H=>te σ H fun x H1=>g x σ H1 D.nx
theorem xD {tg e : Expr} {te : TE} {g : TG} (he : PE X e te) (hg : PG X tg g) (hs : swapsWithSole [tg] e pos.line X.env = pure false := by rfl) (hw : swappedStores [tg] e X.env = pure none := by rfl)
 (h1:(assignEach [tg] X.env).map (·.2) = [assign tg X.env]:=by rfl):PS X (.Assign [tg] e pos) (p0 te g):=by
 intro pins s σ H D I h;refine wpAny_Assign_stores (thn (he pins s σ H _ I h) fun v s1 ⟨x,H1,I1,r1,q1⟩ => ?_) hs hw;rw [h1];exact thn (hg pins s1 σ H1 x v _ I1 r1 q1) fun _ s2 q=>q
theorem vM {i : Nat} {x : Str} {e : Expr} {te : TE} {pos' : Pos} (hN : X.N.Nodup) (hi : X.N[i]? = some x) (hx : Loc X.env.scope x) (he : PE X e te) (hs : swapsWith e (some (.Name x pos')) pos.line X.env = pure false := by rfl) (hf : X.fn x = true \/ X.env.scope.names.lookup x = some .local := by first | exact .inl rfl | exact .inr rfl | assumption) :
 PS X (.Assign [.Name x pos'] e pos) (p0 te (XM i)):=by
 intro pins s σ H D I h;refine wpAny_Assign_Name (thn (he pins s σ H _ I h) fun v s1 ⟨y,H1,I1,r1,q1⟩ => ?_) hs;exact YO I1 hN hi hx r1 (fun s2 I2=>⟨_,H1,I2,q1⟩) hf
end
section
variable {X:Cx} {pos:Pos}
def mZ(c:TT)(tb:TS):TS:=fun D σ H=>∃W:Nat->St->Hp->Prop,(∃m,W m σ H)/\∀m σ H,W m σ H ->
 c σ H fun b H1=>if b=true then ∃N:St->Hp->Prop,(∀σ' H',N σ' H'->∃m',m'<m/\W m' σ' H')/\tb { D with nx:=N,ct:=N,bk:=D.nx} σ H1 else D.nx σ H1
theorem j9{c:Expr}{body:List Stmt}{tc:TT}{tb:TS}(hp:PassesOwn (model X.prog X.w) X.A X.env X.xe)(hc:PT X c tc)(hb:PSs X body tb):PS X (.While c body [] pos) (mZ tc tb):=by
 intro pins s σ H D I h;obtain ⟨W,⟨m0,w0⟩,turn⟩:=h;refine wpAny_While (codeAny_whileLoop (fun n s'=>∃σ' H',Inv X pins σ' H' s'/\W n σ' H') ?_ m0 ⟨σ,H,I,w0⟩);rintro n s1 ⟨σ1,H1,I1,w1⟩;refine HR hp (thn (hc pins s1 σ1 H1 _ I1 (turn n σ1 H1 w1)) fun b s2 ⟨H2,I2,q2⟩ => ?_)
 cases b with
 | true=>
  obtain ⟨N,hN,q2⟩:=q2;rw [AD rfl];refine HR hp (thn (hb pins s2 σ1 H2 _ I2 q2) fun f s3 q3=> ?_)
  cases f with
  | next=>
   obtain ⟨σ3,H3,I3,n3⟩:=q3;obtain ⟨m',hm,w3⟩:=hN σ3 H3 n3
   exact ⟨m',hm,σ3,H3,I3,w3⟩
  | cont=>
   obtain ⟨σ3,H3,I3,n3⟩:=q3;obtain ⟨m',hm,w3⟩:=hN σ3 H3 n3
   exact ⟨m',hm,σ3,H3,I3,w3⟩
  | brk=>exact q3
  | ret v=>exact q3
 | false=>
  rw [AA CG];exact U6 ⟨σ1,H2,I2,q2⟩
end
structure It where
 go:Nat->Hp->Prop
 yld:Nat->Hp->V->Hp->Prop
 stop:Nat->Hp->Prop
def JH(X:Cx)(pins:List (Addr×Obj))(H:Hp)(b:Addr):Prop:=
 H b=none/\b≠X.env.locals/\b ∉ X.fs/\(b ∈ X.ex\/X.s₀.heap.objs.size<=b)/\(∀x c,X.env.cells.lookup x=some c->c≠b)/\∀p ∈ X.pn++pins,p.1≠b
theorem Inv.fpOk{X:Cx}{pins:List (Addr×Obj)}{σ:St}{H H':Hp}{s:Shared}{b:Addr}(I:Inv X pins σ H s)(hb:s.heap.objs.size<=b)(hn:H' b=none):JH X pins H' b:=by
 refine ⟨hn,PP (BA I.lt hb),I.nofs hb, .inr (BQ I.sz hb),fun x c e z=> ?_,fun p hp z=> ?_⟩
 . obtain ⟨v,q⟩:=I.cell x c e;exact absurd (BA q.lt (by rw [z];exact hb)) (FR _)
 . exact absurd (BA (AU (I.pin p hp).1) (by rw [z];exact hb)) (FR _)
structure Turn (P:Program) (w:World) (K:PySem.W.Frag) (tg:Expr) (J:It) (fp:List Addr) (it:Addr) (tn:Nat->Heap->Prop):Prop where
 mem:it ∈ fp
 obj:∀i h,tn i h->∀b ∈ fp,∃o,h.get? b=some o/\∀v,o.data ≠ .cell v
 keep:∀i h h',tn i h->(∀b ∈ fp,∀o,h.get? b=some o->h'.get? b=some o)->tn i h'
 item:∀(X:Cx),X.prog=P->X.w=w->X.K=K->X.calm=true->∀(i:Nat) (pins:List (Addr×Obj)) (s:Shared) (σ:St) (H:Hp) (E:Value->Shared->Prop),Inv X pins σ H s->(∀b ∈ fp,JH X pins H b)->tn i s.heap->J.go i H ->
  wpAny (model P w) X.A (pyNext (.ref it)) (fun r s1=>∃u,r=some u /\
   wpAny (model P w) X.A (letOwnedTupleGo tg (.ref it) u) (fun _ s2=>∃x H',Inv X pins σ H' s2/\RelV x u/\J.yld i H x H'/\tn (i+1) s2.heap/\∀b ∈ fp,H' b=none) E s1) E s
 done:∀(X:Cx),X.prog=P->X.w=w->X.K=K->X.calm=true->∀(i:Nat) (pins:List (Addr×Obj)) (s:Shared) (σ:St) (H:Hp) (E:Value->Shared->Prop),Inv X pins σ H s->(∀b ∈ fp,JH X pins H b)->tn i s.heap->J.stop i H ->
  wpAny (model P w) X.A (pyNext (.ref it)) (fun r s1=>r=none/\Inv X pins σ H s1) E s
 self:∀(A:Around) (i:Nat) (s:Shared) (Q:Value->Shared->Prop) (E:Value->Shared->Prop),tn i s.heap->Q (.ref it) s->wpAny (model P w) A (pyIter (.ref it)) Q E s
abbrev TI:=St->Hp->(It->Hp->Prop)->Prop
def PIE(X:Cx)(pins:List (Addr×Obj))(σ:St)(tg:Expr)(R:It->Hp->Prop)(itv:Value)(s2:Shared):Prop:=
 ∃(it:Addr) (fp:List Addr) (tn:Nat->Heap->Prop) (J:It) (H':Hp),itv = .ref it/\Inv X pins σ H' s2/\Turn X.prog X.w X.K tg J fp it tn/\tn 0 s2.heap/\(∀b ∈ fp,JH X pins H' b)/\R J H'
def PI(X:Cx)(tg iter:Expr)(wi:TI):Prop:=
 ∀(pins:List (Addr×Obj)) (s:Shared) (σ:St) (H:Hp) (R:It->Hp->Prop),Inv X pins σ H s->wi σ H R ->
   wpAny (model X.prog X.w) X.A (eval iter X.env) (fun v s1=>wpAny (model X.prog X.w) X.A (pyIter v) (PIE X pins σ tg R) X.xe s1) X.xe s
theorem bU {M : Model} {A : Around} {E : Value -> Shared -> Prop} {s : Shared} {tg : Expr} {it : Addr} {u : Value} {o : Obj} {n : String} {vs : Array Value} {Q : Unit -> Shared -> Prop} (ho : s.heap.get? it = some o) (hc : o.cls = .type n) (hd : o.data = .fields vs)
 (hn : ["enumerate","zip","dict_itemiterator","dict_reverseitemiterator","odict_iterator","itertools.zip_longest","itertools.pairwise"].contains n=false) (hQ:Q () s):wpAny M A (letOwnedTupleGo tg (.ref it) u) Q E s:=by
 unfold letOwnedTupleGo
 cases tg <;> first
  | exact A6 hQ
  | (cases u <;> first
   | exact A6 hQ
   | (refine A0 (wpAny_load ho ?_)
      rw [hc,hd];show wpAny M A (if (["enumerate","zip","dict_itemiterator","dict_reverseitemiterator","odict_iterator","itertools.zip_longest","itertools.pairwise"].contains n && vs[0]? ==some (rawInt _))=true then _ else _) Q E s;rw [AA (by intro h;rw [hn,Bool.false_and] at h;cases h)];exact A6 hQ))
def Itl(K:PySem.W.Frag)(a:Addr):It:=
 ⟨fun i H=>∃xs x,SqL K H a xs/\xs[i]? = some x,fun i H x H'=>H'=H/\∀xs,SqL K H a xs->xs[i]? = some x,fun i H=>∃xs,SqL K H a xs/\xs.length<=i⟩
def Itt(K:PySem.W.Frag)(a:Addr):It:=
 ⟨fun i H=>∃xs x,SqT K H a xs/\xs[i]? = some x,fun i H x H'=>H'=H/\∀xs,SqT K H a xs->xs[i]? = some x,fun i H=>∃xs,SqT K H a xs/\xs.length<=i⟩
def Itr(lo:Int)(n:Nat):It:=⟨fun i _=>i<n,fun i H x H'=>H'=H/\x = .int (lo+i),fun i _=>n<=i⟩
theorem hZ{P:Program}{w:World}{K:PySem.W.Frag}{tg:Expr}(a it:Addr):Turn P w K tg (Itl K a) [it] it (fun i h=>h.IsListIter it a i) where
 mem:=by simp
 obj:=fun i h st b hb=>by
  have e:b=it:=by simpa using hb
  subst e;obtain ⟨o,e,c,d⟩:=st;exact ⟨o,e,fun v z=>by rw [d] at z;cases z⟩
 keep:=fun i h h' st k=>st.at fun o e=>k it (by simp) o e
 item:=by
  intro X hP hw hK hc i pins s σ H E I hf st hg;subst hP hw hK;obtain ⟨xs,x,hq,hx⟩:=hg;obtain ⟨its,rv,p,hz⟩:=I.list hq;obtain ⟨u,hu,ru⟩:=rv.get hx;obtain ⟨f0,f1,f2,f3,f4,f5⟩:=hf it (by simp);refine wpAny_pyNext_list_item st p.isList (x:=u) (by simpa using hu) fun h' st' sb=> ?_;have I1:Inv X pins σ H {s with heap:=h' }:=I.turned (t':=s.toks) (fun b o hb e=>(sb.2 b hb).trans e) f0 f1 f3 f4 f5;obtain ⟨o,e,c,d⟩:=id st';exact ⟨u,rfl,bU (s:={s with heap:=h' }) e c d (by decide) ⟨x,H,I1,ru,⟨rfl,fun ys hy=>by rw [I.list_inj hy hq];exact hx⟩,st',fun b hb=>(hf b hb).1⟩⟩
 done:=by
  intro X hP hw hK hc i pins s σ H E I hf st hg;subst hP hw hK;obtain ⟨xs,hq,hx⟩:=hg;obtain ⟨its,rv,p,hz⟩:=I.list hq;obtain ⟨f0,f1,f2,f3,f4,f5⟩:=hf it (by simp);have hl:=rv.length;exact wpAny_pyNext_list_end (I.ok.hd hc) st p.isList (by simp;omega) fun h' eb=>⟨rfl,I.turned (t':=s.toks) (fun b o hb e=>eb b o hb e) f0 f1 f3 f4 f5⟩
 self:=fun _ _ _ _ _ st h=>wpAny_pyIter_listiter st h
theorem aN{P:Program}{w:World}{K:PySem.W.Frag}{tg:Expr}(a it:Addr):Turn P w K tg (Itt K a) [it] it (fun i h=>h.IsTupleIter it a i) where
 mem:=by simp
 obj:=fun i h st b hb=>by
  have e:b=it:=by simpa using hb
  subst e;obtain ⟨o,e,c,d⟩:=st;exact ⟨o,e,fun v z=>by rw [d] at z;cases z⟩
 keep:=fun i h h' st k=>st.at fun o e=>k it (by simp) o e
 item:=by
  intro X hP hw hK hc i pins s σ H E I hf st hg;subst hP hw hK;obtain ⟨xs,x,hq,hx⟩:=hg;obtain ⟨its,rv,p,hz⟩:=I.tuple hq;obtain ⟨u,hu,ru⟩:=rv.get hx;obtain ⟨f0,f1,f2,f3,f4,f5⟩:=hf it (by simp);refine wpAny_pyNext_tuple_item st (show s.heap.IsTuple a its.toArray from p) (x:=u) (by simpa using hu) fun h' st' sb=> ?_;have I1:Inv X pins σ H {s with heap:=h' }:=I.turned (t':=s.toks) (fun b o hb e=>(sb.2 b hb).trans e) f0 f1 f3 f4 f5;obtain ⟨o,e,c,d⟩:=id st';exact ⟨u,rfl,bU (s:={s with heap:=h' }) e c d (by decide) ⟨x,H,I1,ru,⟨rfl,fun ys hy=>by rw [I.tuple_inj hy hq];exact hx⟩,st',fun b hb=>(hf b hb).1⟩⟩
 done:=by
  intro X hP hw hK hc i pins s σ H E I hf st hg;subst hP hw hK;obtain ⟨xs,hq,hx⟩:=hg;obtain ⟨its,rv,p,hz⟩:=I.tuple hq;obtain ⟨f0,f1,f2,f3,f4,f5⟩:=hf it (by simp);have hl:=rv.length;exact wpAny_pyNext_tuple_end (I.ok.hd hc) st (show s.heap.IsTuple a its.toArray from p) (by simp;omega) fun h' eb=>⟨rfl,I.turned (t':=s.toks) (fun b o hb e=>eb b o hb e) f0 f1 f3 f4 f5⟩
 self:=fun _ _ _ _ _ st h=>wpAny_pyIter_tupleiter st h
theorem ZG{P:Program}{w:World}{K:PySem.W.Frag}{tg:Expr}(it:Addr)(lo:Int)(n:Nat):Turn P w K tg (Itr lo n) [it] it (fun i h=>IsRangeIter h it (lo+(i:Nat)*1) ((n:Int) - (i:Nat)) 1) where
 mem:=by simp
 obj:=fun i h st b hb=>by
  have e:b=it:=by simpa using hb
  subst e
  exact ⟨_,st,fun v z=>by
   have z':Data.fields _=Data.cell v:=z
   cases z'⟩
 keep:=fun i h h' st k=>k it (by simp) _ st
 item:=by
  intro X hP hw hK hc i pins s σ H E I hf st hg;subst hP hw hK;obtain ⟨f0,f1,f2,f3,f4,f5⟩:=hf it (by simp);have W:=Walks.range (prog:=X.prog) (w:=X.w) (I.ok.hd hc) it lo 1 n;refine W.item i s _ _ hg st fun v h' tk hv st' kk=> ?_;obtain ⟨t,rfl⟩:=hv;have I1:Inv X pins σ H {s with heap:=h',toks:=tk}:=I.turned (fun b o hb e=>kk b o (by simpa using hb) e) f0 f1 f3 f4 f5;refine ⟨_,rfl,bU (s:={s with heap:=h',toks:=tk}) (n:= "range_iterator") st' rfl rfl (by decide) ⟨.int (lo+i),H,I1,⟨t,?_⟩,⟨rfl,rfl⟩,st',fun b hb=>(hf b hb).1⟩⟩;rw [Int.mul_one]
 done:=by
  intro X hP hw hK hc i pins s σ H E I hf st hg;subst hP hw hK;obtain ⟨f0,f1,f2,f3,f4,f5⟩:=hf it (by simp);exact wpAny_pyNext_range_end (I.ok.hd hc) st (by have:n<=i:=hg;omega) fun h' eb=>⟨rfl,I.turned (t':=s.toks) (fun b o hb e=>eb b o hb e) f0 f1 f3 f4 f5⟩
 self:=fun _ _ _ _ _ st h=>wpAny_pyIter_rangeiter st h
end L2
namespace L2
open PySem PySem.Spec PyProof.Rows
section
variable {X:Cx} {tg:Expr}
theorem X9 {pins : List (Addr × Obj)} {σ : St} {H : Hp} {s : Shared} {R : It -> Hp -> Prop} {E : Value -> Shared -> Prop} {lo hi : Int} {t u v : Tok} {tk : Nat} (I : Inv X pins σ H s) (h1 : -(2 ^ 62) <= lo) (h2 : lo < 2 ^ 62) (h3 : -(2 ^ 62) <= hi) (h4 : hi < 2 ^ 62)
 (q:R (Itr lo (hi - lo).toNat) H):wpAny (model X.prog X.w) X.A (pyIter (.ref s.heap.objs.size)) (PIE X pins σ tg R) E {s with heap:=s.heap.push {cls:= .type "range",data:= .fields #[.int lo t, .int hi u, .int 1 v]},toks:=tk}:=by
 refine wpAny_pyIter_range (IsRange.new ..) (small_one h1 h2 h3 h4) ?_;have I1:Inv X pins σ H {s with heap:=s.heap.push {cls:= .type "range",data:= .fields #[.int lo t, .int hi u, .int 1 v]},toks:=tk}:=I.kept fun b o e=>A4 _ e
 refine ⟨(s.heap.push {cls:= .type "range",data:= .fields #[.int lo t, .int hi u, .int 1 v]}).objs.size,[(s.heap.push {cls:= .type "range",data:= .fields #[.int lo t, .int hi u, .int 1 v]}).objs.size],_,_,H,rfl,
  I1.kept (t':=tk) fun b o e=>A4 _ e,ZG _ lo (hi - lo).toNat,?_,fun b hb=> ?_,q⟩
 . have e1:lo+((0:Nat):Int)*1=lo:=by simp
   have e2:(((hi - lo).toNat:Nat):Int) - ((0:Nat):Int)=Builtin.Range.rangeSize lo hi 1:=by rw [rangeSize_one];split <;> omega
   show IsRangeIter _ _ (lo+((0:Nat):Int)*1) ((((hi - lo).toNat:Nat):Int) - ((0:Nat):Int)) 1;rw [e1,e2];exact AI _ rfl
 . have e:b=(s.heap.push {cls:= .type "range",data:= .fields #[.int lo t, .int hi u, .int 1 v]}).objs.size:=by simpa using hb
   subst e;exact I1.fpOk (AF _) (I1.hok.fresh (AF _))
def u0(ta:TA):TI:=fun σ H R=>ta σ H fun vs H1=>∃j:Int,vs = [.int j] /\ -(2 ^ 62)<=j/\j<2 ^ 62/\R (Itr 0 j.toNat) H1
def tQ(ta:TA):TI:=fun σ H R=>ta σ H fun vs H1=>∃i j:Int,vs = [.int i, .int j]/\(-(2 ^ 62)<=i/\i<2 ^ 62 /\ -(2 ^ 62)<=j/\j<2 ^ 62)/\R (Itr i (j - i).toNat) H1
theorem fQ {a:Expr} {ta:TA} {p pos:Pos} (hg:Gl X "range") (hm:X.mg "range" = none) (ha:PA X [a] ta) (hs:starEach [a] X.env = [(false,eval a X.env)]:=by rfl):PI X tg (.Call (.Name "range" p) [a] [] pos) (u0 ta):=by
 intro pins s σ H R I h;refine Call_ (GS I hg hm boot_range (CA (thn (ha pos pins s σ H _ I h) fun us s1 ⟨vs,H1,I1,r1,q1⟩ => ?_) hs rfl));obtain ⟨j,e,q1,q2,q⟩:=q1;subst e
 cases r1 with
 | cons r rr=>
  cases rr
  obtain ⟨t,rfl⟩:=r;exact call_range_1 (X9 I1 (by omega) (by omega) q1 q2 (by simpa using q))
theorem fK {a b : Expr} {ta : TA} {p pos : Pos} (hg : Gl X "range") (hm : X.mg "range" = none) (ha : PA X [a, b] ta) (hs : starEach [a, b] X.env = [(false, eval a X.env), (false, eval b X.env)] := by rfl) (hs2 : starEach [b] X.env = [(false, eval b X.env)] := by rfl) :
 PI X tg (.Call (.Name "range" p) [a,b] [] pos) (tQ ta):=by
 intro pins s σ H R I h;refine Call_ (GS I hg hm boot_range (CA (thn (ha pos pins s σ H _ I h) fun us s1 ⟨vs,H1,I1,r1,q1⟩ => ?_) (by rw [hs,hs2]) (by rw [hs2];rfl)));obtain ⟨i,j,e,⟨q1,q2,q3,q4⟩,q⟩:=q1;subst e
 cases r1 with
 | cons r rr=>
  cases rr with
  | cons r' rr=>
   cases rr
   obtain ⟨t,rfl⟩:=r;obtain ⟨t',rfl⟩:=r';exact call_range_2 (X9 I1 q1 q2 q3 q4 q)
def A47(wi:TI)(g:TG)(tb:TS):TS:=fun D σ H=>wi σ H fun J H1=>∃W:Nat->Nat->St->Hp->Prop,(∃m,W 0 m σ H1)/\∀i m σ H,W i m σ H ->
 (J.stop i H/\D.nx σ H)\/(J.go i H/\∃N:St->Hp->Prop,(∀σ' H',N σ' H'->∃m',m'<m/\W (i+1) m' σ' H')/\∀x H',J.yld i H x H'->g x σ H' fun σ2 H2=>tb { D with nx:=N,ct:=N,bk:=D.nx} σ2 H2)
def SD(fp:List Addr)(h:Heap):List (Addr×Obj):=fp.filterMap fun b=>(h.get? b).map fun o=>(b,o)
theorem LR{fp:List Addr}{h:Heap}{b:Addr}{o:Obj}(hb:b ∈ fp)(e:h.get? b=some o):(b,o) ∈ SD fp h:=JC.mpr ⟨b,hb,by rw [e];rfl⟩
theorem gR{fp:List Addr}{h:Heap}{p:Addr×Obj}(hp:p ∈ SD fp h):p.1 ∈ fp/\h.get? p.1=some p.2:=by
 obtain ⟨b,hb,e⟩:=JC.mp hp
 cases q:h.get? b with
 | none=>rw [q] at e;cases e
 | some o=>
  rw [q] at e
  have e':(b,o)=p:=BG e;subst e';exact ⟨hb,q⟩
theorem Inv.pinned{pins:List (Addr×Obj)}{σ:St}{H:Hp}{s:Shared}{fp:List Addr}(I:Inv X pins σ H s)(hf:∀b ∈ fp,JH X pins H b)(ho:∀b ∈ fp,∃o,s.heap.get? b=some o/\∀v,o.data ≠ .cell v):Inv X (pins++SD fp s.heap) σ H s:=
 I.pins_of fun p hp=>(AV.mp hp).elim (fun z=>I.pin p (A8 _ z)) fun z=>by
  obtain ⟨hb,e⟩:=gR z;obtain ⟨f0,f1,f2,_⟩:=hf p.1 hb;obtain ⟨o,e',d⟩:=ho p.1 hb;rw [e] at e';cases e'
  exact ⟨e,f0,f1,f2,d⟩
theorem Inv.unpinned{pins pl:List (Addr×Obj)}{σ:St}{H:Hp}{s:Shared}(I:Inv X (pins++pl) σ H s):Inv X pins σ H s:=I.pins_of fun p hp=>I.pin p (A8 _ (DY _ hp))
theorem zJ {iter : Expr} {body : List Stmt} {wi : TI} {g : TG} {tb : TS} {pos : Pos} (hp : PassesOwn (model X.prog X.w) X.A X.env X.xe) (hc : X.calm = true) (hi : PI X tg iter wi) (hg : PG X tg g) (hb : PSs X body tb)
 (hs:∀x,foldedSetIterable iter X.env x=pure x:=by intro _;rfl):PS X (.For tg iter body [] pos) (A47 wi g tb):=by
 intro pins s σ H D I h;refine wpAny_For (thn (hi pins s σ H _ I h) fun v s1 h1=>thn h1 fun itv s2 h2=> ?_) hs;obtain ⟨it,fp,tn,J,H2,e,I2,T,st2,f2,W,⟨m0,w0⟩,turn⟩:=h2;subst e;have stat:∀ {H':Hp},(∀b ∈ fp,H' b=none)->∀b ∈ fp,JH X pins H' b:=fun hn b hb=>⟨hn b hb,(f2 b hb).2⟩;refine codeAny_forLoop_any (fun n s'=>∃i σ' H',Inv X pins σ' H' s'/\tn i s'.heap/\(∀b ∈ fp,H' b=none)/\W i n σ' H') ?_ m0 ⟨0,σ,H2,I2,st2,fun b hb=>(f2 b hb).1,w0⟩;rintro n s3 ⟨i,σ3,H3,I3,st3,fr3,w3⟩;rcases turn i n σ3 H3 w3 with ⟨stop,qn⟩ | ⟨go,N,hN,step⟩
 . refine HR hp (thn (T.done X rfl rfl rfl hc i pins s3 σ3 H3 X.xe I3 (stat fr3) st3 stop) fun r s4 ⟨hr,I4⟩ => ?_);subst hr;exact U6 ⟨σ3,H3,I4,qn⟩
 . refine HR hp (thn (T.item X rfl rfl rfl hc i pins s3 σ3 H3 X.xe I3 (stat fr3) st3 go) fun r s4 ⟨u,hr,h4⟩ => ?_);subst hr;refine HR hp (thn h4 fun _ s5 ⟨x,H5,I5,r5,y5,st5,fr5⟩ => ?_);have I5':=I5.pinned (stat fr5) (T.obj _ _ st5);refine HR hp (thn (hg _ s5 σ3 H5 x u _ I5' r5 (step x H5 y5)) fun _ s6 ⟨σ6,H6,I6,q6⟩ => ?_);refine HR hp (thn (hb _ s6 σ6 H6 _ I6 q6) fun f s7 q7=> ?_)
   have again:∀ {σ7:St} {H7:Hp},Inv X (pins++SD fp s5.heap) σ7 H7 s7->N σ7 H7->∃m,m<n/\∃i σ' H',Inv X pins σ' H' s7/\tn i s7.heap/\(∀b ∈ fp,H' b=none)/\W i m σ' H':=fun {σ7 H7} I7 n7=>by
    obtain ⟨m',hm,w7⟩:=hN σ7 H7 n7;refine ⟨m',hm,i+1,σ7,H7,I7.unpinned,T.keep _ _ _ st5 fun b hb o e=>(I7.pin (b,o) (A8 _ (A8 _ (LR hb e)))).1,fun b hb=> ?_,w7⟩;obtain ⟨o,e,d⟩:=T.obj _ _ st5 b hb;exact (I7.pin (b,o) (A8 _ (A8 _ (LR hb e)))).2.1
   cases f with
   | next=>obtain ⟨σ7,H7,I7,n7⟩:=q7;exact again I7 n7
   | cont=>obtain ⟨σ7,H7,I7,n7⟩:=q7;exact again I7 n7
   | brk=>obtain ⟨σ7,H7,I7,q7⟩:=q7;exact ⟨σ7,H7,I7.unpinned,q7⟩
   | ret v=>obtain ⟨x7,σ7,H7,I7,r7,q7⟩:=q7;exact ⟨x7,σ7,H7,I7.unpinned,r7,q7⟩
end
end L2
namespace L2
open PySem PySem.Spec PyProof.Rows
abbrev R2:=V->V->Hp->VK->Prop
def OpR(X:Cx)(f:Value->Value->Sem Value)(r:R2):Prop:=
 ∀(pins:List (Addr×Obj)) (s:Shared) (σ:St) (H:Hp) (x y:V) (v u:Value) (Q:VK),Inv X pins σ H s->RelV x v->RelV y u->r x y H Q ->
   wpAny (model X.prog X.w) X.A (f v u) (EP X pins σ Q) X.xe s
def UnR(X:Cx)(f:Value->Sem Value)(r:V->Hp->VK->Prop):Prop:=
 ∀(pins:List (Addr×Obj)) (s:Shared) (σ:St) (H:Hp) (x:V) (v:Value) (Q:VK),Inv X pins σ H s->RelV x v->r x H Q ->
   wpAny (model X.prog X.w) X.A (f v) (EP X pins σ Q) X.xe s
def KN(X:Cx)(f:Value)(r:List V->Hp->VK->Prop):Prop:=
 ∀(pins:List (Addr×Obj)) (s:Shared) (σ:St) (H:Hp) (xs:List V) (us:List Value) (Q:VK),Inv X pins σ H s->Vals xs us->r xs H Q ->
   wpAny (model X.prog X.w) X.A (call f us) (EP X pins σ Q) X.xe s
def A94(X:Cx)(r:V->Hp->(Bool->Hp->Prop)->Prop):Prop:=
 ∀(pins:List (Addr×Obj)) (s:Shared) (σ:St) (H:Hp) (x:V) (v:Value) (Q:Bool->Hp->Prop),Inv X pins σ H s->RelV x v->r x H Q ->
   wpAny (model X.prog X.w) X.A (truthy v) (TP X pins σ Q) X.xe s
def tOp(r:R2)(ta tb:TE):TE:=fun σ H Q=>ta σ H fun x H1=>tb σ H1 fun y H2=>r x y H2 Q
def tUn(r:V->Hp->VK->Prop)(ta:TE):TE:=fun σ H Q=>ta σ H fun x H1=>r x H1 Q
def rI(C:Int->Int->Prop)(g:Int->Int->V):R2:=fun x y H Q=>∃i j,x = .int i/\y = .int j/\C i j/\Q (g i j) H
def rI0(g:Int->Int->V):R2:=fun x y H Q=>∃i j,x = .int i/\y = .int j/\Q (g i j) H
def rU(g:Int->V):V->Hp->VK->Prop:=fun x H Q=>∃i,x = .int i/\Q (g i) H
section
variable {X:Cx} {a b c:Expr} {ta tb tc:TE} {pos:Pos}
theorem xL (ha : PE X a ta) (hb : PE X b tb) {pins : List (Addr × Obj)} {s : Shared} {σ : St} {H : Hp} {R : V -> V -> Hp -> Prop} (I : Inv X pins σ H s)
 (h:ta σ H fun x H1=>tb σ H1 fun y H2=>R x y H2) {Q:Value->Shared->Prop} {f:Value->Value->Sem Value}
 (hf:∀v u s2 x y H2,Inv X pins σ H2 s2->RelV x v->RelV y u->R x y H2->wpAny (model X.prog X.w) X.A (f v u) Q X.xe s2) :
 wpAny (model X.prog X.w) X.A (eval a X.env) (fun v s₁=>wpAny (model X.prog X.w) X.A (eval b X.env) (fun u s₂=>wpAny (model X.prog X.w) X.A (f v u) Q X.xe s₂) X.xe s₁) X.xe s:=by
 refine thn (ha pins s σ H _ I h) fun v s1 ⟨x,H1,I1,r1,q1⟩ => ?_;refine thn (hb pins s1 σ H1 _ I1 q1) fun u s2 ⟨y,H2,I2,r2,q2⟩ => ?_;exact hf v u s2 x y H2 I2 r1 r2 q2
theorem A45{op:Operator}{r:R2}(ho:OpR X (binaryOp op) r)(ha:PE X a ta)(hb:PE X b tb):PE X (.BinOp a op b pos) (tOp r ta tb):=by
 intro pins s σ H Q I h;exact wpAny_BinOp (xL ha hb I h fun v u s2 x y H2 I2 rx ry q=>ho pins s2 σ H2 x y v u Q I2 rx ry q)
theorem A56{op:UnaryOp}{r:V->Hp->VK->Prop}(ho:UnR X (unaryOp op) r)(ha:PE X a ta):PE X (.UnaryOp op a pos) (tUn r ta):=by
 intro pins s σ H Q I h;exact UnaryOp_ (thn (ha pins s σ H _ I h) fun v s1 ⟨x,H1,I1,r1,q1⟩=>ho pins s1 σ H1 x v Q I1 r1 q1)
theorem opI {f : Value -> Value -> Sem Value} {C : Int -> Int -> Prop} {g : Int -> Int -> Int}
 (rule:∀(i j:Int) (t u:Tok) (s:Shared) (Q:Value->Shared->Prop) (E:Value->Shared->Prop),C i j->Q (.int (g i j) s.toks) {s with toks:=s.toks+1}->wpAny (model X.prog X.w) X.A (f (.int i t) (.int j u)) Q E s) :
 OpR X f (rI C fun i j=> .int (g i j)):=by
 intro pins s σ H x y v u Q I rx ry h;obtain ⟨i,j,rfl,rfl,hc,q⟩:=h;obtain ⟨t,rfl⟩:=rx;obtain ⟨t',rfl⟩:=ry;exact rule i j t t' s _ _ hc ⟨.int (g i j),H,I.tok _,⟨_,rfl⟩,q⟩
theorem A10 {f : Value -> Value -> Sem Value} {g : Int -> Int -> Int}
 (rule:∀(i j:Int) (t u:Tok) (s:Shared) (Q:Value->Shared->Prop) (E:Value->Shared->Prop),Q (.int (g i j) s.toks) {s with toks:=s.toks+1}->wpAny (model X.prog X.w) X.A (f (.int i t) (.int j u)) Q E s) :
 OpR X f (rI0 fun i j=> .int (g i j)):=by
 intro pins s σ H x y v u Q I rx ry h;obtain ⟨i,j,rfl,rfl,q⟩:=h;obtain ⟨t,rfl⟩:=rx;obtain ⟨t',rfl⟩:=ry;exact rule i j t t' s _ _ ⟨.int (g i j),H,I.tok _,⟨_,rfl⟩,q⟩
theorem sG {f : Value -> Value -> Sem Value} {g : Int -> Int -> Bool}
 (rule:∀(i j:Int) (t u:Tok) (s:Shared) (Q:Value->Shared->Prop) (E:Value->Shared->Prop),Q (.bool (g i j)) s->wpAny (model X.prog X.w) X.A (f (.int i t) (.int j u)) Q E s) :
 OpR X f (rI0 fun i j=> .bl (g i j)):=by
 intro pins s σ H x y v u Q I rx ry h;obtain ⟨i,j,rfl,rfl,q⟩:=h;obtain ⟨t,rfl⟩:=rx;obtain ⟨t',rfl⟩:=ry;exact rule i j t t' s _ _ ⟨.bl (g i j),H,I,rfl,q⟩
def CMul(i j:Int):Prop:=(-(2 ^ 64)<i/\i<2 ^ 64)\/(-(2 ^ 64)<j/\j<2 ^ 64)
theorem CMul.ok{i j:Int}(h:CMul i j):IntMulOk i j:=by
 rcases h with ⟨h1,h2⟩ | ⟨h1,h2⟩
 . exact .of_left (intBits_le_64 h1 h2)
 . exact .of_right (intBits_le_64 h1 h2)
theorem wQ:OpR X (binaryOp .Add) (rI0 fun i j=> .int (i+j)):=A10 fun _ _ _ _ _ _ _ q=>add_int q
theorem yX:OpR X (binaryOp .Sub) (rI0 fun i j=> .int (i - j)):=A10 fun _ _ _ _ _ _ _ q=>sub_int q
theorem oB:OpR X (binaryOp .Mod) (rI (fun _ j=>j≠0) fun i j=> .int (i.fmod j)):=opI fun _ _ _ _ _ _ _ hc q=>mod_int' hc q
theorem unI {f : Value -> Sem Value} {g : Int -> Int}
 (rule:∀(i:Int) (t:Tok) (s:Shared) (Q:Value->Shared->Prop) (E:Value->Shared->Prop),Q (.int (g i) s.toks) {s with toks:=s.toks+1}->wpAny (model X.prog X.w) X.A (f (.int i t)) Q E s) :
 UnR X f (rU fun i=> .int (g i)):=by
 intro pins s σ H x v Q I rx h;obtain ⟨i,rfl,q⟩:=h;obtain ⟨t,rfl⟩:=rx;exact rule i t s _ _ ⟨.int (g i),H,I.tok _,⟨_,rfl⟩,q⟩
theorem yS:UnR X (unaryOp .USub) (rU fun i=> .int (-i)):=unI fun _ _ _ _ _ q=>neg_int q
end
section
variable {X:Cx} {a b c:Expr} {ta tb tc:TE} {pos:Pos}
theorem vV{pins:List (Addr×Obj)}{σ:St}{H:Hp}{s:Shared}{Q:VK}{k k':Bool}(I:Inv X pins σ H s)(q:Q (.bl k) H)(e:k=k'):EP X pins σ Q (.bool k') s:=by
 subst e;exact ⟨.bl k,H,I,rfl,q⟩
theorem u8:OpR X (compareOp .Lt) (rI0 fun i j=> .bl (decide (i<j))):=sG fun _ _ _ _ _ _ _ q=>lt_int q
theorem A33:OpR X (compareOp .LtE) (rI0 fun i j=> .bl (decide (i<=j))):=sG fun _ _ _ _ _ _ _ q=>le_int q
theorem uA:OpR X (compareOp .Gt) (rI0 fun i j=> .bl (decide (j<i))):=sG fun _ _ _ _ _ _ _ q=>gt_int q
theorem A19:OpR X (compareOp .GtE) (rI0 fun i j=> .bl (decide (j<=i))):=sG fun _ _ _ _ _ _ _ q=>ge_int q
theorem vY:OpR X (compareOp .Is) (fun x y H Q=>y = .non/\Q (.bl (decide (x = .non))) H):=by
 intro pins s σ H x y v u Q I rx ry h;obtain ⟨rfl,q⟩:=h
 cases ry
 refine is_none_gen (vV I q ?_)
 cases x <;> first
  | (cases rx;rfl)
  | (obtain ⟨t,rfl⟩:=rx;rfl)
theorem OpR.or{f:Value->Value->Sem Value}{r r':R2}(h:OpR X f r)(h':OpR X f r'):OpR X f (fun x y H Q=>r x y H Q\/r' x y H Q):=by
 intro pins s σ H x y v u Q I rx ry q;rcases q with q | q
 . exact h pins s σ H x y v u Q I rx ry q
 . exact h' pins s σ H x y v u Q I rx ry q
theorem K5(b:Expr){op:CmpOp}(h:op ≠ .In:=by decide)(h2:op ≠ .NotIn:=by decide):behindInMarks op b=false:=by
 have e1:(op==CmpOp.In)=false:=by cases op <;> first | rfl | exact absurd rfl h
 have e2:(op==CmpOp.NotIn)=false:=by cases op <;> first | rfl | exact absurd rfl h2
 cases b <;> simp [behindInMarks,e1,e2]
theorem q5{op:CmpOp}{r:R2}(ho:OpR X (compareOp op) r)(ha:PE X a ta)(hb:PE X b tb)(hm:behindInMarks op b=false):PE X (.Compare a [op] [b] pos) (tOp r ta tb):=by
 intro pins s σ H Q I h;exact wpAny_Compare1 (xL ha hb I h fun v u s2 x y H2 I2 rx ry q=>ho pins s2 σ H2 x y v u Q I2 rx ry q) hm
def tF(t:TE):TT:=fun σ H Q=>t σ H fun x H'=>∃k,x = .bl k/\Q k H'
theorem oA{op:CmpOp}{r:R2}(ho:OpR X (compareOp op) r)(ha:PE X a ta)(hb:PE X b tb)(hm:behindInMarks op b=false):PT X (.Compare a [op] [b] pos) (tF (tOp r ta tb)):=by
 intro pins s σ H Q I h
 refine AB1 (thn (ha pins s σ H _ I h) fun v s1 ⟨x,H1,I1,r1,q1⟩=>thn (hb pins s1 σ H1 _ I1 q1) fun u s2 ⟨y,H2,I2,r2,q2⟩ =>
  thn (ho pins s2 σ H2 x y v u _ I2 r1 r2 q2) fun c s3 ⟨z,H3,I3,r3,k,e,q3⟩ => ?_) hm
 subst e
 cases r3
 exact EB ⟨H3,I3,q3⟩
def A93(K:PySem.W.Frag)(x:V)(H:Hp)(k:Bool):Prop:=
 match x with
 | .non=>k=false
 | .bl b=>k=b
 | .int i=>k=(i != 0)
 | .str y=>y.length<=sizeLine/\k=((y.length:Int) != 0)
 | .byt y=>y.size<=sizeLine/\k=((y.size:Int) != 0)
 | .ref p=>(∃xs,SqL K H p xs/\k = !xs.isEmpty)\/(∃xs,SqT K H p xs/\k = !xs.isEmpty)\/∃kvs,H p=some (.dK kvs)/\k = !kvs.isEmpty
 | _=>False
theorem aQ{κ:Type}{kvs:List (κ×V)}{vs:List (κ×Value)}(r:KV kvs vs):(!vs.isEmpty) = !kvs.isEmpty:=by
 cases r <;> rfl
theorem TF{xs:List V}{its:List Value}(r:Vals xs its):(!its.toArray.isEmpty) = !xs.isEmpty:=by
 cases r <;> simp
theorem SK:(sizeLine:Nat)<2 ^ 63:=by rw [MO];decide
theorem jI:A94 X (fun x H Q=>∃k,A93 X.K x H k/\Q k H):=by
 intro pins s σ H x v Q I rx h;obtain ⟨k,e,q⟩:=h;have hl:=SK;have hs:sizeLine=16777216:=MO
 cases x with
 | non=>
  cases rx
  have e':k=false:=e;subst e'
  exact truthy_none ⟨H,I,q⟩
 | bl b=>
  cases rx
  have e':k=b:=e;subst e'
  exact EB ⟨H,I,q⟩
 | int i=>
  obtain ⟨t,rfl⟩:=rx;have e':k=(i != 0):=e;subst e'
  exact PySem.P.truthy_int ⟨H,I,q⟩
 | str y=>
  obtain ⟨t,rfl⟩:=rx;obtain ⟨hy,e'⟩:y.length<=sizeLine/\k=((y.length:Int) != 0):=e;subst e'
  exact PySem.P.truthy_str (by omega) ⟨H,I.tok _,q⟩
 | byt y=>
  obtain ⟨t,rfl⟩:=rx;obtain ⟨hy,e'⟩:y.size<=sizeLine/\k=((y.size:Int) != 0):=e;subst e'
  exact PySem.W.truthy_bytes (by omega) ⟨H,I.tok _,q⟩
 | ref p=>
  cases rx
  have e':(∃xs,SqL X.K H p xs/\k = !xs.isEmpty)\/(∃xs,SqT X.K H p xs/\k = !xs.isEmpty)\/∃kvs,H p=some (.dK kvs)/\k = !kvs.isEmpty:=e;rcases e' with ⟨xs,hx,e'⟩ | ⟨xs,hx,e'⟩ | ⟨kvs,hx,e'⟩
  . subst e';obtain ⟨its,r,pl,hz⟩:=I.list hx;have hlen:=r.length;exact wpAny_truthy_list pl.isList (by simp only [AT];omega) ⟨H,I.tok _,by rw [TF r];exact q⟩
  . subst e';obtain ⟨its,r,pl,hz⟩:=I.tuple hx;have hlen:=r.length;exact truthy_tuple pl (by simp only [AT];omega) ⟨H,I.tok _,by rw [TF r];exact q⟩
  . subst e';obtain ⟨hz,hS,vs,r,m⟩:kvs.length<=sizeLine/\(p==sysModules)=false/\∃vs,KV kvs vs/\s.heap.DictOf (EU X.prog X.w) p vs:=I.hok p _ hx;have hlen:kvs.length=vs.length:=IF r
    exact wpAny_truthy_dict hS m (by omega) ⟨H,I.tok _,by rw [aQ r];exact q⟩
 | _=>exact (show False from e).elim
theorem aL:OpR X (binaryOp .Add) (fun x y H Q=>∃i j,x = .str i/\y = .str j/\i.length+j.length<=sizeLine/\Q (.str (i++j)) H):=by
 intro pins s σ H x y v u Q I rx ry h;obtain ⟨i,j,rfl,rfl,hz,q⟩:=h;obtain ⟨t,rfl⟩:=rx;obtain ⟨t',rfl⟩:=ry;exact add_str (fun t' tk=>⟨.str (i++j),H,I.tok _,⟨_,rfl⟩,q⟩) hz
theorem J7{x:V}{us:List Value}(r:Vals [x] us):∃u,us = [u]/\RelV x u:=by
 cases r with
 | cons r1 r2=>cases r2;exact ⟨_,rfl,r1⟩
theorem kJ{x y:V}{us:List Value}(r:Vals [x,y] us):∃u w',us = [u,w']/\RelV x u/\RelV y w':=by
 cases r with
 | cons r1 r2=>
  cases r2 with
  | cons r3 r4=>cases r4;exact ⟨_,_,rfl,r1,r3⟩
theorem gD(hc:X.calm=true):KN X (.builtin "min") (fun xs H Q=>∃i j,xs = [.int i, .int j]/\Q (.int (if j<i then j else i)) H):=by
 intro pins s σ H xs us Q I r h;obtain ⟨i,j,rfl,q⟩:=h;obtain ⟨u,w',rfl,⟨t,rfl⟩,⟨t',rfl⟩⟩:=kJ r;refine min_two_ints (I.ok.hd hc) fun h' tk k=>⟨_,H,I.kept k,?_,q⟩
 by_cases hj:j<i
 . rw [AD hj,AD hj];exact ⟨_,rfl⟩
 . rw [AA hj,AA hj];exact ⟨_,rfl⟩
theorem gH:KN X (.type "int") (fun xs H Q=>(∃i,xs = [.int i]/\Q (.int i) H)\/∃k,xs = [.bl k]/\Q (.int (if k then 1 else 0)) H):=by
 intro pins s σ H xs us Q I r h;rcases h with ⟨i,rfl,q⟩ | ⟨k,rfl,q⟩
 . obtain ⟨u,rfl,t,rfl⟩:=J7 r;exact call_int_int ⟨.int i,H,I,⟨_,rfl⟩,q⟩
 . obtain ⟨u,rfl,r1⟩:=J7 r
   cases r1
   exact call_int_bool ⟨.int (if k then 1 else 0),H,I.tok _,⟨_,rfl⟩,q⟩
end
end L2
namespace L2
open PySem PySem.Spec PyProof.Rows
structure ObjM (h:Heap) (x dx C:Addr) (mA:Str->Option Value):Prop where
 obj:h.get? x=some (PySem.W.instObj C dx)
 ns:h.Ns1 dx mA
 ne:dx≠x
section
variable {prog:Program} {w:World} {A:Around} {E:Value->Shared->Prop} {s:Shared} {K:PySem.W.Frag} {x dx C f:Addr} {mA:Str->Option Value} {name:Str} {v:Value}
end
theorem RelO.some_of{v:V}{o:Option Value}(r:RelO (some v) o):∃u,o=some u/\RelV v u:=by
 cases o with
 | none=>exact (show False from r).elim
 | some u=>exact ⟨u,rfl,r⟩
section
variable {P:Program} {w:World} {H H':Hp} {h h':Heap} {a C dx:Addr} {fs fs':List (Str×V)}
end
structure Cls (K:PySem.W.Frag) (C:Addr):Prop where
 pg:PySem.W.plainGet K C Str.empty=true
 hd:PySem.W.hasDictIn K C=true
 po:PySem.W.plainOver K C=true
 sa:PySem.W.findIn K (.ref C) "__setattr__" = some (some (.builtin "object.__setattr__"))
structure Con (K:PySem.W.Frag) (C:Addr) (f:Str) (v:V) (u:Value):Prop where
 at_:PySem.W.findIn K (.ref C) f=some (some u)
 rel:RelV v u
 get:PySem.W.specialIn K u "__get__" = some none
 cp:PySem.W.copiedNames.contains f=false
structure Meth (K:PySem.W.Frag) (C:Addr) (m:Str) (f:Addr):Prop where
 at_:PySem.W.findIn K (.ref C) m=some (some (.ref f))
 fn:PySem.W.isFn K (.ref f)=true
 kp:PySem.W.keepIn K (.ref f)=true
section
variable {X:Cx} {pins:List (Addr×Obj)} {σ:St} {H:Hp} {s:Shared} {a C dx:Addr} {fs:List (Str×V)} {f:Str} {v:V} {A:Around} {E:Value->Shared->Prop}
end
section
variable {X:Cx} {o e value:Expr} {f:Str} {pos pos' tpos:Pos} {ta tv:TE}
end
section
variable {X:Cx} {pins:List (Addr×Obj)} {σ:St} {H:Hp} {s:Shared} {A:Around} {E:Value->Shared->Prop} {Q:Value->Shared->Prop} {c:Value} {b:Bool}
inductive TyOf (K:PySem.W.Frag) (H:Hp):V->Value->Prop where
 | non:TyOf K H .non (.type "NoneType")
 | bl (x:Bool):TyOf K H (.bl x) (.type "bool")
 | int (i:Int):TyOf K H (.int i) (.type "int")
 | str (x:Str):TyOf K H (.str x) (.type "str")
 | flt (x:UInt64):TyOf K H (.flt x) (.type "float")
 | lst {a:Addr} {xs:List V} (e:H a=some (.lst xs)):TyOf K H (.ref a) (.type "list")
 | frz {a:Addr} {o:Obj} {xs:List V} (e:H a=some (.frz o (.lst xs))):TyOf K H (.ref a) (.type "list")
 | tup {a:Addr} {xs:List V} (e:H a=some (.tup xs)):TyOf K H (.ref a) (.type "tuple")
 | dK {a:Addr} {kvs:List (Key×V)} (e:H a=some (.dK kvs)):TyOf K H (.ref a) (.type "dict")
 | dT {a:Addr} {kvs:List (List Key×V)} (e:H a=some (.dT kvs)):TyOf K H (.ref a) (.type "dict")
 | ins {a C dx : Addr} {fs : List (Str × V)} (e : H a = some (.ins C dx fs)) (cl : Cls K C) (ha : PySem.W.findIn K (.ref C) "__class__" = some (some (.builtin "object.__class__")))
  (hn:PySem.W.specialIn K (.builtin "object.__class__") "__get__" = some (some (.builtin "getset_descriptor.__get__"))) (htk:PySem.W.takesIn K (.builtin "object.__class__")=some true)
  (hm:PySem.W.mroIn K C (.type "object")=some true):TyOf K H (.ref a) (.ref C)
end
end L2
namespace L2
open PySem PySem.Spec PyProof.Rows
structure Room (k:Nat) (A:Around):Prop where
 hd:A.handled=none
 dp:A.depth+3*k+5<recursionLimit
 un:A.units+16*k+200<cLine
theorem Room.mono{j k:Nat}{A:Around}(r:Room k A)(h:j<=k):Room j A:=⟨r.hd,by have:=r.dp;omega,by have:=r.un;omega⟩
theorem Room.deeper{k:Nat}{A:Around}(r:Room (k+1) A)(env:Env):Room k (A.deeper env) :=
 ⟨r.hd,by have:=r.dp;show A.depth+1+3*k+5<_;omega,by have:=r.un;show A.units+3+16*k+200<_;omega⟩
theorem Room.in1{k:Nat}{A:Around}(r:Room (k+1) A):Room k A.in1:=
 ⟨r.hd,by have:=r.dp;show A.depth+3*k+5<_;omega,by have:=r.un;show A.units+1+16*k+200<_;omega⟩
theorem Room.depth{k:Nat}{A:Around}(r:Room k A):A.depth<recursionLimit:=by have:=r.dp;omega
theorem Room.units{k:Nat}{A:Around}(r:Room k A):A.units+64<cLine:=by have:=r.un;omega
def tNil:TA:=fun _ H Q=>Q [] H
def MW(ta:TE)(tr:TA):TA:=fun σ H Q=>ta σ H fun x H1=>tr σ H1 fun xs H2=>Q (x::xs) H2
section
variable {X:Cx} {e:Expr} {es:List Expr} {te:TE} {t:TA} {pos:Pos}
theorem M8:PA X [] tNil:=fun _ _ _ _ H Q I h=>IJ ⟨[],H,I, .nil,h⟩
theorem IY(ha:PE X e te)(hr:PA X es t)(hs:starEach (e::es) X.env=(false,eval e X.env)::starEach es X.env:=by rfl):PA X (e::es) (MW te t):=by
 intro pos pins s σ H Q I h;rw [hs];show wpAny _ _ (spliced ((false,eval e X.env)::backTo pos (starEach es X.env))) _ _ s;refine G5 (thn (ha pins s σ H _ I h) fun u s1 ⟨x,H1,I1,r1,q1⟩ => ?_);exact thn (hr pos pins s1 σ H1 _ I1 q1) fun us s2 ⟨xs,H2,I2,r2,q2⟩=>⟨x::xs,H2,I2, .cons r1 r2,q2⟩
def A59(t:TA):TE:=fun σ H Q=>t σ H fun xs H1=>xs.length<=sizeLine/\∀p,H1 p=none->Q (.ref p) (upd H1 p (.tup xs))
def A15(t:TA):TE:=fun σ H Q=>t σ H fun xs H1=>xs.length<=sizeLine/\∀p,H1 p=none->Q (.ref p) (upd H1 p (.lst xs))
theorem xC{x1}(h:PA X es t):PE X (.Tuple es x1 pos) (A59 t):=by
 intro pins s σ H Q I hq;refine wpAny_Tuple_spliced (thn (h pos pins s σ H _ I hq) fun us s1 ⟨xs,H1,I1,r,z,q⟩=>⟨by rw [<-r.length];exact z,?_⟩);have hf:H1 s1.heap.objs.size=none:=I1.hok.fresh (AF _);refine ⟨.ref s1.heap.objs.size,upd H1 s1.heap.objs.size (.tup xs),I1.laid (t':=s1.toks) (fun b u e=>A4 _ e) (AF _) ?_,rfl,q _ hf⟩;exact ⟨z,us,r,⟨_,AI _ rfl,rfl,_,rfl⟩⟩
theorem w9(h:PA X es t):PE X (.List es pos) (A15 t):=by
 intro pins s σ H Q I hq;refine wpAny_List_spliced (thn (h pos pins s σ H _ I hq) fun us s1 ⟨xs,H1,I1,r,z,q⟩=>⟨by rw [<-r.length];exact z,?_⟩);have hf:H1 s1.heap.objs.size=none:=I1.hok.fresh (AF _);refine ⟨.ref s1.heap.objs.size,upd H1 s1.heap.objs.size (.lst xs),I1.laid (t':=s1.toks) (fun b u e=>A4 _ e) (AF _) ?_,rfl,q _ hf⟩;exact ⟨z,us,0,r,AI _ rfl⟩
end
abbrev Sp:=List V->Hp->VK->XK->Prop
abbrev CXT:=List Env->Hp->Shared->XK->Value->Shared->Prop
structure Env0 (P:Program) (w:World) (K:PySem.W.Frag) (mg:Str->Option Value) (base:Heap) (A:Around) (outer:List Env) (s:Shared) (H:Hp):Prop where
 frames:A.frames=some outer
 mod:Mod K mg base
 bs:∀b o,base.get? b=some o->s.heap.get? b=some o/\H b=none
 bsz:base.objs.size<=s.heap.objs.size
 funs:s.heap.FunFrames base outer
 frf:∀b ∈ frs outer,H b=none
 hok:HOk P w H s.heap
 bare:AllBare s.gens
 tb:∀p ∈ IN K,∃ps,H p=some (.tbl ps)
def CE(outer:List Env)(P:Program)(w:World)(H:Hp)(s:Shared)(Q:VK)(u:Value)(s':Shared):Prop:=
 ∃v H',s'.os=s.os/\AllBare s'.gens/\Un (frs outer) [] H H' s.heap s'.heap/\HOk P w H' s'.heap/\RelV v u/\Q v H'
def CR(CX:CXT)(outer:List Env)(P:Program)(w:World)(H:Hp)(s:Shared)(Q:VK)(E:XK)(r:Result)(s':Shared):Prop:=
 match r with
 | .ok (.ret u)=>CE outer P w H s Q u s'
 | .ok _=>False
 | .error e=>CX outer H s E e s'
structure FnOk (P:Program) (w:World) (K:PySem.W.Frag) (mg:Str->Option Value) (base:Heap) (CX:CXT) (k:Nat) (f:Addr) (fd:FuncData) (ps:List Str) (sp:Sp):Prop where
 len:∀vs H Q E,sp vs H Q E->vs.length=ps.length
 run:∀(A:Around) (outer:List Env) (s:Shared) (H:Hp) (args:Args) (us:List Value) (vs:List V) (Q:VK) (E:XK),Room k A->Env0 P w K mg base A outer s H->BindsTo s fd args (ps.zip us)->Vals vs us->sp vs H Q E ->
  codeAny (model P w) A (.call (.ref f) args) (CR CX outer P w H s Q E) s
theorem FnOk.imp {P : Program} {w : World} {K : PySem.W.Frag} {mg : Str -> Option Value} {base : Heap} {CX : CXT} {k : Nat} {f : Addr} {fd : FuncData} {ps : List Str} {sp sp' : Sp} (F : FnOk P w K mg base CX k f fd ps sp)
 (h:∀vs H Q E,sp' vs H Q E->sp vs H Q E):FnOk P w K mg base CX k f fd ps sp' :=
 ⟨fun vs H Q E q=>F.len vs H Q E (h _ _ _ _ q),fun A outer s H args us vs Q E hr he hb hv hs=>F.run A outer s H args us vs Q E hr he hb hv (h _ _ _ _ hs)⟩
theorem Env0.in1 {P : Program} {w : World} {K : PySem.W.Frag} {mg : Str -> Option Value} {base : Heap} {A : Around} {outer : List Env} {s : Shared} {H : Hp} (e : Env0 P w K mg base A outer s H) :
 Env0 P w K mg base A.in1 outer s H:=⟨e.frames,e.mod,e.bs,e.bsz,e.funs,e.frf,e.hok,e.bare,e.tb⟩
section
variable {X:Cx} {pins:List (Addr×Obj)} {σ:St} {H:Hp} {s s':Shared}
theorem Inv.env0(I:Inv X pins σ H s):Env0 X.prog X.w X.K X.mg X.base X.A X.stack s H:=
 ⟨I.ok.frames,I.ok.mod,I.bs,BQ I.ok.bsz I.sz,I.stack,I.stkFree,I.hok,I.bare,I.tb⟩
theorem Inv.after{Q:VK}{u:Value}(I:Inv X pins σ H s)(h:CE X.stack X.prog X.w H s Q u s'):EP X pins σ Q u s':=by
 obtain ⟨v,H',os,bare,un,hok,r,q⟩:=h;obtain ⟨hh,g,d,t,os'⟩:=s';obtain rfl:os'=s.os:=os;exact ⟨v,H',I.call (h':=hh) (g':=g) (d':=d) (t':=t) (ch:= []) un hok bare (fun b z=>absurd z (by simp)),r,q⟩
end
def lX(sp:Sp)(dvs:List V)(E:XK)(t:TA):TE:=fun σ H Q=>t σ H fun vs H1=>sp (vs++dvs) H1 Q E
def Binds(K:PySem.W.Frag)(fd:FuncData)(ps:List Str)(ds:List Value):Prop:=
 ∀(s:Shared) (us:List Value),K.In s.heap->(us++ds).length=ps.length->BindsTo s fd ⟨us,[]⟩ (ps.zip (us++ds))
theorem Binds.all{K:PySem.W.Frag}{fd:FuncData}{ps:List Str}(h:∀us:List Value,us.length=ps.length->bindArgs fd ⟨us,[]⟩=pure (ps.zip us)):Binds K fd ps []:=fun s us _ hl=>by
 rw [EA] at hl ⊢
 exact .of_eq (h us hl)
def ZV(CX:CXT)(X:Cx)(E:XK):Prop:=∀(pins:List (Addr×Obj)) (σ:St) (H:Hp) (s:Shared) (e:Value) (s':Shared),Inv X pins σ H s->CX X.stack H s E e s'->X.xe e s'
section
variable {X:Cx} {CX:CXT} {k:Nat} {f C:Addr} {fd:FuncData} {ps:List Str} {sp:Sp} {dvs:List V} {ds:List Value} {E:XK} {x m:Str} {p pos apos:Pos} {e o:Expr} {es:List Expr} {ta:TE} {t:TA}
theorem wM {pins : List (Addr × Obj)} {σ : St} {H : Hp} {s : Shared} {Q : VK} {us : List Value} {vs : List V} (F : FnOk X.prog X.w X.K X.mg X.base CX k f fd ps sp) (hr : Room k X.A) (hb : Binds X.K fd ps ds) (hd : Vals dvs ds) (hx : ZV CX X E)
 (I:Inv X pins σ H s) (r:Vals vs us) (h:sp (vs++dvs) H Q E):wpAny (model X.prog X.w) X.A (call (.ref f) us) (EP X pins σ Q) X.xe s:=by
 have r2:Vals (vs++dvs) (us++ds):=r.append hd;have hl:(us++ds).length=ps.length:=by rw [<-r2.length];exact F.len _ _ _ _ h
 refine wpAny_call (i9 (F.run X.A X.stack s H ⟨us,[]⟩ (us++ds) (vs++dvs) Q E hr I.env0 (hb s us I.kIn hl) r2 h) fun r s' hq=> ?_)
 cases r with
 | error e=>exact hx pins σ H s e s' I hq
 | ok fl=>
  cases fl with
  | ret u=>exact I.after hq
  | next=>exact False.elim hq
  | brk=>exact False.elim hq
  | cont=>exact False.elim hq
theorem oT (F : FnOk X.prog X.w X.K X.mg X.base CX k f fd ps sp) (hr : Room k X.A) (hg : Gl X x) (hm : X.mg x = some (.ref f)) (hk : PySem.W.keepIn X.K (.ref f) = true) (hb : Binds X.K fd ps ds) (hd : Vals dvs ds) (hx : ZV CX X E)
 (ha:PA X (e::es) t) (hdb:(x==("__debug__" : Str))=false:=by decide) (he:starEach (e::es) X.env=(false,eval e X.env)::starEach es X.env:=by rfl) (hpl:(backTo pos (starEach es X.env)).any (·.1)=false:=by rfl) :
 PE X (.Call (.Name x p) (e::es) [] pos) (lX sp dvs E t):=by
 intro pins s σ H Q I h;refine E2 (bL I hg hm ?_ hdb);refine PySem.W.callWith_K (h₀:=X.base) I.ok.mod.kin hk (thn (ha pos pins s σ H _ I h) fun us s1 ⟨vs,H1,I1,r,q⟩=>⟨I1.kIn,?_⟩) he hpl;exact wM F hr hb hd hx I1 r q
structure Mk (K:PySem.W.Frag) (C f:Addr):Prop where
 makes:PySem.W.makesIn K C=true
 init:PySem.W.findIn K (.ref C) "__init__" = some (some (.ref f))
 fn:PySem.W.isFn K (.ref f)=true
 kp:PySem.W.keepIn K (.ref C)=true
end
def PK(X:Cx)(kws:List Keyword)(t:TA):Prop:=
 ∀(pos:Pos) (pins:List (Addr×Obj)) (s:Shared) (σ:St) (H:Hp) (Q:List V->Hp->Prop),Inv X pins σ H s->t σ H Q->wpAny (model X.prog X.w) X.A (evalAll ((backToKw pos (keywordEach kws X.env)).map (·.2))) (AP X pins σ Q) X.xe s
section
variable {X:Cx} {CX:CXT} {k:Nat} {f C:Addr} {fd:FuncData} {ps ks:List Str} {sp:Sp} {E:XK} {x m:Str} {p pos apos kpos:Pos} {e o:Expr} {es:List Expr} {kws:List Keyword} {te ta:TE} {t tk:TA} {nm:Option Str}
theorem aH:PK X [] tNil:=fun _ _ _ _ H Q I h=>wpAny_evalAll_nil ⟨[],H,I, .nil,h⟩
theorem VS(ha:PE X e te)(hr:PK X kws t):PK X (⟨nm,e,kpos⟩::kws) (MW te t):=by
 intro pos pins s σ H Q I h;show wpAny _ _ (evalAll ((do let v <-eval e X.env;standAt pos;pure v)::(backToKw pos (keywordEach kws X.env)).map (·.2))) _ _ s;refine wpAny_evalAll_cons (A0 (thn (ha pins s σ H _ I h) fun u s1 ⟨x,H1,I1,r1,q1⟩=>A0 (A74 (A6 ?_))));exact thn (hr pos pins s1 σ H1 _ I1 q1) fun us s2 ⟨xs,H2,I2,r2,q2⟩=>⟨x::xs,H2,I2, .cons r1 r2,q2⟩
structure KBinds (K:PySem.W.Frag) (fd:FuncData) (ps ks:List Str) (g:List Value->List Value->List Value) (gV:List V->List V->List V):Prop where
 to:∀(s:Shared) (us ws:List Value),K.In s.heap->(g us ws).length=ps.length->BindsTo s fd ⟨us,ks.zip ws⟩ (ps.zip (g us ws))
 rel:∀ {vs:List V} {us:List Value} {zs:List V} {ws:List Value},Vals vs us->Vals zs ws->Vals (gV vs zs) (g us ws)
variable {g:List Value->List Value->List Value} {gV:List V->List V->List V}
end
structure FnScope (N P:List Str) (sc:Scope):Prop where
 kind:sc.kind = .function
 co:sc.isCoroutine=false
 gen:sc.isGenerator=false
 nd:N.Nodup
 pre:N.take P.length=P
 par:∀x ∈ P,sc.names.lookup x=some .local\/sc.names.lookup x=some .cell
 nofree:∀y ∈ sc.names,y.2 ≠ .free
theorem UY{kindOf:Str->Option NameKind}{x:Str}:∀ {binds:List (Str×Value)} {m:Str->Option Value},(∀v,(x,v) ∉ binds)->bindL kindOf binds m x=m x
 | [],_,_=>rfl
 | (n,v)::r,m,h=>by
  unfold bindL;rw [UY fun w hw=>h w (List.mem_cons_of_mem _ hw)]
  split
  . have:x≠n:=by rintro rfl;exact h v AQ
    simp [this]
  . rfl
theorem UQ{kindOf:Str->Option NameKind}{x:Str}:∀ {binds:List (Str×Value)} {m:Str->Option Value},(∀v,(x,v) ∉ binds)->bindC kindOf binds m x=m x
 | [],_,_=>rfl
 | (n,v)::r,m,h=>by
  unfold bindC;rw [UQ fun w hw=>h w (List.mem_cons_of_mem _ hw)]
  split
  . rfl
  . have:x≠n:=by rintro rfl;exact h v AQ
    simp [this]
theorem V2 {kindOf : Str -> Option NameKind} {x : Str} {v : Value} : ∀ {P : List Str} {vs : List Value} {i : Nat} {m : Str -> Option Value}, P.Nodup -> P[i]? = some x -> vs[i]? = some v -> kindOf x = some .local ->
 bindL kindOf (P.zip vs) m x=some v
 | [],_,_,_,_,h,_,_=>by simp at h
 | _::_,[],_,_,_,_,h,_=>by simp at h
 | p::P,w::vs,0,m,nd,h1,h2,hk=>by
  simp at h1 h2;subst h1;subst h2
  show bindL kindOf ((p,w)::P.zip vs) m p=_;unfold bindL;rw [UY fun v hv=>(List.nodup_cons.mp nd).1 (List.of_mem_zip hv).1,if_pos hk]
  simp
 | p::P,w::vs,i+1,m,nd,h1,h2,hk=>by
  show bindL kindOf ((p,w)::P.zip vs) m x=_;unfold bindL;exact V2 (i:=i) (List.nodup_cons.mp nd).2 (by simpa using h1) (by simpa using h2) hk
theorem UT {kindOf : Str -> Option NameKind} {x : Str} {v : Value} : ∀ {P : List Str} {vs : List Value} {i : Nat} {m : Str -> Option Value}, P.Nodup -> P[i]? = some x -> vs[i]? = some v -> kindOf x ≠ some .local ->
 bindC kindOf (P.zip vs) m x=some v
 | [],_,_,_,_,h,_,_=>by simp at h
 | _::_,[],_,_,_,_,h,_=>by simp at h
 | p::P,w::vs,0,m,nd,h1,h2,hk=>by
  simp at h1 h2;subst h1;subst h2
  show bindC kindOf ((p,w)::P.zip vs) m p=_;unfold bindC;rw [UQ fun v hv=>(List.nodup_cons.mp nd).1 (List.of_mem_zip hv).1,if_neg hk]
  simp
 | p::P,w::vs,i+1,m,nd,h1,h2,hk=>by
  show bindC kindOf ((p,w)::P.zip vs) m x=_;unfold bindC;exact UT (i:=i) (List.nodup_cons.mp nd).2 (by simpa using h1) (by simpa using h2) hk
def start(N:List Str)(vs:List V):St:=vs.map some++List.replicate (N.length - vs.length) none
def U3(CX:CXT)(P:Program)(w:World)(K:PySem.W.Frag)(mg:Str->Option Value)(base:Heap)(N:List Str)(qual:Str)(scope:Scope)(f:Addr)(cd:Value)(A:Around)(outer:List Env)(s:Shared)(H:Hp)(E:XK):Cx where
 prog:=P
 w:=w
 K:=K
 mg:=mg
 base:=base
 A:=A.deeper (envOfC qual scope s.heap.objs.size f cd)
 N:=N
 s₀:=s
 H₀:=H
 env:=envOfC qual scope s.heap.objs.size f cd
 outer:=outer
 stack:=envOfC qual scope s.heap.objs.size f cd::outer
 ex:= []
 calm:=true
 fn:=fun _=>true
 pn:= []
 xe:=fun e s'=>wpAny (model P w) (A.deeper (envOfC qual scope s.heap.objs.size f cd)) (leaving (envOfC qual scope s.heap.objs.size f cd) e) (fun _ s''=>CX outer H s E e s'') (fun e' s''=>CX outer H s E e' s'') s'
theorem PH{sc:Scope}{n:Nat}{x:Str}(h:sc.names.lookup x=some .cell):∃c,(cellsFrom n sc.names []).lookup x=some c:=by
 have q:=uY sc.names n [] (.inl h);exact Option.isSome_iff_exists.mp q
theorem i6 {CX : CXT} {P : Program} {w : World} {K : PySem.W.Frag} {mg : Str -> Option Value} {base : Heap} {N ps : List Str} {qual : Str} {scope : Scope} {f : Addr} {cd : Value} {A : Around} {outer : List Env} {s s1 : Shared} {H : Hp} {E : XK} {us : List Value} {vs : List V}
 (S:FnScope N ps scope) (hd:A.handled=none) (e0:Env0 P w K mg base A outer s H) (hl:vs.length=ps.length) (r:Vals vs us)
 (x:InCallC s s.heap.objs.size (bindL (envOfC qual scope s.heap.objs.size f cd).kindOf (ps.zip us) fun _=>none) (cellsFrom (s.heap.objs.size+1) scope.names []) (bindC (envOfC qual scope s.heap.objs.size f cd).kindOf (ps.zip us) fun _=>none) s1) :
 Inv (U3 CX P w K mg base N qual scope f cd A outer s H E) [] (start N vs) H s1:=by
 have hpl:ps.length<=N.length:=by have:=KZ List.length S.pre;rw [F0] at this;omega
 obtain ⟨h1,tk,rfl,hk⟩:=x.done;have noA:∀b:Addr,b ∉ (U3 CX P w K mg base N qual scope f cd A outer s H E).ex:=fun b z=>absurd (show b ∈ ([]:List Addr) from z) (by simp)
 refine ⟨⟨e0.mod,S.kind,rfl,rfl,AF _,fun y z c h1 h2=> ?_,fun y hy=> ?_,fun y c _ h=> ?_,fun _=>hd,AB8 e0.frames, .inr ⟨rfl,rfl⟩,fun b z=>absurd z (noA b),e0.bs,e0.bsz,fun b _ _=>noA b,fun b z=>absurd z (noA b),e0.funs,e0.frf,e0.tb⟩,
  rfl,e0.bare,Un.kept hk,⟨_,x.toInCall.ns,fun i y v h1 h2 h3=> ?_⟩,fun y c h=>⟨_,x.cell y c h⟩,e0.hok.fresh (AF _),fun y c h=> ?_,fun p hp=>absurd (show p ∈ ([]:List (Addr×Obj)) from hp) (by simp),e0.hok.kept hk,?_⟩
 . exact name_of_addr x.apart (EQ h1) (EQ h2)
 . have hy:scope.names.lookup y=some .cell\/scope.names.lookup y=some .free:=hy;rcases hy with hy | hy
   . exact PH hy
   . exact absurd rfl (S.nofree _ (EQ hy))
 . exact JO (x.above y c (EQ h))
 . have hi : i < vs.length := by
    unfold start at h2
    by_cases hi:i<vs.length
    . exact hi
    . rw [MP (by simpa using hi)] at h2
      rw [ED] at h2
      split at h2 <;> cases h2
   have ha:vs[i]? = some v:=by
    unfold start at h2
    rw [NE (by simpa using hi),AX] at h2
    cases e:vs[i]? with
    | none=>rw [e] at h2;cases h2
    | some a=>rw [e] at h2;cases h2;rfl
   obtain ⟨u,hu,rv⟩:=r.get ha
   have hp:ps[i]? = some y:=by
    rw [<-S.pre,List.getElem?_take_of_lt (by omega)];exact h1
   have ndP:ps.Nodup:=by rw [<-S.pre];exact S.nd.sublist (WQ _ _)
   refine ⟨u,rv,?_⟩;rcases S.par y (BB hp) with k | k
   . exact .inl ⟨k,V2 ndP hp hu k⟩
   . obtain ⟨c,e⟩:=PH (n:=s.heap.objs.size+1) k;refine .inr ⟨.inl k,c,e,?_⟩;have q:=x.cell y c e;rw [UT ndP hp hu (by show scope.names.lookup y≠_;rw [k];decide)] at q
     exact q
 . exact e0.hok.fresh (JO (x.above y c (EQ h)))
 . unfold start;show _=N.length;rw [List.length_append,List.length_map,List.length_replicate];omega
theorem tR {CX : CXT} {P : Program} {w : World} {K : PySem.W.Frag} {mg : Str -> Option Value} {base : Heap} {k : Nat} {f : Addr} {name qual : Str} {params : Arguments} {body : List Stmt} {scope : Scope} {dV kV doc pm cdv ct oc : Value} {an od : Option Addr}
 {osl:Array (Option Value)} {N ps:List Str} {sp:Sp} (lk:K.lookup f=some ⟨oc,od, .func (PySem.W.fnOf name qual params body scope dV kV doc pm an cdv ct),osl⟩) (hcd:PySem.W.codeIn K cdv qual=true) (S:FnScope N ps scope)
 (len:∀vs H Q E,sp vs H Q E->vs.length=ps.length)
 (hbody:∀(A:Around) (outer:List Env) (s:Shared) (H:Hp) (vs:List V) (Q:VK) (E:XK),Room k (A.deeper (envOfC qual scope s.heap.objs.size f cdv))->sp vs H Q E ->
  ∃t,PSs (U3 CX P w K mg base N qual scope f cdv A outer s H E) body t/\t {nx:=fun _ H'=>Q .non H',rt:=Q} (start N vs) H) :
 FnOk P w K mg base CX (k+1) f (PySem.W.fnOf name qual params body scope dV kV doc pm an cdv ct) ps sp:=by
 refine ⟨len,fun A outer s H args us vs Q E hr e0 hb r hsp=> ?_⟩;have hl:=len _ _ _ _ hsp;have KX:K.In s.heap:=e0.mod.kin.keeps fun b o e=>(e0.bs b o e).1;have lim:s.heap.NoLimit:=e0.mod.nolimit.keeps fun b o e=>(e0.bs b o e).1
 have hkind:∀y ∈ ps.zip us,scope.names.lookup y.1=some .local\/(scope.names.lookup y.1=some .cell/\((cellsFrom (s.heap.objs.size+1) scope.names []).lookup y.1).isSome=true):=fun ⟨n,v⟩ hy=>by
  rcases S.par n (AB2 hy).1 with q | q
  . exact .inl q
  . exact .inr ⟨q,uY _ _ _ (.inl q)⟩
 refine codeAny_call_function hr.depth (KX _ _ lk) rfl S.co S.gen rfl (PySem.W.codeRec_of KX hcd) (hb _ _ _ _ ?_);refine wpAny_newFunctionEnv_cells S.kind hkind fun env he s1 x=> ?_;subst he;refine ⟨lim.keeps x.toInCall.keep,codeAny_func ?_⟩;obtain ⟨t,ht,hq⟩:=hbody A outer s H vs Q E (hr.deeper _) hsp;have I:Inv (U3 CX P w K mg base N qual scope f cdv A outer s H E) [] (start N vs) H s1:=i6 S hr.hd e0 hl r x;refine E1 (ht [] s1 (start N vs) H _ I hq) (fun fl s' hs=> ?_) fun e s' hs=>hs
 have fin:∀ {σ':St} {H':Hp} {v:V} {u:Value},Inv (U3 CX P w K mg base N qual scope f cdv A outer s H E) [] σ' H' s'->RelV v u->Q v H'->CE outer P w H s Q u s' :=
  fun {σ' H' v u} J rv q=>⟨v,H',J.os,J.bare,J.base,J.hok,rv,q⟩
 cases fl with
 | ret u=>
  obtain ⟨v,σ',H',J,rv,q⟩:=hs
  exact fin J rv q
 | next=>
  obtain ⟨σ',H',J,q⟩:=hs
  exact fin (v:=V.non) (u:=Value.none) J rfl q
 | brk=>
  obtain ⟨_,_,_,q⟩:=hs
  exact False.elim q
 | cont=>
  obtain ⟨_,_,_,q⟩:=hs;exact False.elim q
end L2
namespace L2
open PySem PySem.Spec PyProof.Rows
section
variable {X:Cx} {x:Str} {p pos:Pos} {e:Expr} {es:List Expr} {t:TA} {id T:String} {r:List V->Hp->VK->Prop}
def tCB(r:List V->Hp->VK->Prop)(t:TA):TE:=fun σ H Q=>t σ H fun vs H1=>r vs H1 Q
theorem XA (hc : KN X (.builtin id) r) (hg : Gl X x) (hm : X.mg x = none) (hv : bootBuiltins x = some (.builtin id)) (ha : PA X (e :: es) t) (hn : x ≠ "__name__" := by decide) (hdb : (x == ("__debug__" : Str)) = false := by decide)
 (he:starEach (e::es) X.env=(false,eval e X.env)::starEach es X.env:=by rfl) (hpl:(backTo pos (starEach es X.env)).any (·.1)=false:=by rfl):PE X (.Call (.Name x p) (e::es) [] pos) (tCB r t):=by
 intro pins s σ H Q I h;refine E2 (GS I hg hm hv ?_ hn hdb);exact KP (thn (ha pos pins s σ H _ I h) fun us s1 ⟨vs,H1,I1,r1,q1⟩=>hc pins s1 σ H1 vs us Q I1 r1 q1) he hpl
theorem eM (hc : KN X (.type T) r) (hg : Gl X x) (hm : X.mg x = none) (hv : bootBuiltins x = some (.type T)) (ha : PA X (e :: es) t) (hn : x ≠ "__name__" := by decide) (hdb : (x == ("__debug__" : Str)) = false := by decide)
 (he:starEach (e::es) X.env=(false,eval e X.env)::starEach es X.env:=by rfl) (hpl:(backTo pos (starEach es X.env)).any (·.1)=false:=by rfl):PE X (.Call (.Name x p) (e::es) [] pos) (tCB r t):=by
 intro pins s σ H Q I h;refine E2 (GS I hg hm hv ?_ hn hdb);exact CA (thn (ha pos pins s σ H _ I h) fun us s1 ⟨vs,H1,I1,r1,q1⟩=>hc pins s1 σ H1 vs us Q I1 r1 q1) he hpl
end
end L2
namespace HT
open PySem PyProof.Rows
section
open PySem.SeqAt
open PySem.AutoSeq1 (wpAny_loadPart')
open PySem.MeetsSeq PySem.MeetsSeq2 PySem.MeetsSeq3
end
section
variable {prog:Program} {w:World} {A:Around} {E:Value->Shared->Prop} {s:Shared}
theorem cat_tup {t b : Addr} {vs ws : List Value} {Q : Value -> Shared -> Prop} (ht : IsTup s.heap t vs.toArray) (hb : IsTup s.heap b ws.toArray) (hv : vs ≠ [])
 (h1:ws = []->Q (.ref t) s) (h2:ws ≠ []->Q (.ref s.heap.objs.size) {s with heap:=s.heap.push {cls:= .type "tuple",data:= .seq (vs++ws).toArray} })
 (hsz:vs.length+ws.length<=sizeLine):wpAny (model prog w) A (binaryOp .Add (.ref t) (.ref b)) Q E s:=by
 obtain ⟨⟨cls,dd,data,sl⟩,ho,hc,n,hd⟩:=id ht;obtain ⟨⟨cls2,dd2,data2,sl2⟩,ho2,hc2,n2,hd2⟩:=id hb;simp only at hc hd hc2 hd2
 subst hc hd hc2 hd2;have e:vs.toArray++ws.toArray=(vs++ws).toArray:=by simp
 by_cases hw:ws = []
 . exact iA ⟨_, ho, rfl⟩ ⟨_, ho2, rfl⟩ nX A75 PQ OG (NW _ _)
    (tuple_addW1 t b vs.toArray ws.toArray n n2 dd dd2 sl sl2 (by simpa using hv) (by simp [hw])) ⟨ho,ho2,h1 hw⟩
 . refine iA ⟨_, ho, rfl⟩ ⟨_, ho2, rfl⟩ nX A75 PQ OG (NW _ _)
    (tuple_addW2 t b vs.toArray ws.toArray n n2 dd dd2 sl sl2 (by simpa using hv) (by simpa using hw) (by rw [AT,AT];exact hsz)) ⟨ho,ho2,?_⟩
   rw [e];exact h2 hw
def sIx(n d:Nat):Option Int->Nat
 | none=>d
 | some v=>if v<0 then (v+(n:Int)).toNat else min v.toNat n
theorem sIx_none(n d:Nat):sIx n d none=d:=rfl
theorem sIx_nat(n d k:Nat):sIx n d (some (k:Int))=min k n:=by
 show (if (k:Int)<0 then ((k:Int)+(n:Int)).toNat else min (k:Int).toNat n)=min k n;rw [AA (by omega),DU]
theorem xF(n d:Nat)(hd:d<=n)(o:Option Int):sIx n d o<=n:=by
 cases o with
 | none=>exact hd
 | some v=>
  show (if v<0 then (v+(n:Int)).toNat else min v.toNat n)<=n
  by_cases hv:v<0
  . rw [AD hv];omega
  . rw [AA hv];exact AA6 _ _
theorem bG(v:Int)(n d:Nat):(if v<0 then max (v+(n:Int)) 0 else min v (n:Int))=((sIx n d (some v):Nat):Int):=by
 show (if v<0 then max (v+(n:Int)) 0 else min v (n:Int))=(((if v<0 then (v+(n:Int)).toNat else min v.toNat n):Nat):Int)
 by_cases hv:v<0
 . simp only [AD hv];omega
 . simp only [AA hv];omega
theorem ZS(lo hi:Option Int)(n:Nat):Builtin.Slice.sliceAdjust lo hi 1 (n:Int)=(((sIx n 0 lo:Nat):Int),((sIx n n hi:Nat):Int)):=by
 have h1:¬((1:Int)<0):=by omega
 unfold Builtin.Slice.sliceAdjust;simp only [h1,if_false];refine Prod.ext ?_ ?_
 . cases lo with
   | none=>rfl
   | some v=>exact bG v n 0
 . cases hi with
   | none=>rfl
   | some v=>exact bG v n n
theorem ZK(i j:Nat):Builtin.Slice.slicePlaces (i:Int) (j:Int) 1=j - i:=by
 unfold Builtin.Slice.slicePlaces;have h1:(1:Int)>0:=by omega
 simp only [h1,G6,Int.ediv_one]
 split <;> omega
theorem T7{v:Value}{o:Option Int}{Q:Option Int->Shared->Prop}(p:IsPart v o)(h:Q o s):wpAny (model prog w) A (Builtin.Slice.slicePartIndex v) Q E s:=by
 cases p with
 | none=>exact slicePart_none h
 | int i t=>exact slicePart_int h
theorem QB {sl : Addr} {vl vu : Value} {lo hi : Option Int} {n : Nat} {Q : Int × Int × Nat -> Shared -> Prop} (hs : s.heap.IsSliceOf sl vl vu .none) (pl : IsPart vl lo) (pu : IsPart vu hi)
 (h:Q (((sIx n 0 lo:Nat):Int),1,sIx n n hi - sIx n 0 lo) s):wpAny (model prog w) A (Builtin.Slice.sliceApplied (.ref sl) (pure (n:Int))) Q E s:=by
 obtain ⟨os,hos,hcs,hds⟩:=id hs;unfold Builtin.Slice.sliceApplied Builtin.Slice.sliceFields;refine wpAny_bind (wpAny_bind (wpAny_field hos hds (x:=vl) rfl (wpAny_bind (wpAny_field hos hds (x:=vu) rfl (wpAny_bind (wpAny_field hos hds (x:= .none) rfl (wpAny_pure ?_)))))));refine wpAny_bind (slicePart_none ?_);show wpAny _ _ (if ((1:Int)==0)=true then _ else _) _ _ s;rw [if_neg (by decide)];refine wpAny_bind (T7 pl (wpAny_bind (T7 pu (wpAny_bind (wpAny_pure ?_)))));show wpAny _ _ (match Builtin.Slice.sliceAdjust lo hi 1 (n:Int) with | (lo,hi)=>pure (lo,(1:Int),Builtin.Slice.slicePlaces lo hi 1)) _ _ s;rw [ZS lo hi n];show wpAny _ _ (pure (((sIx n 0 lo:Nat):Int),(1:Int),Builtin.Slice.slicePlaces ((sIx n 0 lo:Nat):Int) ((sIx n n hi:Nat):Int) 1)) _ _ s;rw [ZK];exact wpAny_pure h
theorem jG(xs:Array Value)(i k:Nat):((List.range k).filterMap fun (m:Nat)=>xs[((i:Int)+(m:Int)*1).toNat]?).toArray=((xs.toList.drop i).take k).toArray:=by
 have e:(fun (m:Nat)=>xs[((i:Int)+(m:Int)*1).toNat]?)=fun m=>xs[i+m]? :=by
  funext m;have:((i:Int)+(m:Int)*1).toNat=i+m:=by omega
  rw [this]
 rw [e];have:=pick_run xs i k;rw [List.filterMap_map] at this
 have e2:((fun x=>xs[x]?) ∘ fun x=>i+x)=fun m=>xs[i+m]? :=rfl;rw [e2] at this
 rw [this]
theorem getItem_tuple_cut {t sl : Addr} {items : Array Value} {vl vu : Value} {lo hi : Option Int} {Q : Value -> Shared -> Prop} (ht : IsTup s.heap t items) (hs : s.heap.IsSliceOf sl vl vu .none) (pl : IsPart vl lo) (pu : IsPart vu hi)
 (hw:¬(sIx items.size 0 lo=0/\sIx items.size items.size hi=items.size))
 (h:Q (.ref s.heap.objs.size) {s with heap:=s.heap.push {cls:= .type "tuple",data:= .seq ((items.toList.drop (sIx items.size 0 lo)).take (sIx items.size items.size hi - sIx items.size 0 lo)).toArray} })
 (hsz:items.size<=sizeLine):wpAny (model prog w) A (getItem (.ref t) (.ref sl)) Q E s:=by
 have htake:sizeOk (.seq ((items.toList.drop (sIx items.size 0 lo)).take (sIx items.size items.size hi - sIx items.size 0 lo)).toArray):=by
  show ((items.toList.drop (sIx items.size 0 lo)).take (sIx items.size items.size hi - sIx items.size 0 lo)).toArray.size<=sizeLine;rw [AT,F0,AA7,BJ];omega
 have hj:sIx items.size items.size hi<=items.size:=xF _ _ (Nat.le_refl _) hi;obtain ⟨os,hos,hcs,hds⟩:=id hs;have hTs:s.TypeIs (.ref sl) "slice" :=⟨os,hos,hcs⟩;unfold getItem
 try with_reducible refine CP ?_
 first | refine A0 (A6 ?_) | skip
 refine A0 (wpAny_sequenceKey ht.typeIs (by decide) ?_)
 refine A0 (CN (name:=Str.ofString "__getitem__") ht.typeIs KB
  (EI KB ht.typeIs entry_tuple_getitem ?_ (args_tuple_getitem _ _)))
 show wpAny _ _ (Builtin.Tuple.tupleItemsOf (.ref t) >>= _) _ _ s;refine A0 (tupleItemsOf_ ht ?_);refine A0 (wpAny_typeOf hTs ?_);rw [AD (by decide)];refine A0 (QB hs pl pu ?_)
 have hno:¬((((sIx items.size 0 lo:Nat):Int)==0 && (1:Int)==1 && (sIx items.size items.size hi - sIx items.size 0 lo)==items.size)=true):=by
  intro q;rw [GE,GE] at q
  have q1:((sIx items.size 0 lo:Nat):Int)=0:=eq_of_beq q.1.1;have q2:sIx items.size items.size hi - sIx items.size 0 lo=items.size:=eq_of_beq q.2;exact hw ⟨by omega,by omega⟩
 show wpAny _ _ (if (((sIx items.size 0 lo:Nat):Int)==0 && (1:Int)==1 && (sIx items.size items.size hi - sIx items.size 0 lo)==items.size)=true then _ else _) _ _ s;rw [AA hno,jG]
 first
  | exact A0 (m:=Builtin.Tuple.tupleExact _) (CZ (A6 ⟨_,rfl,A6 h⟩) htake)
  | exact A0 (m:=Builtin.Tuple.tupleExact _) (CZ (A0 (A6 (A6 ⟨_,rfl,A6 h⟩))) htake)
  | exact A0 (A0 (m:=Builtin.Tuple.tupleExact _) (CZ (A6 (A6 ⟨_,rfl,A6 h⟩)) htake))
  | exact A0 (A0 (m:=Builtin.Tuple.tupleExact _) (CZ (A6 ⟨_,rfl,A6 h⟩) htake))
end
end HT
namespace L2
open PySem PySem.Spec PyProof.Rows
abbrev TO:=St->Hp->(Option Int->Hp->Prop)->Prop
def PO(X:Cx)(e:Option Expr)(t:TO):Prop:=
 ∀(pins:List (Addr×Obj)) (s:Shared) (σ:St) (H:Hp) (Q:Option Int->Hp->Prop),Inv X pins σ H s->t σ H Q ->
   wpAny (model X.prog X.w) X.A (evalPart e X.env) (fun u s'=>∃o H',Inv X pins σ H' s'/\IsPart u o/\Q o H') X.xe s
def tNoPart:TO:=fun _ H Q=>Q none H
def tD(t:TE):TO:=fun σ H Q=>t σ H fun x H1=>∃i,x = .int i/\Q (some i) H1
theorem ZR{ns:List Int}:∀ {us:List Value},Vals (ns.map V.int) us->IntsAre us ns:=by
 induction ns with
 | nil=>intro us r;rw [PU] at r;cases r;exact .nil
 | cons n ns ih=>
  intro us r;rw [B0] at r
  cases r with
  | cons r1 r2=>
   obtain ⟨t,e⟩:=r1;subst e;exact .cons n t (ih r2)
section
variable {X:Cx} {e:Expr} {te:TE} {lo hi:Option Expr} {tl th:TO} {pos p2:Pos}
theorem rB:PO X none tNoPart:=by
 intro pins s σ H Q I h;rw [evalPart_none];exact A6 ⟨none,H,I, .none,h⟩
theorem qG(h:PE X e te):PO X (some e) (tD te):=by
 intro pins s σ H Q I hw;rw [evalPart_some];refine thn (h pins s σ H _ I hw) fun u s1 ⟨x,H1,I1,r1,q1⟩ => ?_;obtain ⟨i,rfl,q⟩:=q1;obtain ⟨t,rfl⟩:=r1;exact ⟨some i,H1,I1, .int i t,q⟩
def SlR(X:Cx)(r:V->Option Int->Option Int->Hp->VK->Prop):Prop:=
 ∀(pins:List (Addr×Obj)) (s:Shared) (σ:St) (H:Hp) (x:V) (v vl vu:Value) (lo hi:Option Int) (sl:Addr) (Q:VK),Inv X pins σ H s->RelV x v->s.heap.IsSliceOf sl vl vu .none->IsPart vl lo->IsPart vu hi->r x lo hi H Q ->
   ∃T id,typeLookup (.type T) "__getitem__" = pure (some (.builtin id))/\s.TypeIs v T/\wpAny (model X.prog X.w) X.A (getItem v (.ref sl)) (EP X pins σ Q) X.xe s
theorem SlR.or{r r':V->Option Int->Option Int->Hp->VK->Prop}(h:SlR X r)(h':SlR X r'):SlR X (fun x lo hi H Q=>r x lo hi H Q\/r' x lo hi H Q):=by
 intro pins s σ H x v vl vu lo hi sl Q I rx hs pl pu q;rcases q with q | q
 . exact h pins s σ H x v vl vu lo hi sl Q I rx hs pl pu q
 . exact h' pins s σ H x v vl vu lo hi sl Q I rx hs pl pu q
def tSl(r:V->Option Int->Option Int->Hp->VK->Prop)(te:TE)(tl th:TO):TE:=fun σ H Q=>te σ H fun x H1=>tl σ H1 fun l H2=>th σ H2 fun u H3=>r x l u H3 Q
theorem jF{r:V->Option Int->Option Int->Hp->VK->Prop}(hr:SlR X r)(he:PE X e te)(hl:PO X lo tl)(hu:PO X hi th):PE X (.Subscript e (.Slice lo hi none p2) pos) (tSl r te tl th):=by
 intro pins s σ H Q I h;refine Subscript_ (thn (he pins s σ H _ I h) fun v s1 ⟨x,H1,I1,r1,q1⟩ => ?_);refine wpAny_Slice (thn (hl pins s1 σ H1 _ I1 q1) fun vl s2 ⟨l,H2,I2,pl,q2⟩=>thn (hu pins s2 σ H2 _ I2 q2) fun vu s3 ⟨u,H3,I3,pu,q3⟩ => ?_);rw [evalPart_none];refine A6 ?_;have I4:Inv X pins σ H3 {s3 with heap:=s3.heap.push {cls:= .type "slice",data:= .fields #[vl,vu, .none]} }:=I3.kept (t':=s3.toks) fun b ob q=>A4 _ q;obtain ⟨T,id,hT,ht,hg⟩:=hr pins {s3 with heap:=s3.heap.push {cls:= .type "slice",data:= .fields #[vl,vu, .none]} } σ H3 x v vl vu l u s3.heap.objs.size Q I4 r1 (Heap.IsSliceOf.new ..) pl pu q3;show wpAny (model X.prog X.w) X.A (subscriptTail e (.Slice lo hi none p2) v (.ref s3.heap.objs.size)) (EP X pins σ Q) X.xe {s3 with heap:=s3.heap.push {cls:= .type "slice",data:= .fields #[vl,vu, .none]} };exact tail_any (ops:= [.ref s3.heap.objs.size,v]) ht hT hg (by with_unfolding_all rfl)
def Y1(xs:List V)(lo hi:Option Int):List V:=(xs.drop (HT.sIx xs.length 0 lo)).take (HT.sIx xs.length xs.length hi - HT.sIx xs.length 0 lo)
theorem QM(xs:List V)(lo hi:Option Int):(Y1 xs lo hi).length<=xs.length:=by
 unfold Y1;rw [List.length_take,List.length_drop];omega
def A40(K:PySem.W.Frag):V->Option Int->Option Int->Hp->VK->Prop:=fun x lo hi H Q=>∃a xs,x = .ref a/\SqT K H a xs /\
 ¬(HT.sIx xs.length 0 lo=0/\HT.sIx xs.length xs.length hi=xs.length)/\∀p,H p=none->Q (.ref p) (upd H p (.tup (Y1 xs lo hi)))
theorem xX:SlR X (A40 X.K):=by
 intro pins s σ H x v vl vu lo hi sl Q I rx hs pl pu h;obtain ⟨a,xs,rfl,hx,hw,q⟩:=h
 cases rx
 obtain ⟨its,r,ht,hz⟩:=I.tuple hx;have hlen:its.toArray.size=xs.length:=by rw [AT];exact r.length.symm
 refine ⟨"tuple",_,KB.lookup,ht.typeIs,?_⟩;refine HT.getItem_tuple_cut ht hs pl pu (by rw [hlen];exact hw) ?_ (by rw [hlen];exact hz);rw [hlen];refine ⟨.ref s.heap.objs.size,_,I.laid (t':=s.toks) (o:= .tup (Y1 xs lo hi)) (fun b ob q=>A4 _ q) (AF _) ?_,rfl,q _ (I.hok.fresh (AF _))⟩;exact ⟨BQ (QM xs lo hi) hz,_,(r.drop (HT.sIx xs.length 0 lo)).take (HT.sIx xs.length xs.length hi - HT.sIx xs.length 0 lo),IsTup.new _ _⟩
def uQ(K:PySem.W.Frag):R2:=fun x y H Q=>∃a b xs ys,x = .ref a/\y = .ref b/\SqT K H a xs/\SqT K H b ys/\xs ≠ []/\xs.length+ys.length<=sizeLine /\
 (ys = []->Q (.ref a) H)/\(ys ≠ []->∀p,H p=none->Q (.ref p) (upd H p (.tup (xs++ys))))
theorem Vals.nil_iff{xs:List V}{us:List Value}(r:Vals xs us):us = []↔xs = []:=by
 cases r with
 | nil=>simp
 | cons _ _=>simp
theorem qD:OpR X (binaryOp .Add) (uQ X.K):=by
 intro pins s σ H x y v u Q I rx ry h;obtain ⟨a,b,xs,ys,rfl,rfl,ha,hb,hx,hz,q1,q2⟩:=h
 cases rx
 cases ry
 obtain ⟨its,r1,p1,_⟩:=I.tuple ha;obtain ⟨its2,r2,p2,_⟩:=I.tuple hb;refine HT.cat_tup p1 p2 (fun z=>hx (r1.nil_iff.mp z)) (fun z=>⟨.ref a,H,I,rfl,q1 (r2.nil_iff.mp z)⟩) (fun z=> ?_) (by rw [<-r1.length, <-r2.length];exact hz);refine ⟨.ref s.heap.objs.size,_,I.laid (t':=s.toks) (o:= .tup (xs++ys)) (fun b ob q=>A4 _ q) (AF _) ?_,rfl,q2 (fun w=>z (r2.nil_iff.mpr w)) _ (I.hok.fresh (AF _))⟩;exact ⟨by rw [BC];exact hz,_,r1.append r2,IsTup.new _ _⟩
end
end L2
namespace L2
open PySem PySem.Spec PyProof.Rows
def ixN(n:Nat)(i:Int):Option Nat:=if 0<=i then (if i<n then some i.toNat else none) else if -(n:Int)<=i then some (i+n).toNat else none
def atI{α:Type}(xs:List α)(i:Int):Option α:=(ixN xs.length i).bind fun j=>xs[j]?
theorem qU{n:Nat}{i:Int}{j:Nat}(h:ixN n i=some j):seqIndex? i n=some j/\j<n /\ -(n:Int)<=i/\i<n:=by
 unfold ixN at h
 by_cases h0:0<=i
 . rw [AD h0] at h
   by_cases h1:i<n
   . rw [AD h1] at h
     have e:i.toNat=j:=BG h;exact ⟨by rw [seqIndex_of h0 h1,e],by omega,by omega,h1⟩
   . rw [AA h1] at h;cases h
 . rw [AA h0] at h
   by_cases h1 : -(n:Int)<=i
   . rw [AD h1] at h
     have e:(i+n).toNat=j:=BG h;exact ⟨by rw [seqIndex_neg (by omega) h1,e],by omega,h1,by omega⟩
   . rw [AA h1] at h;cases h
theorem VZ{α:Type}{xs:List α}{i:Int}{v:α}(h:atI xs i=some v):∃j,seqIndex? i xs.length=some j/\xs[j]? = some v/\j<xs.length /\ -(xs.length:Int)<=i/\i<xs.length:=by
 unfold atI at h
 cases e:ixN xs.length i with
 | none=>rw [e] at h;cases h
 | some j=>
  rw [e] at h
  obtain ⟨h1,h2,h3,h4⟩:=qU e;exact ⟨j,h1,h,h2,h3,h4⟩
def bQ(b:Expr):Prop:=∀o i,subscripted b false o i=operate [o,i] (getItem o i)
def IxR(X:Cx)(r:R2):Prop:=
 ∀(value slice:Expr) (pins:List (Addr×Obj)) (s:Shared) (σ:St) (H:Hp) (x y:V) (v u:Value) (Q:VK),Inv X pins σ H s->RelV x v->RelV y u->r x y H Q ->
   subscripted slice false v u=operate [v,u] (getItem v u)->wpAny (model X.prog X.w) X.A (subscriptTail value slice v u) (EP X pins σ Q) X.xe s
def MtR(X:Cx)(id:String)(r:V->List V->Hp->VK->Prop):Prop:=
 ∀(pins:List (Addr×Obj)) (s:Shared) (σ:St) (H:Hp) (x:V) (xs:List V) (v:Value) (us:List Value) (Q:VK),Inv X pins σ H s->RelV x v->Vals xs us->r x xs H Q ->
   wpAny (model X.prog X.w) X.A (call (.builtin id) (v::us)) (EP X pins σ Q) X.xe s
section
variable {X:Cx} {a b:Expr} {ta tb:TE} {pos:Pos}
theorem IxR.or{r r':R2}(h:IxR X r)(h':IxR X r'):IxR X (fun x y H Q=>r x y H Q\/r' x y H Q):=by
 intro value slice pins s σ H x y v u Q I rx ry q hs;rcases q with q | q
 . exact h value slice pins s σ H x y v u Q I rx ry q hs
 . exact h' value slice pins s σ H x y v u Q I rx ry q hs
theorem A12{r:R2}(hr:IxR X r)(ha:PE X a ta)(hb:PE X b tb)(hs:bQ b):PE X (.Subscript a b pos) (tOp r ta tb):=by
 intro pins s σ H Q I h;exact Subscript_ (xL ha hb I h fun v u s2 x y H2 I2 rx ry q=>hr a b pins s2 σ H2 x y v u Q I2 rx ry q (hs _ _))
def A08(K:PySem.W.Frag):R2:=fun x y H Q=>∃p xs i v,x = .ref p/\y = .int i/\SqL K H p xs/\atI xs i=some v/\Q v H
def A03(K:PySem.W.Frag):R2:=fun x y H Q=>∃p xs i v,x = .ref p/\y = .int i/\SqT K H p xs/\atI xs i=some v/\Q v H
def rIxS:R2:=fun x y H Q=>∃z i c,x = .str z/\y = .int i/\z.length<=sizeLine/\atI z.cps.toList i=some c/\Q (.str ⟨#[c]⟩) H
theorem pG:IxR X (A08 X.K):=by
 intro value slice pins s σ H x y v u Q I rx ry h hs;obtain ⟨p,xs,i,z,rfl,rfl,hq,he,q⟩:=h
 cases rx
 obtain ⟨t,rfl⟩:=ry;obtain ⟨its,r,pl,hz⟩:=I.list hq;obtain ⟨j,h1,h2,h3,h4,h5⟩:=VZ he;obtain ⟨w,ew,rw'⟩:=r.get h2;have hl:=r.length;have hn:=SK;have fin:EP X pins σ Q w s:=⟨z,H,I,rw',q⟩
 by_cases h0:0<=i
 . have hj : i.toNat = j := by
    rw [seqIndex_of h0 h5] at h1
    exact BG h1
   exact item_listR pl.isList h0 (by omega) (by rw [hj];simpa using ew) fin hs
 . have hj : (i + (its.toArray.size : Int)).toNat = j := by
    rw [seqIndex_neg (by omega) h4] at h1
    rw [AT, <-hl];exact BG h1
   exact subscriptTail_builtinR (x:=w) pl.isList.typeIs slot_list_getitem.lookup
    (wpAny_getItem_list_neg (Q:=fun r s'=>r=w/\EP X pins σ Q r s') pl.isList (by omega) (by rw [AT] <;> omega) (by omega) (by rw [hj];simpa using ew) ⟨rfl,fin⟩) hs
theorem y0:IxR X (A03 X.K):=by
 intro value slice pins s σ H x y v u Q I rx ry h hs;obtain ⟨p,xs,i,z,rfl,rfl,hq,he,q⟩:=h
 cases rx
 obtain ⟨t,rfl⟩:=ry;obtain ⟨its,r,pl,hz⟩:=I.tuple hq;obtain ⟨j,h1,h2,h3,h4,h5⟩:=VZ he;obtain ⟨w,ew,rw'⟩:=r.get h2;have hl:=r.length;have hn:=SK;have fin:EP X pins σ Q w s:=⟨z,H,I,rw',q⟩
 exact subscriptTail_builtinR (x:=w) pl.typeIs slot_tuple_getitem.lookup
  (getItem_tuple (j:=j) (Q:=fun r s'=>r=w/\EP X pins σ Q r s') pl (by omega) (by omega) (by rw [AT, <-hl];exact h1) (by simpa using ew) ⟨rfl,fin⟩) hs
theorem wJ:IxR X rIxS:=by
 intro value slice pins s σ H x y v u Q I rx ry h hs;obtain ⟨z,i,c,rfl,rfl,hz,he,q⟩:=h;obtain ⟨t,rfl⟩:=rx;obtain ⟨t',rfl⟩:=ry;obtain ⟨j,h1,h2,h3,h4,h5⟩:=VZ he;have hl:z.cps.toList.length=z.length:=by simp [Str.length]
 rw [hl] at h1 h4 h5
 have hn:=SK
 exact tail_any (typeIs_str s z t) slot_str_getitem.lookup (getItem_str (c:=c) (by
  have e1:decide (i < -(2 ^ 63:Int))=false:=AZ (by omega);have e2:decide (i≥2 ^ 63)=false:=AZ (by omega);rw [e1,e2,Bool.or_false]) (by rw [h1];simpa using h2) ⟨.str ⟨#[c]⟩,H,I.tok _,⟨_,rfl⟩,q⟩) hs
def rIx(K:PySem.W.Frag):R2:=fun x y H Q=>A08 K x y H Q\/A03 K x y H Q\/rIxS x y H Q
theorem wA:IxR X (rIx X.K):=pG.or (y0.or wJ)
theorem WC(lo hi:Option Int)(n:Nat):(sliceBounds lo hi none n).1=((HT.sIx n 0 lo:Nat):Int)/\(sliceBounds lo hi none n).2.1=((HT.sIx n n hi:Nat):Int)/\(sliceBounds lo hi none n).2.2=1:=by
 refine ⟨?_,?_,rfl⟩
 . cases lo with
   | none=>simp [sliceBounds,HT.sIx]
   | some i=>
    simp only [sliceBounds,HT.sIx,AA8,show (1:Int)>0 by decide,G6]
    by_cases h:i<0
    . simp only [h,G6] <;> omega
    . simp only [h,FC] <;> omega
 . cases hi with
   | none=>simp [sliceBounds,HT.sIx]
   | some i=>
    simp only [sliceBounds,HT.sIx,AA8,show (1:Int)>0 by decide,G6]
    by_cases h:i<0
    . simp only [h,G6] <;> omega
    . simp only [h,FC] <;> omega
theorem U5(its:List Value)(lo hi:Option Int):slicePick its.toArray lo hi none=((its.drop (HT.sIx its.length 0 lo)).take (HT.sIx its.length its.length hi - HT.sIx its.length 0 lo)).toArray:=by
 obtain ⟨h1,h2,h3⟩:=WC lo hi its.toArray.size;unfold slicePick;rw [h1,h2,h3];simp only [sliceRange_one,pick_run,List.size_toArray] <;> rfl
def A62(K:PySem.W.Frag):V->Option Int->Option Int->Hp->VK->Prop:=fun x lo hi H Q=>∃a xs,x = .ref a/\SqL K H a xs/\∀p,H p=none->Q (.ref p) (upd H p (.lst (Y1 xs lo hi)))
theorem pH:SlR X (A62 X.K):=by
 intro pins s σ H x v vl vu lo hi sl Q I rx hs pl pu h;obtain ⟨a,xs,rfl,hx,q⟩:=h
 cases rx
 obtain ⟨its,r,ht,hz⟩:=I.list hx;have hlen:=r.length;refine ⟨"list",_,slot_list_getitem.lookup,ht.isList.typeIs,?_⟩;refine wpAny_getItem_list_slice ht.isList hs pl pu .none (by simp) ?_ (by rw [AT] <;> omega);rw [U5, <-hlen];refine ⟨.ref s.heap.objs.size,_,I.laid (t':=s.toks) (o:= .lst (Y1 xs lo hi)) (fun b ob q=>A4 _ q) (AF _) ?_,rfl,q _ (I.hok.fresh (AF _))⟩;exact ⟨BQ (QM xs lo hi) hz,_,0,(r.drop (HT.sIx xs.length 0 lo)).take (HT.sIx xs.length xs.length hi - HT.sIx xs.length 0 lo),AI _ rfl⟩
theorem DR:KN X (.builtin "len") (fun xs H Q=>∃p ys,xs = [.ref p]/\(SqL X.K H p ys\/SqT X.K H p ys)/\Q (.int ys.length) H):=by
 intro pins s σ H xs us Q I r h;obtain ⟨p,ys,rfl,hq,q⟩:=h;obtain ⟨u,rfl,rx⟩:=J7 r
 cases rx
 have hn:=SK;rcases hq with hq | hq
 . obtain ⟨its,r',pl,hz⟩:=I.list hq;have hlen:=r'.length;exact Calls.call_len_list pl.isList (by simp only [AT] <;> omega) ⟨.int ys.length,H,I.tok _,⟨s.toks+1,by rw [AT,hlen]⟩,q⟩
 . obtain ⟨its,r',pl,hz⟩:=I.tuple hq;have hlen:=r'.length;exact len_tuple pl (by simp only [AT] <;> omega) ⟨.int ys.length,H,I.tok _,⟨s.toks+1,by rw [AT,hlen]⟩,q⟩
theorem GW:KN X (.type "tuple") (fun xs H Q=>∃p ys,xs = [.ref p]/\((SqL X.K H p ys/\∀l,H l=none->Q (.ref l) (upd H l (.tup ys)))\/(SqT X.K H p ys/\Q (.ref p) H))):=by
 intro pins s σ H xs us Q I r h;obtain ⟨p,ys,rfl,h⟩:=h;obtain ⟨u,rfl,rx⟩:=J7 r
 cases rx
 rcases h with ⟨hq,q⟩ | ⟨hq,q⟩
 . obtain ⟨its,r',pl,hz⟩:=I.list hq;have hlen:=r'.length;refine call_tuple_list pl.isList (fun h' kp=> ?_) (by simp only [AT] <;> omega);have I1:Inv X pins σ H {s with heap:=h' }:=I.kept (t':=s.toks) kp
   have I2:Inv X pins σ (upd H h'.objs.size (.tup ys)) {s with heap:=h'.push {cls:= .type "tuple",data:= .seq its.toArray} } :=
    I1.laid (t':=s.toks) (fun b o e=>A4 _ e) (AF _) (show ObjOk X.prog X.w _ _ _ (.tup ys) from ⟨hz,its,r',IsTup.new _ _⟩)
   exact ⟨.ref h'.objs.size,_,I2,rfl,q _ (I1.hok.fresh (AF _))⟩
 . obtain ⟨its,r',pl,hz⟩:=I.tuple hq;exact call_tuple_same pl ⟨.ref p,H,I,rfl,q⟩
def tyV(K:PySem.W.Frag)(T:String)(x:V)(H:Hp):Prop:=match x with
 | .str _=>T = "str"
 | .int _=>T = "int"
 | .ref p => (T = "list" /\ ∃ xs, SqL K H p xs) \/ (T = "tuple" /\ ∃ o, K.lookup p = some o /\ o.cls = .type "tuple" /\ o.dict = none) \/
  (T = "dict" /\ ((∃kvs,H p=some (.dK kvs))\/∃kvs,H p=some (.dT kvs)))\/(T = "set" /\ ∃S n,H p=some (.set S n))
 | _=>False
theorem zM {pins : List (Addr × Obj)} {σ : St} {H : Hp} {s : Shared} {T : String} {x : V} {v : Value} (I : Inv X pins σ H s) (r : RelV x v) (ty : tyV X.K T x H) :
 s.TypeIs v T/\∀a,v = .ref a->∃ob,s.heap.get? a=some ob/\ob.dict=none:=by
 cases x with
 | str z=>
  obtain ⟨t,rfl⟩:=r
  cases (show T = "str" from ty)
  exact ⟨typeIs_str s z t,fun _ e=>nomatch e⟩
 | int i=>
  obtain ⟨t,rfl⟩:=r
  cases (show T = "int" from ty)
  exact ⟨e9 s i t,fun _ e=>nomatch e⟩
 | ref p=>
  cases r
  rcases ty with ⟨rfl,xs,hq⟩ | ⟨rfl,o,hk,hc,hd⟩ | ⟨rfl,hk⟩ | ⟨rfl,S,n,hk⟩
  . obtain ⟨its,_,pl,_⟩:=I.list hq;refine ⟨pl.isList.typeIs,fun a e=> ?_⟩
    cases e
    obtain ⟨o,n,e,c,hd,_⟩:=pl;exact ⟨o,e,hd⟩
  . refine ⟨⟨o,I.kIn p o hk,hc⟩,fun a e=> ?_⟩
    cases e
    exact ⟨o,I.kIn _ o hk,hd⟩
  . have z : ∃ o, s.heap.get? p = some o /\ o.ExactDict := by
     rcases hk with ⟨kvs,hk⟩ | ⟨kvs,hk⟩
     . obtain ⟨_,_,_,_,o,_,_,e,ex,_⟩:=I.hok p _ hk;exact ⟨o,e,ex⟩
     . obtain ⟨_,_,_,_,o,_,_,e,ex,_⟩:=I.hok p _ hk;exact ⟨o,e,ex⟩
    obtain ⟨o,e,ex⟩:=z;refine ⟨⟨o,e,ex.1⟩,fun a e2=> ?_⟩
    cases e2
    exact ⟨o,e,ex.2.1⟩
  . obtain ⟨o,_,_,_,e,ex,_⟩:=I.hok p _ hk;refine ⟨⟨o,e,ex.1⟩,fun a e2=> ?_⟩
    cases e2
    exact ⟨o,e,ex.2.1⟩
 | _=>exact False.elim ty
def tBM(K:PySem.W.Frag)(T:String)(r:V->List V->Hp->VK->Prop)(to:TE)(t:TA):TE:=fun σ H Q=>to σ H fun x H1=>tyV K T x H1/\t σ H1 fun xs H2=>r x xs H2 Q
variable {o e:Expr} {es:List Expr} {to:TE} {t:TA} {name:Str} {apos cpos:Pos} {T id:String} {r:V->List V->Hp->VK->Prop}
theorem uS (pa : PlainAttrs T) (slot : Slot T name id) (hty : typeOf (.builtin id) = pure (.type "method_descriptor")) (hm : MtR X id r) (ho : PE X o to) (ha : PA X (e :: es) t)
 (hbase:attributeBase o name X.env (eval o X.env)=eval o X.env:=by rfl)
 (hfew:((backTo cpos (starEach (e::es) X.env)).all (fun x=> !x.1) && (backToKw cpos (keywordEach [] X.env)).all (fun x=>x.1.isSome)
  && decide ((e::es).length+([]:List Keyword).length+(if ([]:List Keyword).isEmpty then 0 else 1)<30))=true:=by rfl)
 (hline:(apos.endLine==cpos.line)=true:=by rfl) (hs:starEach (e::es) X.env=(false,eval e X.env)::starEach es X.env:=by rfl) (hplain:(backTo cpos (starEach es X.env)).any (·.1)=false:=by rfl) :
 PE X (.Call (.Attribute o name apos) (e::es) [] cpos) (tBM X.K T r to t):=by
 intro pins s σ H Q I h;refine wpAny_Call_method_late hbase hfew hline rfl (thn (ho pins s σ H _ I h) fun v s1 ⟨x,H1,I1,r1,ty,q1⟩ => ?_);obtain ⟨h1,h2⟩:=zM I1 r1 ty;refine ⟨T,id,pa,slot,hty,h1,h2,?_⟩;have hA:=ha cpos pins s1 σ H1 _ I1 q1;rw [hs] at hA ⊢
 refine L3 (by show (false || (backTo cpos (starEach es X.env)).any (·.1))=false;rw [hplain] <;> rfl) (AB9 ?_);exact thn hA fun us s2 ⟨vs,H2,I2,r2,q2⟩=>hm pins s2 σ H2 x vs v us Q I2 r1 r2 q2
/- xs.append(e),list.index on a module's tuple .. are MtR facts of 06m -/
end
end L2
namespace L2
open PySem PySem.Spec PyProof.Rows
def MtM(X:Cx)(id:String)(r:V->List V->Hp->VK->Prop):Prop:=
 ∀(pins:List (Addr×Obj)) (s:Shared) (σ:St) (H:Hp) (x:V) (xs:List V) (v:Value) (us:List Value) (Q:VK),Inv X pins σ H s->RelV x v->Vals xs us->r x xs H Q ->
   wpAny (model X.prog X.w) X.A (call (.builtin id) (v::us)) (EP X pins σ Q) X.xe s
theorem Vals.one:∀ {x:V} {us:List Value},Vals [x] us->∃u,us = [u]/\RelV x u
 | _,_, .cons r .nil=>⟨_,rfl,r⟩
theorem Vals.reverse{xs:List V}{us:List Value}(h:Vals xs us):Vals xs.reverse us.reverse:=by
 induction h with
 | nil=>exact .nil
 | cons r t ih=>rw [NH,NH];exact Vals.append ih (.cons r .nil)
theorem Vals.rep{xs:List V}{us:List Value}(h:Vals xs us):∀k:Nat,Vals (List.replicate k xs).flatten (List.replicate k us).flatten
 | 0=> .nil
 | k+1=>by
  rw [BW,BW,EJ,EJ];exact Vals.append h (Vals.rep h k)
theorem VC (its : List Value) : ∀ (k : Nat) (acc : List Value),
 List.foldl (fun x1 x2=>x1++x2) acc.toArray (List.replicate k its.toArray)=(acc++(List.replicate k its).flatten).toArray
 | 0,acc=>by simp
 | k+1,acc=>by
  have e:acc.toArray++its.toArray=(acc++its).toArray:=by simp
  have e2:(acc++its)++(List.replicate k its).flatten=acc++(List.replicate (k+1) its).flatten:=by
   rw [BW,EJ,BU]
  rw [<-e2, <-VC its k (acc++its), <-e,BW,QE]
section
variable {X:Cx} {pins:List (Addr×Obj)} {σ:St} {H:Hp} {s:Shared} {l b:Addr} {xs ys zs:List V}
theorem Inv.lset {its its' : List Value} {n : Nat} {f : Array Value -> Array Value} {t' : Nat} (I : Inv X pins σ H s) (hH : H l = some (.lst xs))
 (e:s.heap.get? l=some {cls:= .type "list",data:= .seq its.toArray n}) (hf:f its.toArray=its'.toArray) (hv:Vals ys its') (hz:ys.length<=sizeLine) :
 Inv X pins σ (upd H l (.lst ys)) {s with heap:=s.heap.update l (Obj.mapSeq f),toks:=t' }:=by
 have q:=PySem.IsL.update e f;rw [hf] at q
 refine I.write (x:=l) (e:=l) (by rw [hH];exact trivial) (.inl rfl) (fun b' u hb hu=>(AA9 s.heap (Obj.mapSeq f) (NG hb)).trans hu) ⟨_,q⟩ ?_;exact ⟨hz,its',_,hv,q⟩
theorem Inv.lnew {its : List Value} {t' : Nat} (I : Inv X pins σ H s) (hv : Vals ys its) (hz : ys.length <= sizeLine) :
 Inv X pins σ (upd H s.heap.objs.size (.lst ys)) {s with heap:=s.heap.push {cls:= .type "list",data:= .seq its.toArray},toks:=t' } :=
 I.laid (fun _ _ q=>A4 _ q) (AF _) ⟨hz,its,0,hv,AI _ rfl⟩
theorem Inv.fresh(I:Inv X pins σ H s):H s.heap.objs.size=none:=I.hok.fresh (AF _)
theorem Inv.lstM(I:Inv X pins σ H s)(hH:H l=some (.lst xs)):xs.length<=sizeLine/\∃(its:List Value) (n:Nat),Vals xs its/\xs.length=its.length/\s.heap.get? l=some {cls:= .type "list",data:= .seq its.toArray n}:=by
 obtain ⟨z,its,n,r,e⟩:=I.hok l _ hH;exact ⟨z,its,n,r,r.length,e⟩
theorem Y9{n:Nat}(h:n<=sizeLine):Builtin.List.listTooLong n=false:=by
 unfold Builtin.List.listTooLong;exact decide_eq_false (by omega)
end
section
variable {X:Cx}
def rAppend:V->List V->Hp->VK->Prop:=fun x vs H Q=>∃l xs y,x = .ref l/\vs = [y]/\H l=some (.lst xs)/\xs.length<sizeLine/\Q .non (upd H l (.lst (xs ++ [y])))
theorem eU:MtM X "list.append" rAppend:=by
 intro pins s σ H x vs v us Q I rx rv h;obtain ⟨l,xs,y,rfl,rfl,hH,hz,q⟩:=h
 cases rx
 obtain ⟨u,rfl,ru⟩:=rv.one;obtain ⟨z,its,n,r,hl,e⟩:=I.lstM hH;refine MM F.slot_list_append ⟨_,e,rfl⟩ F.entry_list_append (AC0 _ _) (A97 l its.toArray n u (by rw [AT];omega)) ⟨e,?_⟩;refine ⟨.non,_,I.lset (its':=its ++ [u]) hH e (by simp) (r.append (.cons ru .nil)) ?_,rfl,q⟩;rw [BC,KD];omega
def rExtend:V->List V->Hp->VK->Prop:=fun x vs H Q=>∃l b xs zs,x = .ref l/\vs = [.ref b]/\H l=some (.lst xs)/\H b=some (.lst zs)/\xs.length+zs.length<=sizeLine/\Q .non (upd H l (.lst (xs++zs)))
theorem h9:MtM X "list.extend" rExtend:=by
 intro pins s σ H x vs v us Q I rx rv h;obtain ⟨l,b,xs,zs,rfl,rfl,hH,hB,hz,q⟩:=h
 cases rx
 obtain ⟨u,rfl,ru⟩:=rv.one
 cases ru
 obtain ⟨z,its,n,r,hl,e⟩:=I.lstM hH;obtain ⟨z2,its2,n2,r2,hl2,e2⟩:=I.lstM hB;have hsz:its.toArray.size+its2.toArray.size<=sizeLine:=by rw [AT,AT];omega
 have hlong:¬(!its.toArray.isEmpty && Builtin.List.listTooLong (its.toArray.size+its2.toArray.size))=true:=by
  rw [Y9 hsz,iB];exact CG
 refine MM F.slot_list_extend ⟨_,e,rfl⟩ F.entry_list_extend (F.args_list_extend_2 _ _)
  (AutoSeq1.list_extend_list_list_0 l its.toArray n b its2.toArray n2 hlong (by rw [AT];omega) (by omega)) ⟨e,e2,?_⟩
 refine ⟨.non,_,I.lset (its':=its++its2) hH e (by simp) (r.append r2) ?_,rfl,q⟩;rw [BC];omega
def rRep:R2:=fun x y H Q=>∃l k xs,x = .ref l/\y = .int k/\H l=some (.lst xs) /\ -(2 ^ 63)<=k/\k<2 ^ 63/\xs.length*k.toNat<=sizeLine /\
 ∀p,H p=none->Q (.ref p) (upd H p (.lst (List.replicate k.toNat xs).flatten))
theorem bA{α:Type}(xs:List α)(k:Nat):(List.replicate k xs).flatten.length=k*xs.length:=by
 induction k with
 | zero=>simp
 | succ k ih=>rw [BW,EJ,BC,ih,PV,WR]
theorem yR:OpR X (binaryOp .Mult) rRep:=by
 intro pins s σ H x y v u Q I rx ry h;obtain ⟨l,k,xs,rfl,rfl,hH,h1,h2,hz,q⟩:=h
 cases rx
 obtain ⟨t,rfl⟩:=ry;obtain ⟨z,its,n,r,hl,e⟩:=I.lstM hH;have hlen:its.toArray.size*k.toNat<=sizeLine:=by rw [AT, <-hl];exact hz
 have hcap:¬its.toArray.size*k.toNat>(2 ^ 63 - 1) / 8:=by
  have:(sizeLine:Nat)<=(2 ^ 63 - 1) / 8:=by decide
  omega
 have hfit:¬(!Builtin.List.listFitsIndex k)=true:=by
  rw [fitsIndex_both h1 h2];exact CG
 have hlong:¬Builtin.List.listTooLong (its.toArray.size*k.toNat)=true:=by
  rw [Y9 hlen];exact CG
 have hnew:List.foldl (fun x1 x2=>x1++x2) #[] (List.replicate (if its.toArray.isEmpty=true then 0 else k.toNat) its.toArray)=(List.replicate k.toNat its).flatten.toArray:=by
  have f0:∀m:Nat,List.foldl (fun x1 x2=>x1++x2) #[] (List.replicate m its.toArray)=(List.replicate m its).flatten.toArray:=fun m=>by
   have:=VC its m [];rw [LK] at this
   exact this
  rw [f0]
  cases its with
  | nil=>simp
  | cons a r'=>rw [AA (by simp)]
 refine A66 (T:= "list") (U:= "int") (by decide) ⟨_,e,rfl⟩ (fun s'=>e9 s' k t) noFill_list_mul F.fills_int_mul U7 repeat_list F.slot_int_index.lookup
  (MM U7 (e9 s k t) F.entry_int_rmul (F.args_int_rmul_2 _ _) (int___rmul___int_list k t l its.toArray n)
   ⟨e,rfl,⟨_,e,rfl⟩,MM F.slot_list_mul ⟨_,e,rfl⟩ F.entry_list_mul (F.args_list_mul_2 _ _) (AutoListH.list___mul___list_int_3 l its.toArray n k t hfit hcap hlong) ⟨e,?_⟩⟩)
 rw [hnew];exact ⟨.ref _,_,I.lnew (t':=s.toks) (r.rep k.toNat) (by rw [bA,MN];exact hz),rfl,q _ I.fresh⟩
end
section
variable {prog:Program} {w:World} {A:Around} {E:Value->Shared->Prop} {s:Shared}
end
section
variable {X:Cx}
end
end L2
namespace Att
open PySem PySem.W PySem.Calls PyProof.Rows
theorem QS{P:Params}{h:Heap}:∀(ns:List Int) (vs:List Value),WellAll P h vs (ns.map WData.int)->IntsAre vs ns:=by
 intro ns
 induction ns with
 | nil=>
  intro vs w;rw [PU] at w
  cases w
  exact .nil
 | cons n ns ih=>
  intro vs w;rw [B0] at w
  cases w with
  | cons a b=>
   cases a
   exact .cons _ _ (ih _ b)
theorem i7 {l : OpenLaw} {n : Nat} (hn : l.most = some n) {P : Params} {h : Heap} {args : List WData} {vals : List Value}
 (hpre:l.row.toRowW.claim.pre args=true) (hwl:WellAll P h vals args) :
 ∃a vs ns,vals = [Value.ref a]/\args = [WData.list (ns.map WData.int)]/\h.get? a=some {cls:= .type "list",data:= .seq vs.toArray}/\IntsAre vs ns/\ns.length<=n:=by
 have hsh:WShape.hasAll [] args [.list .int]=true:=(pre_splitW hpre).1;have hc:l.pre.holds [] {args:=args}=true:=(pre_splitW hpre).2;obtain ⟨d,r,rfl,h1,h2⟩:=hasAllW_cons hsh;obtain rfl:=hasAllW_nil h2;obtain ⟨xs,rfl,h3⟩:=hasW_list h1;obtain ⟨ns,rfl⟩:=items_int h3
 have hlen:ns.length<=n:=by
  unfold OpenLaw.pre at hc
  have h4:(WTm.not (.lt (.lit (.int (n:Int))) (.len (.arg 0)))).holds [] {args:= [.list (ns.map .int)]}=true:=by
   have h4:=(holds_andW hc).1;rw [hn] at h4
   exact h4
  have h5:=condW_of h4 (w_not (w_lt w_lit (w_len_list (w_arg rfl))));rw [AC] at h5
  refine Nat.le_of_not_lt fun q=> ?_;have q':(n:Int)<((ns.length:Nat):Int):=by omega
  first
   | (rw [AR q'] at h5;exact absurd h5 (by decide))
   | (simp at h5;omega)
 cases hwl with
 | cons w1 w2=>
  cases w2
  cases w1 with
  | list ho hall=>exact ⟨_,_,ns,rfl,rfl,ho,QS ns _ hall,hlen⟩
theorem eV(l:OpenLaw)(args:List WData):l.row.toRowW.claim.post args (.bool true) args=true:=
 postW_of (r:=l.row.toRowW) (X:=(true==true))
  (show WShape.has [] (.bool true) .bool=true by first | rfl | decide | simp [WShape.has,WShape.arms,WShape.armsAll])
  (show (WTm.eq .res (.lit (.bool true))).value [] {args:=args,res:=some (.bool true),after:=args}=some (.bool (true==true)) from w_eq_bool (w_res rfl) w_lit) rfl
theorem attach_call {l : OpenLaw} {n : Nat} {q : Program} {loose : List Str} {XP : (Str -> Option Value) -> Heap -> Prop} {YP : World -> Heap -> Prop} {d : DefRec}
 (hn:l.most=some n) (hdf:d.params.defaults = [])
 (call:∀(w:World) (s₀ s₁:Shared) (mg mb:Str->Option Value) (fa:Addr) (o:Obj) (pm cd doc:Value) (a:Addr) (vs:List Value) (ns:List Int),
  Ground q loose [] XP w s₀ mg mb s₁.heap->YP w s₁.heap ->
  s₁.heap.get? fa=some o->o.data = .func (docDef d.name d.params d.body d.scope pm cd doc)->s₁.heap.CodeRec cd d.name->mg d.name=some (.ref fa) ->
  s₁.heap.get? a=some {cls:= .type "list",data:= .seq vs.toArray}->IntsAre vs ns->ns.length<=n->s₁.gens = #[] ->
  codeAny (model l.prog w) callerA (.call (.ref fa) ⟨[.ref a],[]⟩) (fun r s'=>r = .ok (.ret (.bool true))/\OldK s₁.heap s'.heap/\s'.os=s₁.os/\AllBare s'.gens) s₁) :
 WalkO q loose XP YP l.row.toRowW d [] (fun f vs=>PySem.call f vs):=by
 intro w s₀ s₁ mg mb G Y fa o pm cd doc dV kV ho hd hcd hD hmg hg args vals as hpre hlay hrd hwl hlo;obtain rfl:dV = .none:=Dflts.none hD hdf;obtain rfl:kV = .none:=Dflts.noKw hD;obtain ⟨a,vs,ns,rfl,rfl,hobj,hints,hlen⟩:=i7 hn hpre hwl;refine enter_call (i9 (call w s₀ s₁ mg mb fa o pm cd doc a vs ns G Y ho (fd_plain hd) hcd hmg hobj hints hlen hg) fun r s' hq=> ?_);obtain ⟨rfl,h2,h3,h4⟩:=hq;exact ⟨.inl ⟨.bool true, .bool true,[],rfl,fun _=>rfl, .bool true,eV l _,fun _=>⟨HI,fun _ hm=>(nomatch hm)⟩⟩,h2,h3,h4⟩
section
variable {prog:Program} {w:World} {A:Around} {E:Value->Shared->Prop} {s:Shared} {K:Frag}
end
end Att
namespace L2
open PySem PySem.Spec PyProof.Rows
theorem QA:∀ {vs:List Value} {ns:List Int},IntsAre vs ns->Vals (ns.map V.int) vs
 | _,_, .nil=> .nil
 | _,_, .cons n t h=> .cons ⟨t,rfl⟩ (QA h)
end L2
namespace L2
open PySem PySem.Spec PyProof.Rows
def KI(s:Stmt):Arguments:=match s with
 | .FunctionDef _ a _ _ _ _ _ _ _ _=>a
 | _=>{posonlyargs:= [],args:= [],vararg:=none,kwonlyargs:= [],kw_defaults:= [],kwarg:=none,defaults:= []}
def IB(s:Stmt):List Stmt:=match s with
 | .FunctionDef _ _ b _ _ _ _ _ _ _=>b
 | _=> []
def B9(s:Stmt):Scope:=match s with
 | .FunctionDef _ _ _ _ _ _ sc _ _ _=>sc
 | _=>{kind:= .function,names:= [],isGenerator:=false,isCoroutine:=false}
abbrev CX0:CXT:=fun _ _ _ _ _ _=>False
abbrev E0:XK:=fun _ _ _=>False
theorem A29{X:Cx}:ZV CX0 X E0:=fun _ _ _ _ _ _ _ h=>h.elim
structure Fun (K:PySem.W.Frag) (x qual:Str) (st:Stmt) (f:Addr) (fd:FuncData):Prop where
 ex:∃(oc:Value) (od:Option Addr) (kV doc pm:Value) (an:Option Addr) (cdv ct:Value) (osl:Array (Option Value)),
  fd=PySem.W.fnOf x qual (KI st) (IB st) (B9 st) .none kV doc pm an cdv ct/\K.lookup f=some ⟨oc,od, .func fd,osl⟩/\PySem.W.codeIn K cdv qual=true
 kp:PySem.W.keepIn K (.ref f)=true
section
variable {P:Program} {w:World} {K:PySem.W.Frag} {mg:Str->Option Value} {base:Heap}
theorem Fun.ok {x qual : Str} {st : Stmt} {f : Addr} {fd : FuncData} {N ps : List Str} {k : Nat} {sp : Sp} (F : Fun K x qual st f fd) (S : FnScope N ps (B9 st)) (len : ∀ vs H Q E, sp vs H Q E -> vs.length = ps.length)
 (hbody:∀(cdv:Value) (A:Around) (outer:List Env) (s:Shared) (H:Hp) (vs:List V) (Q:VK) (E:XK),Room k (A.deeper (envOfC qual (B9 st) s.heap.objs.size f cdv))->sp vs H Q E ->
  ∃t,PSs (U3 CX0 P w K mg base N qual (B9 st) f cdv A outer s H E).nox (IB st) t/\t {nx:=fun _ H'=>Q .non H',rt:=Q} (start N vs) H):FnOk P w K mg base CX0 (k+1) f fd ps sp:=by
 obtain ⟨oc,od,kV,doc,pm,an,cdv,ct,osl,rfl,lk,hcd⟩:=F.ex;refine tR lk hcd S len fun A outer s H vs Q E hr hsp=> ?_;obtain ⟨t,h,q⟩:=hbody cdv A outer s H vs Q E hr hsp;exact ⟨t,h.nox,q⟩
theorem Fun.binds {x qual : Str} {st : Stmt} {f : Addr} {fd : FuncData} {ps : List Str} (F : Fun K x qual st f fd)
 (h:∀(kV doc pm:Value) (an:Option Addr) (cdv ct:Value) (us:List Value),us.length=ps.length->bindArgs (PySem.W.fnOf x qual (KI st) (IB st) (B9 st) .none kV doc pm an cdv ct) ⟨us,[]⟩=pure (ps.zip us)):Binds K fd ps []:=by
 obtain ⟨oc,od,kV,doc,pm,an,cdv,ct,osl,rfl,lk,hcd⟩:=F.ex;exact .all (h kV doc pm an cdv ct)
theorem DX {x qual : Str} {st : Stmt} {f : Addr} {oc : Value} {od an : Option Addr} {osl : Array (Option Value)} {kV doc pm cdv ct : Value} (l : K.lookup f = some ⟨oc, od, .func (PySem.W.fnOf x qual (KI st) (IB st) (B9 st) .none kV doc pm an cdv ct), osl⟩)
 (c:PySem.W.codeIn K cdv qual=true) (k:PySem.W.keepIn K (.ref f)=true):Fun K x qual st f (PySem.W.fnOf x qual (KI st) (IB st) (B9 st) .none kV doc pm an cdv ct):=⟨⟨oc,od,kV,doc,pm,an,cdv,ct,osl,rfl,l,c⟩,k⟩
end
theorem YW{A:Around}{k:Nat}(hr:Room k A):A.units+1<cLine:=Nat.lt_of_le_of_lt (Nat.add_le_add_left (by decide:1<=64) _) hr.units
section
variable {X:Cx}
end
theorem Z7{A B:Prop}(h:B):if false=true then A else B:=by
 rw [AA CG];exact h
theorem ZA{A B:Prop}(h:A):if true=true then A else B:=by
 rw [AD rfl];exact h
def Same(H H':Hp):Prop:=∀b o,H b=some o->H' b=some o
theorem Same.refl(H:Hp):Same H H:=fun _ _ h=>h
theorem Same.trans{H H1 H2:Hp}(a:Same H H1)(b:Same H1 H2):Same H H2:=fun c o h=>b c o (a c o h)
theorem Same.free{H H':Hp}(e:Same H H'){l:Addr}(h:H' l=Option.none):H l=Option.none:=by
 cases q:H l with
 | none=>rfl
 | some o=>
  rw [e l o q] at h
  cases h
theorem Same.seq{K:PySem.W.Frag}{H H':Hp}{a:Addr}{xs:List V}(e:Same H H')(h:SqL K H a xs):SqL K H' a xs:=by
 rcases h with (h | ⟨o,h⟩) | h
 . exact .inl (.inl (e _ _ h))
 . exact .inl (.inr ⟨o,e _ _ h⟩)
 . exact .inr h
end L2
namespace L2
open PySem PySem.Spec PyProof.Rows
section
variable {κ:Type} [DecidableEq κ]
def OB(kvs:List (κ×V))(k:κ):Option V:=(kvs.find? fun kv=>decide (kv.1=k)).map (·.2)
def QT(kvs:List (κ×V))(k:κ)(v:V):List (κ×V) :=
 if (kvs.any fun kv=>decide (kv.1=k))=true then kvs.map (fun kv=>if kv.1=k then (kv.1,v) else kv) else kvs ++ [(k,v)]
theorem P8{p:κ×V}{r:List (κ×V)}{k:κ}(e:p.1=k):OB (p::r) k=some p.2:=by simp [OB,J9,e]
theorem P9{p:κ×V}{r:List (κ×V)}{k:κ}(e:¬p.1=k):OB (p::r) k=OB r k:=by simp [OB,J9,e]
theorem SF(k:κ):∀kvs:List (κ×V),(kvs.any fun kv=>decide (kv.1=k))=(OB kvs k).isSome
 | []=>rfl
 | p::r=>by
  rw [KY]
  by_cases e:p.1=k
  . simp only [P8 e,AR e,Bool.true_or,A76]
  . rw [P9 e,AZ e,Bool.false_or];exact SF k r
theorem QO(kvs:List (κ×V))(k:κ)(v:V):(QT kvs k v).length<=kvs.length+1:=by
 unfold QT
 split
 . rw [AC];omega
 . rw [BC,B7,List.length_nil];omega
theorem RelO.isSome_eq{o:Option V}{u:Option Value}(r:RelO o u):o.isSome=u.isSome:=by
 cases o with
 | none=>cases u with
  | none=>rfl
  | some _=>exact (show False from r).elim
 | some _=>cases u with
  | none=>exact (show False from r).elim
  | some _=>rfl
theorem RelO.getD{o:Option V}{u:Option Value}{d:V}{d':Value}(r:RelO o u)(rd:RelV d d'):RelV (o.getD d) (u.getD d'):=by
 cases o with
 | none=>cases u with
  | none=>exact rd
  | some _=>exact (show False from r).elim
 | some _=>cases u with
  | none=>exact (show False from r).elim
  | some _=>exact r
theorem KV.val{kvs:List (κ×V)}{vs:List (κ×Value)}(r:KV kvs vs)(k:κ):RelO (OB kvs k) (valueAt vs k):=by
 unfold KV at r
 induction r with
 | nil=>exact CM
 | @cons p q ps qs h t ih=>
  obtain ⟨h1,h2⟩:=h
  by_cases e:p.1=k
  . have e':q.1=k:=h1.symm.trans e;have b:valueAt (q::qs) k=some q.2:=by simp [valueAt,J9,e']
    rw [P8 e,b];exact h2
  . have e':¬q.1=k:=fun z=>e (h1.trans z);have b:valueAt (q::qs) k=valueAt qs k:=by simp [valueAt,J9,e']
    rw [P9 e,b];exact ih
theorem KV.any{kvs:List (κ×V)}{vs:List (κ×Value)}(r:KV kvs vs)(k:κ):(kvs.any fun kv=>decide (kv.1=k))=vs.any fun kv=>decide (kv.1=k):=by
 unfold KV at r
 induction r with
 | nil=>rfl
 | cons h t ih=>rw [KY,KY,ih,h.1]
theorem KV.repl {kvs : List (κ × V)} {vs : List (κ × Value)} (r : KV kvs vs) (k : κ) {y : V} {u : Value} (ry : RelV y u) :
 KV (kvs.map fun kv=>if kv.1=k then (kv.1,y) else kv) (vs.map fun kv=>if kv.1=k then (kv.1,u) else kv):=by
 unfold KV at r ⊢
 induction r with
 | nil=>exact .nil
 | @cons p q ps qs h t ih=>
  rw [B0,B0];refine .cons ?_ ih;obtain ⟨h1,h2⟩:=h
  by_cases e:p.1=k
  . rw [AD e,AD (h1.symm.trans e)];exact ⟨h1,ry⟩
  . rw [AA e,AA (fun z=>e (h1.trans z))];exact ⟨h1,h2⟩
theorem KV.put{kvs:List (κ×V)}{vs:List (κ×Value)}(r:KV kvs vs)(k:κ){y:V}{u:Value}(ry:RelV y u):KV (QT kvs k y) (stored vs k u):=by
 unfold QT stored;rw [r.any k]
 by_cases e:(vs.any fun kv=>decide (kv.1=k))=true
 . rw [AD e,AD e];exact r.repl k ry
 . rw [AA e,AA e];exact Paired.snoc r ⟨rfl,ry⟩
theorem KV.length{kvs:List (κ×V)}{vs:List (κ×Value)}(r:KV kvs vs):kvs.length=vs.length:=IF r
end
theorem YN{P:Program}{w:World}{k:Key}{u:Value}(r:RelV (kV k) u):(EU P w).is k u=true:=by
 cases k with
 | inl i=>obtain ⟨t,e⟩:=(show ∃t,u=Value.int i t from r);subst e;exact YM P w i t
 | inr x=>obtain ⟨t,e⟩:=(show ∃t,u=Value.str x t from r);subst e;exact YB P w x t
theorem UD{P:Program}{w:World}:∀ {ks:List Key} {us:List Value},Vals (ks.map kV) us->ItemsAre (EU P w) ks us
 | [],_,r=>by rw [PU] at r;cases r;exact .nil
 | k::ks,_,r=>by
  rw [B0] at r
  cases r with
  | cons h t=>exact .cons (YN h) (UD t)
abbrev KT (H:Hp):List (List Key×V)->List (List Key×Addr×Value)->Prop:=Paired fun p q=>p.1=q.1/\H q.2.1=some (.tup (p.1.map kV))/\RelV p.2 q.2.2
theorem KT.val{H:Hp}{kvs:List (List Key×V)}{xs:List (List Key×Addr×Value)}(r:KT H kvs xs)(k:List Key):RelO (OB kvs k) ((atKey xs k).map (·.2)):=by
 induction r with
 | nil=>exact CM
 | @cons p q ps qs h t ih=>
  obtain ⟨h1,_,h2⟩:=h
  by_cases e:p.1=k
  . have e':q.1=k:=h1.symm.trans e;have b:atKey (q::qs) k=some q.2:=by simp [atKey,J9,e']
    rw [P8 e,b];exact h2
  . have e':¬q.1=k:=fun z=>e (h1.trans z);have b:atKey (q::qs) k=atKey qs k:=by simp [atKey,J9,e']
    rw [P9 e,b];exact ih
theorem KT.repl {H : Hp} {kvs : List (List Key × V)} {xs : List (List Key × Addr × Value)} (r : KT H kvs xs) (k : List Key) {y : V} {u : Value} (ry : RelV y u) :
 KT H (kvs.map fun kv=>if kv.1=k then (kv.1,y) else kv) (xs.map (putAt k u)):=by
 induction r with
 | nil=>exact .nil
 | @cons p q ps qs h t ih=>
  rw [List.map_cons,List.map_cons];refine .cons ?_ ih;obtain ⟨h1,h2,h3⟩:=h;unfold putAt
  by_cases e:p.1=k
  . rw [AD e,AD (h1.symm.trans e)];exact ⟨h1,h2,ry⟩
  . rw [AA e,AA (fun z=>e (h1.trans z))];exact ⟨h1,h2,h3⟩
theorem KT.put {H : Hp} {kvs : List (List Key × V)} {xs : List (List Key × Addr × Value)} (r : KT H kvs xs) (k : List Key) {b : Addr} {y : V} {u : Value} (hb : H b = some (.tup (k.map kV))) (ry : RelV y u) :
 KT H (QT kvs k y) (storedH xs k b u):=by
 have e:(kvs.any fun kv=>decide (kv.1=k))=(atKey xs k).isSome:=by
  rw [SF,(r.val k).isSome_eq,A98]
 unfold QT storedH;rw [e]
 by_cases q:(atKey xs k).isSome=true
 . rw [AD q,AD q];exact r.repl k ry
 . rw [AA q,AA q];exact Paired.snoc r ⟨rfl,hb,ry⟩
theorem KT.keeps{H H':Hp}{kvs:List (List Key×V)}{xs:List (List Key×Addr×Value)}(r:KT H kvs xs)(ht:∀b ys,H b=some (.tup ys)->H' b=some (.tup ys)):KT H' kvs xs:=
 Paired.mapP r fun _ _ z=>⟨z.1,ht _ _ z.2.1,z.2.2⟩
section
variable {P:Program} {w:World} {H:Hp} {h:Heap} {a:Addr}
theorem tH{u:HO}(ok:HOk P w H h)(e:Rd H a u):ObjOk P w H h a u:=e.ok ok
theorem V1{kvs:List (Key×V)}(ok:HOk P w H h)(e:Rd H a (.dK kvs)):kvs.length<=sizeLine/\(a==sysModules)=false/\∃vs,KV kvs vs/\h.DictOf (EU P w) a vs:=
 show ObjOk P w H h a (.dK kvs) from tH ok e
theorem A02{kvs:List (Key×V)}(ok:HOk P w H h)(e:H a=some (.dK kvs)):kvs.length<=sizeLine/\(a==sysModules)=false/\∃vs,KV kvs vs/\h.DictOf (EU P w) a vs:=V1 ok (.inl e)
theorem TH{ks:List Key}(ok:HOk P w H h)(e:H a=some (.tup (ks.map kV))):(tupleKind (EU P w)).is h ks a:=by
 obtain ⟨_,its,r,o,h1,h2,n,h3⟩:=(show ObjOk P w H h a (.tup (ks.map kV)) from ok a _ e);exact ⟨o,its.toArray,n,h1,h2,h3,by simpa using UD r⟩
theorem PN {kvs : List (List Key × V)} (ok : HOk P w H h) (e : Rd H a (.dT kvs)) : kvs.length <= sizeLine /\ (a == sysModules) = false /\
 ∃xs,KT H kvs xs/\h.DictOfH (tupleKind (EU P w)) a xs:=by
 obtain ⟨z,y,xs,r,o,es,ep,h1,h2,h3,h4,h5⟩:=(show ObjOk P w H h a (.dT kvs) from tH ok e);refine ⟨z,y,xs,r,o,es,ep,h1,h2,h3,h4,fun x hx=> ?_,h5⟩
 have all:∀ {l:List (List Key×V)} {m:List (List Key×Addr×Value)},KT H l m->∀x ∈ m,(tupleKind (EU P w)).is h x.1 x.2.1:=by
  intro l m q
  induction q with
  | nil=>intro x hx;exact nomatch hx
  | @cons p q ps qs hq t ih=>
   intro x hx;rcases AN.mp hx with e | hx
   . subst e;exact TH ok (by rw [<-hq.1];exact hq.2.1)
   . exact ih x hx
 exact all r x hx
theorem A18 {kvs : List (List Key × V)} (ok : HOk P w H h) (e : H a = some (.dT kvs)) : kvs.length <= sizeLine /\ (a == sysModules) = false /\
 ∃xs,KT H kvs xs/\h.DictOfH (tupleKind (EU P w)) a xs:=PN ok (.inl e)
end
def ZC(H:Hp)(a:Addr)(y:V)(r:Option V):Prop:=
 (∃kvs k,Rd H a (.dK kvs)/\y=kV k/\r=OB kvs k)\/∃kvs k b,Rd H a (.dT kvs)/\y = .ref b/\H b=some (.tup (k.map kV))/\r=OB kvs k
def A64(H:Hp)(a:Addr)(y v:V)(H':Hp):Prop:=
 (∃kvs k,H a=some (.dK kvs)/\y=kV k/\kvs.length<sizeLine/\H'=upd H a (.dK (QT kvs k v))) \/
 ∃kvs k b,H a=some (.dT kvs)/\y = .ref b/\H b=some (.tup (k.map kV))/\kvs.length<sizeLine/\H'=upd H a (.dT (QT kvs k v))
section
variable {X:Cx} {pins:List (Addr×Obj)} {σ:St} {H:Hp} {s:Shared} {a:Addr} {y v:V} {u r:Value} {o:Option V} {A:Around} {E:Value->Shared->Prop}
theorem Inv.big(I:Inv X pins σ H s):sysModules<s.heap.objs.size:=by
 have h:mainGlobals<s.heap.objs.size:=(I.mod.glob.keeps I.bk).lt;exact uZ (by decide) h
theorem g8 {Q : Value -> Shared -> Prop} (hu : A.units + 1 < cLine) (I : Inv X pins σ H s) (g : ZC H a y (some v)) (ry : RelV y u) (h : ∀ w' s', Inv X pins σ H s' -> RelV v w' -> Q w' s') :
 wpAny (model X.prog X.w) A (getItem (.ref a) u) Q E s:=by
 rcases g with ⟨kvs,k,e,ey,l⟩ | ⟨kvs,k,b,e,ey,eb,l⟩
 . subst ey;obtain ⟨z,hd,vs,rel,dd⟩:=V1 I.hok e;obtain ⟨w',hw,rw'⟩:=RelO.some_of (v:=v) (o:=valueAt vs k) (by rw [l];exact rel.val k);exact wpAny_getItem_of (YN ry) dd.mapOf hw (h w' _ (I.tok _) rw')
 . subst ey
   cases (show u=Value.ref b from ry)
   obtain ⟨z,hd,xs,rel,dd⟩:=PN I.hok e;obtain ⟨w',hw,rw'⟩:=RelO.some_of (v:=v) (o:=(atKey xs k).map (·.2)) (by rw [l];exact rel.val k);obtain ⟨p,hp,hp2⟩:=AG.mp hw;refine wpAny_getItem_heap (OH hu) (TH I.hok eb) dd hp ?_;rw [hp2];exact h w' _ (I.tok _) rw'
theorem rG {Q : Value -> Shared -> Prop} (hu : A.units + 1 < cLine) (I : Inv X pins σ H s) (g : ZC H a y o) (ry : RelV y u) (h : ∀ s', Inv X pins σ H s' -> Q (.bool (!o.isSome)) s') :
 wpAny (model X.prog X.w) A (compareOp .NotIn u (.ref a)) Q E s:=by
 rcases g with ⟨kvs,k,e,ey,l⟩ | ⟨kvs,k,b,e,ey,eb,l⟩
 . subst ey;obtain ⟨z,hd,vs,rel,dd⟩:=V1 I.hok e;refine wpAny_notIn_of (YN ry) hd dd.mapOf ?_;rw [<-(rel.val k).isSome_eq, <-l];exact h _ (I.tok _)
 . subst ey
   cases (show u=Value.ref b from ry)
   obtain ⟨z,hd,xs,rel,dd⟩:=PN I.hok e;refine wpAny_notIn_heap (OH hu) (TH I.hok eb) hd dd ?_;have q:=(rel.val k).isSome_eq;rw [A98] at q
   rw [<-q, <-l];exact h _ (I.tok _)
theorem VU {h' : Heap} {t' : Nat} {ob : HO} (I : Inv X pins σ H s) (mu : Mut (H a)) (hs : Heap.SameBut a s.heap h') (he : ∃ q, h'.get? a = some q) (new : ObjOk X.prog X.w (upd H a ob) h' a ob) :
 Inv X pins σ (upd H a ob) {s with heap:=h',toks:=t' } :=
 I.write (x:=a) (e:=a) mu (.inl rfl) (fun b q hb z=>(hs.2 b hb).trans z) he new
theorem wH {P : Program} {w : World} {H' : Hp} {h' : Heap} {kvs : List (Key × V)} {vs : List (Key × Value)} (z : kvs.length <= sizeLine) (hd : (a == sysModules) = false) (rel : KV kvs vs) (dd : h'.DictOf (EU P w) a vs) :
 ObjOk P w H' h' a (.dK kvs):=⟨z,hd,vs,rel,dd⟩
theorem fJ {H' : Hp} {Q : Unit -> Shared -> Prop} (hu : A.units + 1 < cLine) (I : Inv X pins σ H s) (g : A64 H a y v H') (ry : RelV y u) (rv : RelV v r) (h : ∀ s', Inv X pins σ H' s' -> Q () s') :
 wpAny (model X.prog X.w) A (setItem (.ref a) u r) Q E s:=by
 rcases g with ⟨kvs,k,e,ey,l,eH⟩ | ⟨kvs,k,b,e,ey,eb,l,eH⟩
 . subst ey eH;obtain ⟨z,hd,vs,rel,dd⟩:=A02 I.hok e;have hz:vs.length<=sizeLine:=by rw [<-rel.length];exact z
   have hl:(QT kvs k v).length<=sizeLine:=by have:=QO kvs k v;omega
   refine wpAny_setItem_pairs (hsz:=hz) (YN ry) dd fun h' dd' hs=>h _ ?_;have he:∃q,h'.get? a=some q:=let ⟨q,_,_,hq,_⟩:=dd';⟨q,hq⟩;exact VU I (by rw [e];exact CM) hs he (wH hl hd (rel.put k rv) dd')
 . subst ey eH
   cases (show u=Value.ref b from ry)
   obtain ⟨z,hd,xs,rel,dd⟩:=A18 I.hok e;have hz:xs.length<=sizeLine:=by rw [<-IF rel];exact z
   have hl:(QT kvs k v).length<=sizeLine:=by have:=QO kvs k v;omega
   refine wpAny_setItem_heap (hsz:=hz) (OH hu) (TH I.hok eb) dd fun h' dd' hs=>h _ ?_;obtain ⟨q,es,ep,hq,h2,h3,h4,_,h5⟩:=dd';refine VU I (by rw [e];exact CM) hs ⟨q,hq⟩ ⟨hl,hd,_,(rel.put k eb rv).keeps fun c ys ec=> ?_,q,es,ep,hq,h2,h3,h4,h5⟩;rw [BE (tZ ec e (fun z=>nomatch z))];exact ec
end
section
variable {X:Cx} {pins:List (Addr×Obj)} {σ:St} {H:Hp} {s:Shared} {a:Addr} {kvs:List (Key×V)} {k:Key} {u:Value} {A:Around} {E:Value->Shared->Prop}
end
def zE(i:Expr):Prop:=∀ov iv,subscripted i false ov iv=operate [ov,iv] (getItem ov iv)
theorem sV {prog : Program} {w : World} {A : Around} {E : Value -> Shared -> Prop} {s : Shared} {env : Env} {value slice : Expr} {pos : Pos} {T id : String} {Q : Value -> Shared -> Prop}
 (hl:typeLookup (.type T) "__getitem__" = pure (some (.builtin id))) (hs:zE slice)
 (h:wpAny (model prog w) A (eval value env) (fun o s₁=>wpAny (model prog w) A (eval slice env) (fun i s₂=>s₂.TypeIs o T/\wpAny (model prog w) A (getItem o i) Q E s₂) E s₁) E s) :
 wpAny (model prog w) A (eval (.Subscript value slice pos) env) Q E s:=by
 refine Subscript_ (wpAny_mono h (fun o s₁ h₁=>wpAny_mono h₁ (fun i s₂ h₂=> ?_) fun _ _ x=>x) fun _ _ x=>x);obtain ⟨hT,h₂⟩:=h₂;unfold subscriptTail;refine wpAny_bind ?_;rw [getitemInPython_of_ne hT.not_modules];refine wpAny_bind (wpAny_specialOf hT hl ?_)
 have fin:wpAny (model prog w) A (subscripted slice false o i) (fun r s₃=>wpAny (model prog w) A (letTemporaryGo value o r >>= fun _=>pure r) Q E s₃) E s₂:=by
  rw [hs o i];exact wpAny_operating (E1 h₂ (fun r s₃ h₃=>A0 (wpAny_letTemporaryGo (A6 h₃))) fun _ _ x=>x)
 first
  | exact A6 (A0 fin)
  | exact A0 (A6 (A0 fin))
  | exact A0 fin
theorem YQ{X:Cx}{pins:List (Addr×Obj)}{σ:St}{H:Hp}{s:Shared}{a:Addr}{y:V}{o:Option V}(I:Inv X pins σ H s)(g:ZC H a y o):s.TypeIs (.ref a) "dict" :=by
 rcases g with ⟨kvs,k,e,_,_⟩ | ⟨kvs,k,b,e,_,_,_⟩
 . obtain ⟨_,_,vs,_,dd⟩:=V1 I.hok e;exact dd.typeIs
 . obtain ⟨_,_,xs,_,dd⟩:=PN I.hok e;exact dd.typeIs
def uD(td ty:TE):TE:=fun σ H Q=>td σ H fun x H1=>ty σ H1 fun y H2=>∃a v,x = .ref a/\ZC H2 a y (some v)/\Q v H2
def bD(ty td:TE):TE:=fun σ H Q=>ty σ H fun y H1=>td σ H1 fun x H2=>∃a o,x = .ref a/\ZC H2 a y o/\Q (.bl (!o.isSome)) H2
def uP(td ty tv:TE):TS:=fun D σ H=>tv σ H fun v H1=>td σ H1 fun x H2=>ty σ H2 fun y H3=>∃a H4,x = .ref a/\A64 H3 a y v H4/\D.nx σ H4
section
variable {X:Cx} {o i e value:Expr} {pos pos' tpos:Pos} {td ty tv:TE}
theorem sT(hu:X.A.units+1<cLine)(ho:PE X o td)(hi:PE X i ty)(hs:zE i):PE X (.Subscript o i pos) (uD td ty):=by
 intro pins s σ H Q I h;refine sV PySem.F.slot_dict_getitem.lookup hs (thn (ho pins s σ H _ I h) fun u s1 ⟨x,H1,I1,rx,q1⟩=>thn (hi pins s1 σ H1 _ I1 q1) fun iv s2 ⟨y,H2,I2,ry,a,v,ex,g,q2⟩ => ?_);subst ex;obtain rfl:u=Value.ref a:=rx;exact ⟨YQ I2 g,g8 hu I2 g ry fun w' s3 I3 rw'=>⟨v,H2,I3,rw',q2⟩⟩
theorem fO(hu:X.A.units+1<cLine)(hi:PE X i ty)(ho:PE X o td):PC X .NotIn i o (bD ty td):=by
 intro pins s σ H Q I h;refine thn (hi pins s σ H _ I h) fun iv s1 ⟨y,H1,I1,ry,q1⟩=>thn (ho pins s1 σ H1 _ I1 q1) fun u s2 ⟨x,H2,I2,rx,a,ov,ex,g,q2⟩ => ?_;subst ex;obtain rfl:u=Value.ref a:=rx;exact rG hu I2 g ry fun s3 I3=>⟨.bl (!ov.isSome),H2,I3,rfl,q2⟩
theorem pR (hu : X.A.units + 1 < cLine) (ho : PE X o td) (hi : PE X i ty) (hv : PE X value tv) (hs : swapsWith value (some (.Subscript o i pos')) pos.line X.env = pure false) :
 PS X (.Assign [.Subscript o i pos'] value pos) (uP td ty tv):=by
 intro pins s σ H D I h;refine wpAny_Assign_Subscript (thn (hv pins s σ H _ I h) fun r s1 ⟨v,H1,I1,rv,q1⟩=>thn (ho pins s1 σ H1 _ I1 q1) fun u s2 ⟨x,H2,I2,rx,q2⟩=>thn (hi pins s2 σ H2 _ I2 q2) fun iv s3 ⟨y,H3,I3,ry,a,H4,ex,g,q3⟩ => ?_) hs;subst ex;obtain rfl:u=Value.ref a:=rx;exact fJ hu I3 g ry rv fun s4 I4=>⟨σ,H4,I4,q3⟩
end
theorem iZ{P:Program}{w:World}{H:Hp}(h:Heap)(hb:sysModules<h.objs.size):ObjOk P w H (h.push {cls:= .type "dict",data:= .dict #[]}) h.objs.size (.dT []) :=
 ⟨CJ _,TQ.mpr (NG (BP hb)),[], .nil,_, #[],0,AI _ rfl,⟨rfl,rfl,rfl⟩,rfl,rfl,iC⟩
def tDNewT:TE:=fun _ H Q=>∀p,H p=none->Q (.ref p) (upd H p (.dT []))
section
variable {X:Cx} {pos:Pos}
theorem m9:PE X (.Dict [] [] pos) tDNewT:=fun pins s σ H Q I h=>
 wpAny_Dict_empty ⟨.ref s.heap.objs.size,_,I.laid (a:=s.heap.objs.size) (o:= .dT []) (t':=s.toks) (fun _ _ q=>A4 _ q) (AF _) (iZ s.heap I.big),rfl,h _ (I.hok.fresh (AF _))⟩
end
structure M1 (X:Cx) (o:Expr) (m:Str) (apos:Pos) (e:Expr) (cpos:Pos):Prop where
 base:attributeBase o m X.env (eval o X.env)=eval o X.env
 few:((backTo cpos (starEach [e] X.env)).all (fun x=> !x.1) && (backToKw cpos (keywordEach [] X.env)).all (fun x=>x.1.isSome)
  && decide (([e]:List Expr).length+([]:List Keyword).length+(if ([]:List Keyword).isEmpty then 0 else 1)<30))=true
 line:(apos.endLine==cpos.line)=true
 trees:backTo cpos (starEach [e] X.env) = [(false,eval e X.env)]
structure M2 (X:Cx) (o:Expr) (m:Str) (apos:Pos) (e f:Expr) (cpos:Pos):Prop where
 base:attributeBase o m X.env (eval o X.env)=eval o X.env
 few:((backTo cpos (starEach [e,f] X.env)).all (fun x=> !x.1) && (backToKw cpos (keywordEach [] X.env)).all (fun x=>x.1.isSome)
  && decide (([e,f]:List Expr).length+([]:List Keyword).length+(if ([]:List Keyword).isEmpty then 0 else 1)<30))=true
 line:(apos.endLine==cpos.line)=true
 trees:backTo cpos (starEach [e,f] X.env) = [(false,eval e X.env),(false,eval f X.env)]
def IsD(H:Hp)(a:Addr):Prop:=(∃kvs,Rd H a (.dK kvs))\/∃kvs,Rd H a (.dT kvs)
theorem y4 {X : Cx} {pins : List (Addr × Obj)} {σ : St} {H : Hp} {s : Shared} {a : Addr} (I : Inv X pins σ H s) (d : IsD H a) :
 s.TypeIs (.ref a) "dict" /\ (∀b,Value.ref a = .ref b->∃ob,s.heap.get? b=some ob/\ob.dict=none)/\(a==sysModules)=false:=by
 rcases d with ⟨kvs,e⟩ | ⟨kvs,e⟩
 . obtain ⟨_,hd,vs,_,dd⟩:=V1 I.hok e;refine ⟨dd.typeIs,fun b q=> ?_,hd⟩
   cases q
   obtain ⟨ob,_,_,h1,h2,_⟩:=dd;exact ⟨ob,h1,h2.2.1⟩
 . obtain ⟨_,hd,xs,_,dd⟩:=PN I.hok e;refine ⟨dd.typeIs,fun b q=> ?_,hd⟩
   cases q
   obtain ⟨ob,_,_,h1,h2,_⟩:=dd;exact ⟨ob,h1,h2.2.1⟩
section
variable {X:Cx} {pins:List (Addr×Obj)} {σ:St} {H:Hp} {s:Shared} {a:Addr} {y d:V} {u r:Value} {o:Option V} {A:Around} {E:Value->Shared->Prop}
theorem yY {Q : Value -> Shared -> Prop} (hu : A.units + 1 < cLine) (I : Inv X pins σ H s) (g : ZC H a y o) (ry : RelV y u) (rd : RelV d r) (h : ∀ w' s', Inv X pins σ H s' -> RelV (o.getD d) w' -> Q w' s') :
 wpAny (model X.prog X.w) A (call (.builtin "dict.get") [.ref a,u,r]) Q E s:=by
 rcases g with ⟨kvs,k,e,ey,l⟩ | ⟨kvs,k,b,e,ey,eb,l⟩
 . subst ey;obtain ⟨z,hd,vs,rel,dd⟩:=V1 I.hok e;refine TR QP dd.typeIs v4 (sW _ _ _) (meets_dict_get_default (EU X.prog X.w) a (YN ry) hd r) ⟨_,dd.mapOf,h _ _ (I.tok _) ?_⟩;rw [l];exact (rel.val k).getD rd
 . subst ey
   cases (show u=Value.ref b from ry)
   obtain ⟨z,hd,xs,rel,dd⟩:=PN I.hok e;refine TR QP dd.typeIs v4 (sW _ _ _) (meetsH_dict_get_default (tupleKind (EU X.prog X.w)) a b hd r) ⟨OH hu,k,xs,TH I.hok eb,dd,h _ _ (I.tok _) ?_⟩;rw [l];exact (rel.val k).getD rd
end
def kW(td ty tx:TE):TE:=fun σ H Q=>td σ H fun x H1=>∃a,x = .ref a/\IsD H1 a/\ty σ H1 fun y H2=>tx σ H2 fun z H3=>∃o,ZC H3 a y o/\Q (o.getD z) H3
section
variable {X:Cx} {o e f:Expr} {apos cpos:Pos} {td ty tx:TE}
theorem mS (hu:X.A.units+1<cLine) (ho:PE X o td) (he:PE X e ty) (hf:PE X f tx) (m:M2 X o "get" apos e f cpos):PE X (.Call (.Attribute o "get" apos) [e,f] [] cpos) (kW td ty tx):=by
 intro pins s σ H Q I h;refine wpAny_Call_method m.base m.few m.line OI QP PySem.F.type_dict_get (thn (ho pins s σ H _ I h) fun u s1 ⟨x,H1,I1,rx,a,ex,d,q1⟩ => ?_);subst ex;obtain rfl:u=Value.ref a:=rx;obtain ⟨t1,t2,_⟩:=y4 I1 d;refine ⟨t1,t2,?_⟩;rw [m.trees]
 refine L3 rfl (AB9 (G5 (thn (he pins s1 σ H1 _ I1 q1) fun iv s2 ⟨y,H2,I2,ry,q2⟩ =>
  G5 (thn (hf pins s2 σ H2 _ I2 q2) fun fv s3 ⟨z,H3,I3,rz,ov,g,q3⟩=>IJ ?_))))
 exact yY hu I3 g ry rz fun w' s4 I4 rw'=>⟨_,H3,I4,rw',q3⟩
end
section
variable {X:Cx} {pins:List (Addr×Obj)} {σ:St} {H:Hp} {s:Shared} {a:Addr} {kvs:List (Key×V)} {A:Around} {E:Value->Shared->Prop}
end
section
variable {X:Cx} {pins:List (Addr×Obj)} {σ:St} {H:Hp} {s:Shared} {a:Addr} {y:V} {u:Value} {A:Around} {E:Value->Shared->Prop}
end
section
variable {κ:Type} [DecidableEq κ]
end
end L2
namespace Tf
open PySem PySem.Spec PyProof.Rows L2
theorem U0:bootBuiltins "isinstance" = some (.builtin "isinstance"):=by decide +kernel
theorem HD:bootBuiltins "len" = some (.builtin "len"):=by decide +kernel
theorem kZ:bootBuiltins "sum" = some (.builtin "sum"):=by decide +kernel
theorem j7:bootBuiltins "max" = some (.builtin "max"):=by decide +kernel
theorem W1:bootBuiltins "min" = some (.builtin "min"):=by decide +kernel
theorem UX:bootBuiltins "sorted" = some (.builtin "sorted"):=by decide +kernel
theorem VQ:bootBuiltins "all" = some (.builtin "all"):=by decide +kernel
theorem mU:bootBuiltins "int" = some (.type "int"):=by decide +kernel
theorem oM:bootBuiltins "bool" = some (.type "bool"):=by decide +kernel
theorem cG:bootBuiltins "list" = some (.type "list"):=by decide +kernel
theorem J8:bootBuiltins "tuple" = some (.type "tuple"):=by decide +kernel
theorem n0:bootBuiltins "range" = some (.type "range"):=by decide +kernel
theorem yJ:bootBuiltins "zip" = some (.type "zip"):=by decide +kernel
theorem QH:bootBuiltins "reversed" = some (.type "reversed"):=by decide +kernel
def Bt(n:Nat)(i:Int):Prop:=i.natAbs<2 ^ n
theorem Bt.bits{n:Nat}{i:Int}(h:Bt n i):Builtin.Int.intBits i<=n:=by
 unfold Builtin.Int.intBits
 split
 . exact CJ _
 . rename_i hz
   have h0:i.natAbs≠0:=by
    intro e;apply hz;have:i=0:=by omega
    subst this;rfl
   exact (Nat.log2_lt h0).mpr h
theorem Bt.log{n:Nat}{i:Int}(h:Bt n i)(hn:0<n):i.natAbs.log2<n:=by
 by_cases h0:i.natAbs=0
 . rw [h0];simpa using hn
 . exact (Nat.log2_lt h0).mpr h
theorem A46{n m:Nat}{i j:Int}(h:Bt n i)(k:Bt m j)(hn:n+m<=134217728):IntMulOk i j:=by
 unfold IntMulOk;have hb1:=h.bits;have hb2:=k.bits
 have:Builtin.Int.intTooBig (Builtin.Int.intBits i+Builtin.Int.intBits j)=false:=by
  unfold Builtin.Int.intTooBig;apply decide_eq_false;unfold bitsLine;have:(2:Nat) ^ 27=134217728:=by decide
  rw [this];omega
 rw [this];simp
def A27(i j:Int):Prop:=∃n m,Bt n i/\Bt m j/\n+m<=134217728
def kS(_i j:Int):Prop:=j≠0/\Bt 9000 j
section
variable {X:Cx}
theorem kC:OpR X (binaryOp .FloorDiv) (rI kS fun i j=> .int (i.fdiv j)):=opI fun _ _ _ _ _ _ _ hc q=>floordiv_int hc.1 q (.inl (PyProof.noPylong_of_log2 (hc.2.log (by decide))))
theorem A54 {x:Str} {T:String} {pos:Pos} (hg:Gl X x) (hm:X.mg x=none) (hv:bootBuiltins x=some (.type T)) (hn:x ≠ "__name__" :=by decide) (hd:(x==("__debug__" : Str))=false:=by decide):PE X (.Name x pos) (tC (.ty T)) :=
 qL hg hm hv rfl hn hd
inductive TyV (K:PySem.W.Frag) (H:Hp):V->String->Prop where
 | non:TyV K H .non "NoneType"
 | bl (x:Bool):TyV K H (.bl x) "bool"
 | int (i:Int):TyV K H (.int i) "int"
 | str (x:Str):TyV K H (.str x) "str"
 | lst {a:Addr} {xs:List V} (e:SqL K H a xs):TyV K H (.ref a) "list"
 | tup {a:Addr} {xs:List V} (e:SqT K H a xs):TyV K H (.ref a) "tuple"
theorem gC {pins : List (Addr × Obj)} {σ : L2.St} {H : Hp} {s : Shared} {A : Around} {E : Value -> Shared -> Prop} {Q : Value -> Shared -> Prop} {c : Value} {b : Bool} {x : V} {u : Value} {t : String} (I : Inv X pins σ H s) (rx : RelV x u) (ty : TyV X.K H x t) (e : PySem.W.kitOne X.K (.type t) c = some b) (h : ∀ tk, Q (.bool b) { s with toks := tk }) :
 wpAny (model X.prog X.w) A (call (.builtin "isinstance") [u,c]) Q E s:=by
 cases ty with
 | non=>cases (show u=Value.none from rx);exact JA PySem.W.kitx_none I.kIn CM e (fun z=>nomatch z) h
 | bl y=>cases (show u=Value.bool y from rx);exact JA PySem.W.kitx_bool I.kIn CM e (fun z=>nomatch z) h
 | int i=>obtain ⟨t,q⟩:=(show ∃t,u=Value.int i t from rx);cases q;exact JA PySem.W.kitx_int I.kIn CM e (fun z=>nomatch z) h
 | str y=>obtain ⟨t,q⟩:=(show ∃t,u=Value.str y t from rx);cases q;exact JA PySem.W.kitx_str I.kIn CM e (fun z=>nomatch z) h
 | @lst a xs ea=>
  cases (show u=Value.ref a from rx)
  obtain ⟨its,_,⟨o,n,h1,h2,_⟩,_⟩:=I.list ea
  exact JA PySem.W.kitx_list I.kIn ⟨o,h1,h2⟩ e (fun z=>nomatch z) h
 | @tup a xs ea=>
  cases (show u=Value.ref a from rx)
  obtain ⟨its,_,⟨o,h1,h2,_⟩,_⟩:=I.tuple ea;exact JA PySem.W.kitx_tuple I.kIn ⟨o,h1,h2⟩ e (fun z=>nomatch z) h
def A17(K:PySem.W.Frag):List V->Hp->VK->Prop:=fun xs H Q=>∃x n t b,xs = [x, .ty n]/\TyV K H x t/\PySem.W.kitOne K (.type t) (.type n)=some b/\Q (.bl b) H
theorem mX:KN X (.builtin "isinstance") (A17 X.K):=by
 intro pins s σ H xs us Q I r h;obtain ⟨x,n,t,b,rfl,ty,e,q⟩:=h;obtain ⟨u,w',rfl,rx,rn⟩:=kJ r
 cases (show w'=Value.type n from rn)
 exact gC I rx ty e fun tk=>⟨.bl b,H,I.tok _,rfl,q⟩
def keyD:Key->PyData
 | .inl i=> .int i
 | .inr x=> .str x
def tupD(k:List Key):PyData:= .tuple (k.map keyD)
def mkD:PyData×PyData:=(.none, .none)
mutual
inductive Rep (K:PySem.W.Frag) (H:Hp):V->PyData->Prop
 | none:Rep K H .non .none
 | bool (b:Bool):Rep K H (.bl b) (.bool b)
 | int (i:Int):Rep K H (.int i) (.int i)
 | str (x:Str):Rep K H (.str x) (.str x)
 | list {a:Addr} {xs:List V} {ds:List PyData}:SqL K H a xs->Reps K H xs ds->Rep K H (.ref a) (.list ds)
 | tuple {a:Addr} {xs:List V} {ds:List PyData}:H a=some (.tup xs)->Reps K H xs ds->Rep K H (.ref a) (.tuple ds)
 | dict {a:Addr} {ks:List (List Key)} {xs:List V} {ds:List PyData}:Rd H a (.dT (ks.zip xs))->ks.length=xs.length->Reps K H xs ds->Rep K H (.ref a) (.dict ((ks.map tupD).zip ds))
 | dictF {a:Addr} {o:Obj} {ks:List (List Key)} {xs:List V} {ds:List PyData}:H a=some (.frz o (.dT (ks.zip xs)))->ks.length=xs.length->Reps K H xs ds->Rep K H (.ref a) (.dict (mkD::(ks.map tupD).zip ds))
inductive Reps (K:PySem.W.Frag) (H:Hp):List V->List PyData->Prop
 | nil:Reps K H [] []
 | cons {v:V} {vs:List V} {d:PyData} {ds:List PyData}:Rep K H v d->Reps K H vs ds->Reps K H (v::vs) (d::ds)
end
theorem Reps.length{K:PySem.W.Frag}{H:Hp}:∀ {vs:List V} {ds:List PyData},Reps K H vs ds->vs.length=ds.length
 | _,_, .nil=>rfl
 | _,_, .cons _ t=>by rw [B7,B7,Reps.length t]
mutual
theorem Rep.reads{pins:List (Addr×Obj)}{σ:L2.St}{H:Hp}{s:Shared}(I:Inv X pins σ H s):∀ {v:V} {d:PyData} {u:Value},Rep X.K H v d->RelV v u->d.canLay0=true->∃as,Reads s.heap u d as
 | _,_,_, .none,r,_=>by cases (show _=Value.none from r);exact ⟨_, .none⟩
 | _,_,_, .bool b,r,_=>by cases (show _=Value.bool b from r);exact ⟨_, .bool b⟩
 | _,_,_, .int i,r,_=>by obtain ⟨t,q⟩:=(show ∃t,_=Value.int i t from r);cases q;exact ⟨_, .int i t⟩
 | _,_,_, .str x,r,_=>by obtain ⟨t,q⟩:=(show ∃t,_=Value.str x t from r);cases q;exact ⟨_, .str x t⟩
 | _,_,_, .list (a:=a) h hs,r,c=>by
  cases (show _=Value.ref a from r)
  obtain ⟨its,rv,⟨o,n,h1,h2,_,h3⟩,_⟩:=I.list h;obtain ⟨as,ra⟩:=Reps.reads I hs rv (by simpa [PyData.canLay0] using c)
  exact ⟨_, .list h1 h2 h3 (by simpa using ra)⟩
 | _,_,_, .tuple (a:=a) h hs,r,c=>by
  cases (show _=Value.ref a from r)
  obtain ⟨its,rv,⟨o,h1,h2,n,h3⟩,_⟩:=I.tuple (SqT.of h);obtain ⟨as,ra⟩:=Reps.reads I hs rv (by simpa [PyData.canLay0] using c)
  exact ⟨_, .tuple h1 h2 h3 (by simpa using ra)⟩
 | _,_,_, .dict _ _ _,_,c=>by simp [PyData.canLay0] at c
 | _,_,_, .dictF _ _ _,_,c=>by simp [PyData.canLay0] at c
theorem Reps.reads{pins:List (Addr×Obj)}{σ:L2.St}{H:Hp}{s:Shared}(I:Inv X pins σ H s):∀ {vs:List V} {ds:List PyData} {us:List Value},Reps X.K H vs ds->Vals vs us->PyData.canLayAll0 ds=true->∃as,ReadsAll s.heap us ds as
 | _,_,_, .nil,r,_=>by cases r;exact ⟨_, .nil⟩
 | _,_,_, .cons h hs,r,c=>by
  have c:=zV.mp (show (_ && _)=true by rw [<-PyData.canLayAll0];exact c)
  cases r with
  | cons r1 r2=>
   obtain ⟨as,q⟩:=Rep.reads I h r1 c.1;obtain ⟨bs,q2⟩:=Reps.reads I hs r2 c.2;exact ⟨_, .cons q q2⟩
end
theorem L8:∀ {ds:List PyData},(∀d ∈ ds,d.canLay0=true)->PyData.canLayAll0 ds=true
 | [],_=>by simp [PyData.canLayAll0]
 | d::ds,h=>by
  simp only [PyData.canLayAll0,GE];exact ⟨h d AQ,L8 fun e he=>h e (AK _ he)⟩
def A35(K:PySem.W.Frag):R2:=fun x y H Q=>∃dx dy,Rep K H x dx/\Rep K H y dy/\dx.canLay0=true/\dy.canLay0=true/\min dx.depth dy.depth<=60/\Q (.bl (PyData.eqv dx dy)) H
def A39(K:PySem.W.Frag):R2:=fun x y H Q=>∃dx dy,Rep K H x dx/\Rep K H y dy/\dx.canLay0=true/\dy.canLay0=true/\min dx.depth dy.depth<=60/\Q (.bl (!PyData.eqv dx dy)) H
theorem iK(hu:X.A.units+64<cLine):OpR X (compareOp .Eq) (A35 X.K):=by
 intro pins s σ H x y v u Q I rx ry h;obtain ⟨dx,dy,h1,h2,c1,c2,hd,q⟩:=h;obtain ⟨as,r1⟩:=h1.reads I rx c1;obtain ⟨bs,r2⟩:=h2.reads I ry c2;exact SeqAt.compareEq_reads r1 r2 c1 c2 (by omega) ⟨.bl _,H,I,rfl,q⟩
theorem kQ(hu:X.A.units+64<cLine):OpR X (compareOp .NotEq) (A39 X.K):=by
 intro pins s σ H x y v u Q I rx ry h;obtain ⟨dx,dy,h1,h2,c1,c2,hd,q⟩:=h;obtain ⟨as,r1⟩:=h1.reads I rx c1;obtain ⟨bs,r2⟩:=h2.reads I ry c2;exact SeqAt.compareNe_reads r1 r2 c1 c2 (by omega) ⟨.bl _,H,I,rfl,q⟩
end
theorem _root_.L2.Same.upd{H:Hp}{p:Addr}(h:H p=none)(o:HO):Same H (L2.upd H p o):=fun b u q=>by rw [BE (BI q h)];exact q
theorem _root_.L2.Same.seqT{K:PySem.W.Frag}{H H':Hp}{a:Addr}{xs:List V}(e:Same H H')(h:SqT K H a xs):SqT K H' a xs:=by
 rcases h with (h | ⟨o,h⟩) | h
 . exact .inl (.inl (e _ _ h))
 . exact .inl (.inr ⟨o,e _ _ h⟩)
 . exact .inr h
theorem Rd.same{H H':Hp}{a:Addr}{u:HO}(e:Same H H')(h:Rd H a u):Rd H' a u:=by
 rcases h with h | ⟨o,h⟩
 . exact .inl (e _ _ h)
 . exact .inr ⟨o,e _ _ h⟩
mutual
theorem Rep.same{K:PySem.W.Frag}{H H':Hp}(e:Same H H'):∀ {v:V} {d:PyData},Rep K H v d->Rep K H' v d
 | _,_, .none=> .none
 | _,_, .bool b=> .bool b
 | _,_, .int i=> .int i
 | _,_, .str x=> .str x
 | _,_, .list h hs=> .list (e.seq h) (Reps.same e hs)
 | _,_, .tuple h hs=> .tuple (e _ _ h) (Reps.same e hs)
 | _,_, .dict h hl hs=> .dict (Rd.same e h) hl (Reps.same e hs)
 | _,_, .dictF h hl hs=> .dictF (e _ _ h) hl (Reps.same e hs)
theorem Reps.same{K:PySem.W.Frag}{H H':Hp}(e:Same H H'):∀ {vs:List V} {ds:List PyData},Reps K H vs ds->Reps K H' vs ds
 | _,_, .nil=> .nil
 | _,_, .cons h hs=> .cons (Rep.same e h) (Reps.same e hs)
end
section
variable {CX:CXT} {P:Program} {w:World} {K:PySem.W.Frag} {mg:Str->Option Value} {base:Heap} {N:List Str} {qual:Str} {scope:Scope} {f:Addr} {cd:Value} {A:Around} {outer:List Env} {s:Shared} {H:Hp} {E:XK}
end
structure Def (P:Program) (w:World) (K:PySem.W.Frag) (mg:Str->Option Value) (base:Heap) (k:Nat) (x:Str) (ps:List Str) (sp:Sp):Prop where
 ex:∃f fd,FnOk P w K mg base CX0 k f fd ps sp/\mg x=some (.ref f)/\PySem.W.keepIn K (.ref f)=true/\Binds K fd ps []
section
variable {X:Cx} {k j:Nat} {x:Str} {ps:List Str} {sp:Sp} {p pos:Pos} {e:Expr} {es:List Expr} {t:TA}
theorem mI (D : Def X.prog X.w X.K X.mg X.base j x ps sp) (hr : Room k X.A) (ha : PA X (e :: es) t) (hj : j <= k := by decide) (hg : Gl X x := by rfl)
 (hdb:(x==("__debug__" : Str))=false:=by decide) (he:starEach (e::es) X.env=(false,eval e X.env)::starEach es X.env:=by rfl) (hpl:(backTo pos (starEach es X.env)).any (·.1)=false:=by rfl) :
 PE X (.Call (.Name x p) (e::es) [] pos) (lX sp [] E0 t):=by
 obtain ⟨f,fd,F,hm,hk,hb⟩:=D.ex;exact oT F (hr.mono hj) hg hm hk hb .nil A29 ha hdb he hpl
end
end Tf
namespace Tf
open PySem L2
def dN(K:PySem.W.Frag):Sp:=fun vs H Q _=>∃(a:Addr) (ns:List Int),vs = [.ref a]/\SqL K H a (ns.map V.int)/\ns.length<=63/\∀H',Q (.bl true) H'
end Tf
namespace Tf
open PySem PySem.Spec PyProof.Rows L2
def HY(cells:List (Str×Addr)):List (Str×NameKind)->List (Str×Addr)->List (Str×Addr)
 | [],acc=>acc
 | (n,k)::r,acc=>if k == .free then HY cells r ((n,(cells.lookup n).getD 0)::acc) else HY cells r acc
theorem QN {env : Env} : ∀ (names : List (Str × NameKind)) (acc : List (Str × Addr)), (∀ y ∈ names, y.2 = .free -> ∃ c, env.cells.lookup y.1 = some c) ->
 (forIn names acc fun (x:Str×NameKind) (r:List (Str×Addr))=>(match x with | (name,kind)=>if (kind==NameKind.free)=true then do let a <-cellOf env name;pure (ForInStep.yield ((name,a)::r)) else pure (ForInStep.yield r):Sem (ForInStep (List (Str×Addr)))))=pure (HY env.cells names acc)
 | [],acc,_=>by rw [R6];rfl
 | (n,k)::r,acc,h=>by
  have ih:=fun acc=>QN r acc fun y hy=>h y (List.mem_cons_of_mem _ hy);rw [List.forIn_cons];unfold HY
  by_cases hk:(k==NameKind.free)=true
  . obtain ⟨c,hc⟩:=h (n,k) List.mem_cons_self (by simpa using hk);have e:cellOf env n=pure c:=by unfold cellOf;rw [hc]
    simp only [hk,G6,e];rw [hc];exact ih ((n,c)::acc)
  . simp only [hk,FC];exact ih acc
theorem NS{scope:Scope}{env:Env}(h:∀y ∈ scope.names,y.2 = .free->∃c,env.cells.lookup y.1=some c):closureFor scope env=pure (HY env.cells scope.names []):=by
 unfold closureFor;have:=QN (env:=env) scope.names [] h;simp only [bind_pure];exact this
theorem SI{cells:List (Str×Addr)}:∀ {names:List (Str×NameKind)} {acc:List (Str×Addr)} {x:Str} {c:Addr},(HY cells names acc).lookup x=some c->acc.lookup x=some c\/((x,NameKind.free) ∈ names/\c=(cells.lookup x).getD 0)
 | [],_,_,_,h=> .inl h
 | (n,k)::r,acc,x,c,h=>by
  unfold HY at h
  split at h
  . rename_i hk;rcases SI h with q | ⟨q,e⟩
    . rw [D2] at q
      cases hx:x==n with
      | true=>
       rw [hx] at q
       have e:=KQ.mp hx;subst e;have hk':k = .free:=by simpa using hk
       subst hk'
       exact .inr ⟨AQ,(BG q).symm⟩
      | false=>rw [hx] at q;exact .inl q
    . exact .inr ⟨AK _ q,e⟩
  . rcases SI h with q | ⟨q,e⟩
    . exact .inl q
    . exact .inr ⟨AK _ q,e⟩
theorem Q0{cells:List (Str×Addr)}:∀ {names:List (Str×NameKind)} {acc:List (Str×Addr)} {x:Str},acc.lookup x=some ((cells.lookup x).getD 0)->(HY cells names acc).lookup x=some ((cells.lookup x).getD 0)
 | [],_,_,h=>h
 | (n,k)::r,acc,x,h=>by
  unfold HY
  split
  . refine Q0 ?_;rw [D2]
    cases hx:x==n with
    | true=>have e:=KQ.mp hx;subst e;rfl
    | false=>exact h
  . exact Q0 h
theorem LW{cells:List (Str×Addr)}:∀ {names:List (Str×NameKind)} {acc:List (Str×Addr)} {x:Str},(x,NameKind.free) ∈ names->(HY cells names acc).lookup x=some ((cells.lookup x).getD 0)
 | (n,k)::r,acc,x,h=>by
  unfold HY;rcases List.mem_cons.mp h with e | h
  . cases e
    simp only [OJ,G6];exact Q0 (by rw [D2,OJ])
  . split
    . exact LW h
    . exact LW h
theorem MY:∀(names:List (Str×NameKind)) (n:Nat) (acc:List (Str×Addr)),cellsFrom n names acc=cellsFrom n names []++acc
 | [],_,_=>rfl
 | (x,k)::r,n,acc=>by
  unfold cellsFrom
  split
  . rw [MY r (n+1) ((x,n)::acc),MY r (n+1) [(x,n)],BU];rfl
  . exact MY r n acc
theorem JW{α:Type}(x:Str):∀(a b:List (Str×α)),(a++b).lookup x=(match a.lookup x with | some c=>some c | none=>b.lookup x)
 | [],b=>rfl
 | (k,v)::r,b=>by
  rw [OK,D2,D2]
  cases hx:x==k with
  | true=>rfl
  | false=>exact JW x r b
theorem ZX:∀ {names:List (Str×NameKind)} {n:Nat} {acc:List (Str×Addr)} {x:Str},(x,NameKind.cell) ∈ names->∃c,(cellsFrom n names acc).lookup x=some c
 | (y,k)::r,n,acc,x,h=>by
  unfold cellsFrom;rcases List.mem_cons.mp h with e | h
  . obtain ⟨rfl,rfl⟩:=Prod.mk.inj e;simp only [OJ,G6];rw [MY,JW]
    cases q:(cellsFrom (n+1) r []).lookup x with
    | some c=>exact ⟨c,rfl⟩
    | none=>exact ⟨n,by simp [D2]⟩
  . split
    . exact ZX h
    . exact ZX h
theorem aB:∀ {names:List (Str×NameKind)} {n:Nat} {x:Str} {c:Addr},(x,c) ∈ cellsFrom n names []->(x,NameKind.cell) ∈ names
 | (y,k)::r,n,x,c,h=>by
  unfold cellsFrom at h
  split at h
  . rename_i hk;rw [MY] at h
    rcases AV.mp h with q | q
    . exact AK _ (aB q)
    . have hk':k = .cell:=by simpa using hk
      subst hk';have e:(x,c)=(y,n):=by simpa using q
      cases e
      exact AQ
  . exact AK _ (aB h)
def PM(sc osc:Scope):Scope:=
 {sc with names:=sc.names.map fun (n,k)=>if (k == .free && osc.kind == .function && osc.names.lookup n==some .cell) then (n, .cell) else (n,k)}
theorem S2(sc:Scope)(env:Env):relabel sc env=PM sc env.scope:=rfl
theorem HA {osc : Scope} : ∀ {names : List (Str × NameKind)} {x : Str} {k : NameKind}, (names.map fun (p : Str × NameKind) => (match p with | (n, k) => if (k == NameKind.free && osc.kind == .function && osc.names.lookup n == some NameKind.cell) = true then (n, NameKind.cell) else (n, k))).lookup x = some k ->
 ∃k',names.lookup x=some k'/\(k'=k\/(k' = .free/\k = .cell))
 | [],_,_,h=>by simp at h
 | (n,k0)::r,x,k,h=>by
  rw [B0] at h
  by_cases hc:(k0==NameKind.free && osc.kind == .function && osc.names.lookup n==some NameKind.cell)=true
  . simp only [hc,G6] at h
    rw [D2] at h
    cases hx:x==n with
    | true=>
     rw [hx] at h
     simp only [NI] at h
     subst h;refine ⟨k0,by rw [D2,hx], .inr ⟨?_,rfl⟩⟩;simp only [GE,KQ] at hc
     exact hc.1.1
    | false=>
     rw [hx] at h
     obtain ⟨k',e,d⟩:=HA h;exact ⟨k',by rw [D2,hx];exact e,d⟩
  . simp only [AA hc] at h
    rw [D2] at h
    cases hx:x==n with
    | true=>
     rw [hx] at h
     simp only [NI] at h
     subst h
     exact ⟨k0,by rw [D2,hx], .inl rfl⟩
    | false=>
     rw [hx] at h
     obtain ⟨k',e,d⟩:=HA h;exact ⟨k',by rw [D2,hx];exact e,d⟩
theorem KS{α:Type}:∀ {l:List (Str×α)} {x:Str} {k:α},(l.map (·.1)).Nodup->(x,k) ∈ l->l.lookup x=some k
 | (y,j)::r,x,k,nd,h=>by
  rw [B0,G1] at nd
  rw [D2];rcases AN.mp h with e | h'
  . cases e;rw [OJ]
  . have : (x == y) = false := by
     apply TQ.mpr;intro e;subst e;exact nd.1 (AY.mpr ⟨_,h',rfl⟩)
    rw [this];exact KS nd.2 h'
def gK(osc sc:Scope)(N N':List Str)(ix:List (Option Nat)):Bool:=
 decide (sc.kind = .function) && decide (osc.kind = .function) && sc.names.all (fun y=>decide (y.2 = .local->sc.names.lookup y.1=some .local)) &&
 sc.names.all (fun y=>decide (y.2 = .free->(osc.names.lookup y.1=some .cell\/osc.names.lookup y.1=some .free))) && decide (N'.Nodup) && decide ((sc.names.map (·.1)).Nodup) && decide (N'.length=ix.length) &&
 (List.range ix.length).all fun i=>match ix[i]? with
  | some (some j)=>decide (N[j]? = N'[i]?) && (match N'[i]? with | some x=>decide (sc.names.lookup x=some .free) | none=>false)
  | _=>true
structure CS (osc sc:Scope) (N N':List Str) (ix:List (Option Nat)):Prop where
 kind:sc.kind = .function
 okind:osc.kind = .function
 names:∀y ∈ sc.names,y.2 = .local->sc.names.lookup y.1=some .local
 free:∀y ∈ sc.names,y.2 = .free->osc.names.lookup y.1=some .cell\/osc.names.lookup y.1=some .free
 nd:N'.Nodup
 ns:(sc.names.map (·.1)).Nodup
 len:N'.length=ix.length
 ixs:∀(i j:Nat),ix[i]? = some (some j)->∃x,N'[i]? = some x/\N[j]? = some x/\sc.names.lookup x=some .free
theorem CS.of{osc sc:Scope}{N N':List Str}{ix:List (Option Nat)}(h:gK osc sc N N' ix=true):CS osc sc N N' ix:=by
 unfold gK at h
 simp only [GE,F1,JP] at h
 obtain ⟨⟨⟨⟨⟨⟨⟨h1,h2⟩,h3⟩,h4⟩,h5⟩,h8⟩,h6⟩,h7⟩:=h;refine ⟨h1,h2,h3,h4,h5,h8,h6,fun i j e=> ?_⟩;have hi:i<ix.length:=(AS.mp e).1;have q:=h7 i (BF.mpr hi);rw [e] at q
 simp only [GE,JP] at q
 cases e2:N'[i]? with
 | none=>rw [e2] at q;exact absurd q.2 (by simp)
 | some x=>
  rw [e2] at q
  exact ⟨x,rfl,q.1,by simpa using q.2⟩
def JY(ix:List (Option Nat))(σ:L2.St):L2.St:=ix.map fun o=>match o with | some j=>(σ[j]?).join | none=>none
structure CB where
 C:Addr
 s₀:Shared
 H₀:Hp
 ex:List Addr
def yQ(osc sc:Scope)(cl:List (Str×Addr))(C:Addr)(env:Env):Env:=
 {scope:=PM sc osc,locals:=C,globals:=env.globals,cells:=cellsFrom (C+1) sc.names cl,qual:=env.qual,func:=none,code:=env.code,frame:=env.frame,builtins:=env.builtins}
def cxC(X:Cx)(osc sc:Scope)(N':List Str)(b:CB):Cx where
 prog:=X.prog
 w:=X.w
 K:=X.K
 mg:=X.mg
 base:=X.base
 A:=X.A
 N:=N'
 s₀:=b.s₀
 H₀:=b.H₀
 env:=yQ osc sc (HY X.env.cells sc.names []) b.C X.env
 outer:=X.stack
 stack:=X.stack
 ex:=b.ex
 fn:=fun x=>decide (sc.names.lookup x=some .cell)
 calm:=X.calm
 pn:= []
 xe:=fun _ _=>False
def JF:Obj:={cls:= .type "list",dict:=none,data:= .seq ([]:List Value).toArray}
def WE:Obj:={cls:= .type "dict",data:= .dict #[]}
def KJ(h:Heap)(sc:Scope):Heap:=pushCells ((h.push JF).push WE) sc.names
theorem LA{h:Heap}{sc:Scope}:∀b o,h.get? b=some o->(KJ h sc).get? b=some o:=fun b o e=>v5 _ _ b o (A4 _ (A4 _ e))
theorem KK {M : Model} {A : Around} {E : Value -> Shared -> Prop} {s : Shared} {scope : Scope} {globals : Addr} {cl : List (Str × Addr)} {qual : Str} {env : Env} {Q : Env -> Shared -> Prop}
 (h:Q (newEnv scope s.heap.objs.size globals (cellsFrom (s.heap.objs.size+1) scope.names cl) qual none .none (some env) builtinsNs) {s with heap:=pushCells (s.heap.push WE) scope.names}) :
 wpAny M A (newFunctionEnv scope globals cl [] qual none .none (some env)) Q E s:=by
 simp only [newFunctionEnv,A76,G6];refine A0 (wpAny_alloc ?_);refine A0 (wpAny_layCells _ (fun name kind cells=>by cases hkc:kind==NameKind.cell <;> simp [hkc]) _ _ _ _ ?_);rw [show ({s with heap:=s.heap.push {cls:= .type "dict",data:= .dict #[]} }:Shared).heap.objs.size=s.heap.objs.size+1 from D1 ..];simp only [R6];exact A0 (A6 (A6 h))
section
variable {X:Cx} {pins:List (Addr×Obj)} {σ:L2.St} {H:Hp} {s:Shared} {osc sc:Scope} {N':List Str} {ix:List (Option Nat)} {fp:List Addr}
theorem ZF(I:Inv X pins σ H s)(cs:CS osc sc X.N N' ix)(ho:X.env.scope=osc):∀y ∈ sc.names,y.2 = .free->∃c,X.env.cells.lookup y.1=some c:=fun y hy hf=>by
 refine I.ok.has y.1 ?_;have q:=cs.free y hy hf;rw [<-ho] at q
 exact q
theorem kO (I : Inv X pins σ H s) (cs : CS osc sc X.N N' ix) (ho : X.env.scope = osc) {C : Addr} {x : Str} {c : Addr} (h : (cellsFrom (C + 1) sc.names (HY X.env.cells sc.names [])).lookup x = some c) :
 ((x,c) ∈ cellsFrom (C+1) sc.names [] )\/((x,NameKind.free) ∈ sc.names/\X.env.cells.lookup x=some c):=by
 rw [MY,JW] at h
 cases e:(cellsFrom (C+1) sc.names []).lookup x with
 | some d=>rw [e] at h;cases h;exact .inl (mem_of_lookup e)
 | none=>
  rw [e] at h
  rcases SI h with q | ⟨q,d⟩
  . cases q
  . obtain ⟨c',hc⟩:=ZF I cs ho _ q rfl;rw [show X.env.cells.lookup x=some c' from hc] at d
    exact .inr ⟨q,by rw [show X.env.cells.lookup x=some c' from hc];rw [d];rfl⟩
theorem jS (I : Inv X pins σ H s) (cs : CS osc sc X.N N' ix) (ho : X.env.scope = osc) (hfp : ∀ b ∈ fp, JH X pins H b) (hlt : ∀ b ∈ fp, b < s.heap.objs.size) :
 Inv (cxC X osc sc N' ⟨s.heap.objs.size+1,s,H,fp ++ [s.heap.objs.size]⟩) [] (JY ix σ) H {s with heap:=KJ s.heap sc}:=by
 have okc:=cellsFrom_ok sc.names ((s.heap.push JF).push WE) (s.heap.objs.size+2) [] ⟨fun _ _ hm=>(nomatch hm),HI⟩ (by rw [D1,D1];exact AF _);have esz:((s.heap.push JF).push WE).objs.size=s.heap.objs.size+1+1:=by rw [D1,D1]
 rw [esz] at okc
 have cell:=fun {x:Str} {c:Addr}=>kO (C:=s.heap.objs.size+1) (x:=x) (c:=c) I cs ho;have oldc:∀ {x:Str} {c:Addr},X.env.cells.lookup x=some c -> @LT.lt Nat _ c s.heap.objs.size:=fun {x c} h=>(I.cell x c h).elim fun v hv=>hv.lt;have ltS:∀ {h:Heap} {b:Addr} {o:Obj},h.get? b=some o -> @LT.lt Nat _ b h.objs.size:=fun e=>AU e;have newc:∀ {x:Str} {c:Addr},(x,c) ∈ cellsFrom (s.heap.objs.size+1+1) sc.names []->s.heap.objs.size+2<=c:=fun {x c} h=>(okc.empty x c h).2
 have nsC:∃m,(KJ s.heap sc).Ns (s.heap.objs.size+1) m:=⟨_,by
  have q:=(Heap.Ns.new (s.heap.push JF) (.type "dict")).keeps (v5 sc.names _);rw [D1] at q
  exact q⟩
 refine ⟨?ok,rfl,I.bare,Un.kept LA,?loc,?cell,I.hok.fresh (ET _),?freeC,?pin,I.hok.kept LA,?len⟩
 case ok=>
  refine ⟨I.ok.mod,cs.kind,I.ok.glob,I.ok.blt,ET _,?inj,?has,?cab,I.ok.hd,I.ok.frames, .inl rfl,?exf,I.bs,?bsz,?noex,?exfs,I.stack,I.stkFree,I.tb⟩
  case inj=>
   intro x y c hx hy;rcases cell hx with p | ⟨p,p'⟩ <;> rcases cell hy with q | ⟨q,q'⟩
   . exact name_of_addr okc.apart p q
   . have a1:=newc p;have a2:=oldc q';omega
   . have a1:=newc q;have a2:=oldc p';omega
   . exact I.ok.inj x y c p' q'
  case has=>
   intro x hx
   have key:∀k,(PM sc osc).names.lookup x=some k->(k = .cell\/k = .free)->∃c,(cellsFrom (s.heap.objs.size+1+1) sc.names (HY X.env.cells sc.names [])).lookup x=some c:=by
    intro k hk hk2;obtain ⟨k',e,d⟩:=HA hk;have hm:=mem_of_lookup e
    have:k' = .cell\/k' = .free:=by
     rcases d with d | d
     . rcases hk2 with r | r
       . exact .inl (d.trans r)
       . exact .inr (d.trans r)
     . exact .inr d.1
    rcases this with r | r
    . subst r;exact ZX hm
    . subst r;rw [MY,JW,LW hm]
      cases (cellsFrom (s.heap.objs.size+1+1) sc.names []).lookup x with
      | some c=>exact ⟨c,rfl⟩
      | none=>exact ⟨_,rfl⟩
   rcases hx with hx | hx
   . exact key _ hx (.inl rfl)
   . exact key _ hx (.inr rfl)
  case cab=>
   intro x c hf hc;have hf':sc.names.lookup x=some .cell:=AO hf;rcases cell hc with p | ⟨p,p'⟩
   . have:=newc p;show s.heap.objs.size<=c;omega
   . rw [KS cs.ns p] at hf'
     cases hf'
  case exf=>
   intro b hb;rcases AV.mp hb with hb | hb
   . have hl : @LT.lt Nat _ b s.heap.objs.size:=hlt b hb;obtain ⟨f0,f1,f2,f3,f4,f5⟩:=hfp b hb;refine ⟨fun e=> ?_,fun x c hc e=> ?_⟩
     . have e:b=s.heap.objs.size+1:=e;subst e;omega
     . rcases cell hc with p | ⟨p,p'⟩
       . have:=newc p;subst e;omega
       . exact f4 x c p' e
   . have hb:b=s.heap.objs.size:=by simpa using hb
     subst hb;refine ⟨fun e=>Nat.succ_ne_self _ (Eq.symm (show s.heap.objs.size=s.heap.objs.size+1 from e)),fun x c hc e=> ?_⟩;rcases cell hc with p | ⟨p,p'⟩
     . have:=newc p;subst e;omega
     . have:=oldc p';subst e;omega
  case bsz=>exact BQ I.ok.bsz I.sz
  case noex=>
   intro b o e hb;have e:X.base.get? b=some o:=e;rcases AV.mp hb with hb | hb
   . obtain ⟨f0,f1,f2,f3,f4,f5⟩:=hfp b hb;rcases f3 with f3 | f3
     . exact I.ok.noex b o e f3
     . have:=ltS e;have:=I.ok.bsz;omega
   . have hb:b=s.heap.objs.size:=by simpa using hb
     have:=ltS e;have:=I.ok.bsz;have:=I.sz;subst hb;omega
  case exfs=>
   intro b hb hf;have hf:=I.stkSub b hf;rcases AV.mp hb with hb | hb
   . obtain ⟨f0,f1,f2,f3,f4,f5⟩:=hfp b hb;rcases AN.mp hf with e | hf
     . exact f1 e
     . exact f2 hf
   . have hb:b=s.heap.objs.size:=by simpa using hb
     rcases AN.mp hf with e | hf
     . have l : @LT.lt Nat _ X.env.locals s.heap.objs.size:=I.lt;rw [hb] at e
       rw [<-e] at l
       omega
     . exact I.nofs (v6 hb.symm) hf
 case loc=>
  obtain ⟨m',hm'⟩:=nsC;obtain ⟨m,hm,hl⟩:=I.loc;refine ⟨m',hm',fun i x v hx hv hvis=> ?_⟩;unfold JY at hv
  rw [AX] at hv
  cases e:ix[i]? with
  | none=>rw [e] at hv;cases hv
  | some o=>
   rw [e] at hv
   cases o with
   | none=>cases hv
   | some j=>
    simp only [GU,NI] at hv
    obtain ⟨y,h1,h2,h3⟩:=cs.ixs i j e;have hx':N'[i]? = some x:=hx;rw [h1] at hx'
    cases hx'
    have hj:σ[j]? = some (some v):=by
     cases q:σ[j]? with
     | none=>rw [q] at hv;cases hv
     | some z=>rw [q] at hv;simp only [Option.join_some] at hv;rw [hv]
    have hfree:=mem_of_lookup h3;have hk:=cs.free _ hfree rfl;rw [<-ho] at hk
    have hvis0:Vis X.env.scope x:=by
     rcases hk with r | r
     . exact .inr (.inl r)
     . exact .inr (.inr r)
    obtain ⟨u,ru,lk⟩:=hl j x v h2 hj hvis0;refine ⟨u,ru, .inr ⟨?_,?_⟩⟩
    . rcases hvis with q | q | q
      . obtain ⟨k',e',d⟩:=HA q;rw [h3] at e'
        cases e'
        rcases d with d | d
        . cases d
        . cases d.2
      . exact .inl q
      . exact .inr q
    . rcases lk with ⟨lk,_⟩ | ⟨_,c,hc,hcell⟩
      . have:X.env.scope.names.lookup x=some .local:=lk;rw [this] at hk
        rcases hk with r | r <;> cases r
      . refine ⟨c,?_,hcell.keeps LA⟩;show (cellsFrom (s.heap.objs.size+1+1) sc.names (HY X.env.cells sc.names [])).lookup x=some c;rw [MY,JW,LW hfree,hc]
        cases e2:(cellsFrom (s.heap.objs.size+1+1) sc.names []).lookup x with
        | some d=>
         have:=KS cs.ns (aB (mem_of_lookup e2));rw [h3] at this
         cases this
        | none=>rfl
 case cell=>
  intro x c hc;rcases cell hc with p | ⟨p,p'⟩
  . exact ⟨_,(okc.empty x c p).1⟩
  . obtain ⟨v,hv⟩:=I.cell x c p';exact ⟨v,hv.keeps LA⟩
 case freeC=>
  intro x c hc;rcases cell hc with p | ⟨p,p'⟩
  . have:=newc p;exact I.hok.fresh (by omega)
  . exact I.freeC x c p'
 case pin=>intro p hp;cases hp
 case len=>
  show (JY ix σ).length=N'.length;unfold JY;rw [List.length_map,cs.len]
def GK(S:Nat->Bool)(g:TG):Prop:=∀v σ H Q,g v σ H Q->g v σ H fun σ' H'=>Q σ' H'/\σ'.length=σ.length/\∀i:Nat,S i=false->σ'[i]? = σ[i]?
def PTs(X:Cx)(ifs:List Expr)(t:TT):Prop:=
 ∀(pins:List (Addr×Obj)) (s:Shared) (σ:L2.St) (H:Hp) (Q:Bool->Hp->Prop),Inv X pins σ H s->t σ H Q ->
   wpAny (model X.prog X.w) X.A (forIn ifs true fun c r=>if r=true then do let ok <-isTrue c X.env (eval c X.env);pure (ForInStep.yield ok) else pure (ForInStep.yield r)) (TP X pins σ Q) X.xe s
def tNoTest:TT:=fun _ H Q=>Q true H
theorem rN{X:Cx}:PTs X [] tNoTest:=fun _ _ _ H _ I h=>wpAny_tests_nil ⟨H,I,h⟩
theorem rO{X:Cx}{c:Expr}{t:TT}(h:PT X c t):PTs X [c] t:=fun pins s σ H Q I q=>wpAny_tests_one (h pins s σ H Q I q)
def A44(J:It)(σ0:L2.St)(g:TG)(tt:TT)(te:TE)(H1:Hp)(Q:VK):Prop:=∃W:Nat->Nat->List V->Hp->Prop,(∃m,W 0 m [] H1)/\∀i m ys H,W i m ys H->ys.length<sizeLine /\
 ((J.stop i H/\∀p,H p=none->Q (.ref p) (upd H p (.lst ys))) \/
  (J.go i H/\∃N:List V->Hp->Prop,(∀ys' H',N ys' H'->∃m',m'<m/\W (i+1) m' ys' H')/\∀x H',J.yld i H x H'->g x σ0 H' fun σ2 H2=>tt σ2 H2 fun b H3=>if b=true then te σ2 H3 fun y H4=>N (ys ++ [y]) H4 else N ys H3))
theorem MU {prog : Program} {w : World} {A : Around} {R : Result -> Shared -> Prop} {s : Shared} {elt target iter : Expr} {ifs : List Expr} {scope : Scope} {pos : Pos} {it acc : Value} {env : Env} (I : Nat -> Shared -> Prop)
 (turn:∀n s,I n s->wpAny (model prog w) A (pyNext it) (fun r s₁=>match r with
  | none=>R (.ok .next) s₁
  | some v => wpAny (model prog w) A (letOwnedTupleGo target it v) (fun _ s₁ => wpAny (model prog w) A (assign target env v) (fun _ s₂ =>
   wpAny (model prog w) A (forIn ifs true fun c r=>if r=true then do let ok <-isTrue c env (eval c env);pure (ForInStep.yield ok) else pure (ForInStep.yield r)) (fun ok s₃=>
    if ok=true then wpAny (model prog w) A (eval elt env) (fun x s₄=>
     wpAny (model prog w) A (call (.builtin "list.append") [acc,x]) (fun _ s₅=>∃m,m<n/\I m s₅) (fun _ _=>False) s₄) (fun _ _=>False) s₃
    else ∃m,m<n/\I m s₃) (fun _ _=>False) s₂) (fun _ _=>False) s₁) (fun _ _=>False) s₁) (fun _ _=>False) s)
 (n:Nat) (h:I n s) :
 codeAny (model prog w) A (.compLoop (.ListComp elt [⟨target,iter,ifs,0⟩] scope pos) 0 it acc env) R s:=by
 refine codeAny_loop rfl I (fun n s hI=> ?_) n h;show wpAny _ A ((compTurn (.ListComp elt [⟨target,iter,ifs,0⟩] scope pos) 0 it acc env).onRaise (fun x=>do noteFrame x env;theTreesLotGoes x)) _ _ s;refine wpAny_noted ?_;rw [compTurn_list];refine A0 (A74 (A0 (E1 (turn n s hI) (fun r s₁ h₁=> ?_) fun _ _ h'=>h'.elim)))
 cases r with
 | none=>exact A6 h₁
 | some v=>
  refine A0 (E1 h₁ (fun _ s₁ h₁=> ?_) fun _ _ h'=>h'.elim);refine A0 (E1 h₁ (fun _ s₂ h₂=>A0 (E1 h₂ (fun ok s₃ h₃=> ?_) fun _ _ h'=>h'.elim)) fun _ _ h'=>h'.elim)
  cases ok with
  | false=>exact A6 ⟨rfl,h₃⟩
  | true=>
   exact A0 (A0 (E1 h₃ (fun x s₄ h₄=>A0 (E1 h₄ (fun _ s₅ h₅=>A6 (A6 ⟨rfl,h₅⟩)) fun _ _ h'=>h'.elim)) fun _ _ h'=>h'.elim))
theorem W0{P:Program}{w:World}{H:Hp}{h:Heap}{a:Addr}{o:HO}(x:HOk P w H h)(hn:H a=none)(new:ObjOk P w (upd H a o) h a o):HOk P w (upd H a o) h:=fun b u e=>by
 by_cases hb:b=a
 . subst hb;rw [BZ] at e
   cases e
   exact new
 . rw [BE hb] at e
   refine (x b u e).stay (fun _ _ _ q=>q) (fun c q=> ?_) (fun c xs q=> ?_) fun c ob xs q=> ?_
   . rw [BE (BI q hn)];exact q
   . rw [BE (BI q hn)];exact q
   . rw [BE (BI q hn)];exact q
def SY(ix:List (Option Nat))(i:Nat):Bool:=match ix[i]? with | some (some _)=>false | _=>true
structure BlkEnd (X:Cx) (pins:List (Addr×Obj)) (σ:L2.St) (C D:Addr) (H:Hp) (ys:List V) (s':Shared):Prop where
 inv:Inv X pins σ (upd H D (.lst ys)) s'
 free:H D=none
 ns:∃m,s'.heap.Ns C m
 cfree:(upd H D (.lst ys)) C=none
 cl:C≠X.env.locals
 cn:X.s₀.heap.objs.size<=C
 cc:∀x c,X.env.cells.lookup x=some c->c≠C
 cp:∀p ∈ X.pn++pins,p.1≠C
theorem VD {tg elt iter : Expr} {ifs : List Expr} {scope : Scope} {pos : Pos} {J : It} {it : Addr} {tn : Nat -> Heap -> Prop} {g : TG} {tt : TT} {te : TE} {Q : VK} {R : Result -> Shared -> Prop}
 (I2:Inv X pins σ H s) (cs:CS osc sc X.N N' ix) (ho:X.env.scope=osc) (hc:X.calm=true) (T:Turn X.prog X.w X.K tg J fp it tn) (st2:tn 0 s.heap) (f2:∀b ∈ fp,JH X pins H b)
 (hg:PG (cxC X osc sc N' ⟨s.heap.objs.size+1,s,H,fp ++ [s.heap.objs.size]⟩) tg g) (gk:GK (SY ix) g)
 (ht:PTs (cxC X osc sc N' ⟨s.heap.objs.size+1,s,H,fp ++ [s.heap.objs.size]⟩) ifs tt) (he:PE (cxC X osc sc N' ⟨s.heap.objs.size+1,s,H,fp ++ [s.heap.objs.size]⟩) elt te)
 (rd:A44 J (JY ix σ) g tt te H Q)
 (hR:∀ys H' s',BlkEnd X pins σ (s.heap.objs.size+1) s.heap.objs.size H' ys s'->Q (.ref s.heap.objs.size) (upd H' s.heap.objs.size (.lst ys))->R (.ok .next) s') :
 codeAny (model X.prog X.w) X.A (.compStart (.ListComp elt [⟨tg,iter,ifs,0⟩] scope pos) 0 (.ref it) (.ref s.heap.objs.size) (yQ osc sc (HY X.env.cells sc.names []) (s.heap.objs.size+1) X.env)) R {s with heap:=KJ s.heap sc}:=by
 have ltS:∀ {h:Heap} {b:Addr} {o:Obj},h.get? b=some o -> @LT.lt Nat _ b h.objs.size:=fun e=>AU e;have hlt:∀b ∈ fp,b<s.heap.objs.size:=fun b hb=>(T.obj 0 _ st2 b hb).elim fun o h=>AU h.1;have I3:=jS I2 cs ho f2 hlt;generalize eX:cxC X osc sc N' ⟨s.heap.objs.size+1,s,H,fp ++ [s.heap.objs.size]⟩=X' at *
 have eE:yQ osc sc (HY X.env.cells sc.names []) (s.heap.objs.size+1) X.env=X'.env:=by rw [<-eX];rfl
 have eP:X'.prog=X.prog:=by rw [<-eX];rfl
 have eW:X'.w=X.w:=by rw [<-eX];rfl
 have eK:X'.K=X.K:=by rw [<-eX];rfl
 have eA:X'.A=X.A:=by rw [<-eX];rfl
 have eC:X'.calm=true:=by rw [<-eX];exact hc
 have eL:X'.env.locals=s.heap.objs.size+1:=by rw [<-eX];rfl
 have eF:X'.fs=frs X.stack:=by rw [<-eX];rfl
 have eEx:X'.ex=fp ++ [s.heap.objs.size]:=by rw [<-eX];rfl
 have eN:X'.pn = []:=by rw [<-eX];rfl
 have eS:X'.s₀=s:=by rw [<-eX];rfl
 have eH:X'.H₀=H:=by rw [<-eX];rfl
 have exe:X'.xe=fun _ _=>False:=by rw [<-eX];rfl
 have okX:=I3.ok;have mD:s.heap.objs.size ∈ X'.ex:=by rw [eEx];exact A8 _ (A5.mpr rfl)
 have mF:∀b ∈ fp,b ∈ X'.ex:=fun b hb=>by rw [eEx];exact DY _ hb
 obtain ⟨W,⟨m0,w0⟩,turn⟩:=rd
 have stat:∀ {H':Hp} {o:Obj},(∀b ∈ fp,H' b=none)->∀b ∈ fp,JH X' [(s.heap.objs.size,o)] H' b:=fun {H' o} hn b hb=>by
  refine ⟨hn b hb,(okX.exf b (mF b hb)).1,okX.exfs b (mF b hb), .inl (mF b hb),(okX.exf b (mF b hb)).2,fun p hp e=> ?_⟩;rw [eN] at hp
  have hp:p=(s.heap.objs.size,o):=by simpa using hp
  subst hp;have l : @LT.lt Nat _ b s.heap.objs.size:=hlt b hb;have e:s.heap.objs.size=b:=e;rw [<-e] at l
  omega
 have pinD:∀ {σ':L2.St} {H':Hp} {s':Shared} {o:Obj},Inv X' [] σ' H' s'->s'.heap.get? s.heap.objs.size=some o->H' s.heap.objs.size=none->(∀v,o.data ≠ .cell v)->Inv X' [(s.heap.objs.size,o)] σ' H' s':=fun {σ' H' s' o} I e hn hd=>by
  refine I.pins_of fun p hp=> ?_;have hp:p=(s.heap.objs.size,o):=by simpa using hp
  subst hp;exact ⟨e,hn,(okX.exf _ mD).1,okX.exfs _ mD,hd⟩
 rw [eE];have I3':Inv X' [] (JY ix σ) H {s with heap:=KJ s.heap sc}:=I3;have dat:∀(its:List Value) (k:Nat) (v:Option Value),({cls:= .type "list",data:= .seq its.toArray k}:Obj).data ≠ .cell v:=fun _ _ _ z=>nomatch z;have acc0:(KJ s.heap sc).get? s.heap.objs.size=some {cls:= .type "list",data:= .seq ([]:List Value).toArray 0}:=v5 _ _ _ _ (A4 _ (AI _ rfl));have st3:tn 0 (KJ s.heap sc):=T.keep 0 _ _ st2 fun b hb o e=>LA b o e
 have loop:∀s3:Shared,s3={s with heap:=KJ s.heap sc}->codeAny (model X.prog X.w) X.A (.compLoop (.ListComp elt [⟨tg,iter,ifs,0⟩] scope pos) 0 (.ref it) (.ref s.heap.objs.size) X'.env) R s3:=by
  rintro s3 rfl
  refine MU (fun n s'=>∃i ys H' its k,Inv X' [] (JY ix σ) H' s'/\tn i s'.heap/\(∀b ∈ fp,H' b=none)/\W i n ys H'/\s'.heap.get? s.heap.objs.size=some {cls:= .type "list",data:= .seq its.toArray k}/\Vals ys its/\H' s.heap.objs.size=none)
   ?_ m0 ⟨0,[],H,[],0,I3',st3,fun b hb=>(f2 b hb).1,w0,acc0, .nil,I2.hok.fresh (AF _)⟩
  rintro n s3 ⟨i,ys,H3,its,k,J3,t3,fr3,w3,a3,v3,d3⟩;obtain ⟨hz,w3⟩:=turn i n ys H3 w3;have J3p:=pinD J3 a3 d3 (dat its k);rcases w3 with ⟨stop,q⟩ | ⟨go,N,hN,step⟩
  . have TD:=T.done X' eP eW eK eC i [(s.heap.objs.size,_)] s3 (JY ix σ) H3 (fun _ _=>False) J3p (stat fr3) t3 stop;rw [eA] at TD
    refine thn TD fun r s4 ⟨hr,I4⟩ => ?_;subst hr;have a4:=(I4.pin (s.heap.objs.size,_) (A8 _ (A5.mpr rfl))).1;have hd4:=I4.base;rw [eF,eEx,eH,eS] at hd4
    refine hR ys H3 s4 ⟨?_,d3,?_,?_,?_,?_,?_,?_⟩ (q _ d3)
    . refine I2.call' (ch:=fp ++ [s.heap.objs.size]) (by have z:=I4.os;rw [eS] at z;exact z) ?_ ?_ I4.bare ?_
      . refine ⟨hd4.keep,hd4.slot,fun b o e n x=> ?_,hd4.there,fun b xs e=> ?_,fun b o u e=> ?_,fun b ps e=> ?_⟩
        . have l:=ltS e;rw [BE (by intro z;subst z;omega)];exact hd4.free b o e n x
        . have z:=hd4.tups b xs e;rw [BE (BI z d3)];exact z
        . have z:=hd4.frzs b o u e;rw [BE (BI z d3)];exact z
        . obtain ⟨more,z⟩:=hd4.tbls b ps e;exact ⟨more,by rw [BE (BI z d3)];exact z⟩
      . have hk:=I4.hok;rw [eP,eW] at hk
        exact W0 hk d3 ⟨JO hz,its,k,v3,a4⟩
      . intro b hb;rcases AV.mp hb with hb | hb
        . obtain ⟨f0,f1,f2,f3,f4,f5⟩:=f2 b hb;exact ⟨f3,f1,f4,f5⟩
        . have hb:b=s.heap.objs.size:=by simpa using hb
          subst hb;refine ⟨.inr I2.sz,fun e=> ?_,fun x c hx e=> ?_,fun p hp e=> ?_⟩
          . have l : @LT.lt Nat _ X.env.locals s.heap.objs.size:=I2.lt;rw [<-e] at l
            omega
          . obtain ⟨v,hv⟩:=I2.cell x c hx;have l : @LT.lt Nat _ c s.heap.objs.size:=hv.lt;rw [e] at l
            omega
          . have l:=ltS (I2.pin p hp).1;rw [e] at l
            omega
    . obtain ⟨m,hm,_⟩:=I4.loc;rw [eL] at hm
      exact ⟨m,hm⟩
    . rw [BE (Nat.succ_ne_self _)];have z:=I4.free;rw [eL] at z
      exact z
    . intro e;have l : @LT.lt Nat _ X.env.locals s.heap.objs.size:=I2.lt;rw [<-e] at l
      omega
    . have:=I2.sz;exact Nat.le_succ_of_le this
    . intro x c hx e;obtain ⟨v,hv⟩:=I2.cell x c hx;have l : @LT.lt Nat _ c s.heap.objs.size:=hv.lt;rw [e] at l
      omega
    . intro p hp e;have l:=ltS (I2.pin p hp).1;rw [e] at l
      omega
  . have TI:=T.item X' eP eW eK eC i [(s.heap.objs.size,_)] s3 (JY ix σ) H3 (fun _ _=>False) J3p (stat fr3) t3 go;rw [eA] at TI
    refine thn TI fun r s4 ⟨u,hr,h4⟩ => ?_;subst hr;refine thn h4 fun _ s5 ⟨x,H5,I5,r5,y5,st5,fr5⟩ => ?_;have I5':=I5.pinned (stat fr5) (T.obj _ _ st5);have HG:=hg _ s5 (JY ix σ) H5 x u _ I5' r5 (gk _ _ _ _ (step x H5 y5));rw [eP,eW,eA,exe] at HG
    refine thn HG fun _ s6 ⟨σ6,H6,I6,q6,l6,k6⟩ => ?_;have HT:=ht _ s6 σ6 H6 _ I6 q6;rw [eP,eW,eA,exe] at HT
    refine thn HT fun b s7 ⟨H7,I7,q7⟩ => ?_
    have weak:∀ {ps:List (Addr×Obj)} {H':Hp} {s':Shared},Inv X' ps σ6 H' s'->Inv X' ps (JY ix σ) H' s':=fun I=>I.weak l6.symm fun j v e=>by
     have hs:SY ix j=false:=by
      unfold SY;unfold JY at e
      rw [AX] at e
      cases e2:ix[j]? with
      | none=>rw [e2] at e;cases e
      | some o=>
       rw [e2] at e
       cases o with
       | none=>cases e
       | some z=>rfl
     rw [k6 j hs];exact e
    have pinA : ∀ {σ' : L2.St} {H' : Hp} {s' : Shared}, Inv X' ([(s.heap.objs.size, { cls := .type "list", data := .seq its.toArray k })] ++ SD fp s5.heap) σ' H' s' ->
     s'.heap.get? s.heap.objs.size=some {cls:= .type "list",data:= .seq its.toArray k}/\H' s.heap.objs.size=none/\tn (i+1) s'.heap/\∀b ∈ fp,H' b=none:=fun {σ' H' s'} I=>by
     have z:=I.pin (s.heap.objs.size,_) (A8 _ (DY _ (A5.mpr rfl)));refine ⟨z.1,z.2.1,T.keep _ _ _ st5 fun b hb o e=>(I.pin (b,o) (A8 _ (A8 _ (LR hb e)))).1,fun b hb=> ?_⟩;obtain ⟨o,e,d⟩:=T.obj _ _ st5 b hb;exact (I.pin (b,o) (A8 _ (A8 _ (LR hb e)))).2.1
    cases b with
    | false=>
     have q7:N ys H7:=q7;obtain ⟨m',hm,w7⟩:=hN ys H7 q7;obtain ⟨p1,p2,p3,p4⟩:=pinA I7
     exact ⟨m',hm,i+1,ys,H7,its,k,(weak I7).pins_of (fun _ z=>(nomatch z)),p3,p4,w7,p1,v3,p2⟩
    | true=>
     have HE:=he _ s7 σ6 H7 _ I7 q7;rw [eP,eW,eA,exe] at HE
     refine thn HE fun y s8 ⟨z,H8,I8,r8,q8⟩ => ?_;obtain ⟨m',hm,w8⟩:=hN _ H8 q8;obtain ⟨p1,p2,p3,p4⟩:=pinA I8;refine MM F.slot_list_append ⟨_,p1,rfl⟩ F.entry_list_append (AC0 _ _) (A97 s.heap.objs.size its.toArray k y (by rw [AT, <-v3.length];omega)) ⟨p1,?_⟩;have q:=PySem.IsL.update p1 (fun a=>a.push y);have other:∀b o,b≠s.heap.objs.size->s8.heap.get? b=some o->(s8.heap.update s.heap.objs.size (Obj.mapSeq fun a=>a.push y)).get? b=some o:=fun b o hb e=>(AA9 s8.heap _ (NG hb)).trans e;have eq:its.toArray.push y=(its ++ [y]).toArray:=by simp
     have q:IsL (s8.heap.update s.heap.objs.size (Obj.mapSeq fun a=>a.push y)) s.heap.objs.size (its.toArray.push y) _:=q;rw [eq] at q
     refine ⟨m',hm,i+1,ys ++ [z],H8,its ++ [y],_,?_,T.keep _ _ _ p3 fun b hb o e=>other b o (fun z=> ?_) e,p4,w8,q,v3.append (.cons r8 .nil),p2⟩
     . have I8w:Inv X' [] (JY ix σ) H8 s8:=(weak I8).pins_of fun _ z=>nomatch z;refine I8w.turned (it:=s.heap.objs.size) other p2 (okX.exf _ mD).1 (.inl mD) (okX.exf _ mD).2 fun p hp=> ?_;rw [eN] at hp
       cases hp
     . have l : @LT.lt Nat _ b s.heap.objs.size:=hlt b hb;rw [z] at l
       omega
 exact codeAny_compStart_list (loop _ rfl) (T.self X.A 0 _ _ _ st3 (loop _ rfl))
def tLC(ix:List (Option Nat))(wi:TI)(g:CB->TG)(tt:CB->TT)(te:CB->TE):TE:=fun σ H Q=>wi σ H fun J H1=>∀b:CB,A44 J (JY ix σ) (g b) (tt b) (te b) H1 Q
theorem A52 {tg elt iter : Expr} {ifs : List Expr} {pos : Pos} {wi : TI} {g : CB -> TG} {tt : CB -> TT} {te : CB -> TE} (hc : X.calm = true) (ho : X.env.scope = osc) {N : List Str} (hN : X.N = N) (hcs : gK osc sc N N' ix = true) (hi : PI X tg iter wi)
 (hb:∀b:CB,PG (cxC X osc sc N' b) tg (g b)/\PTs (cxC X osc sc N' b) ifs (tt b)/\PE (cxC X osc sc N' b) elt (te b)) (gk:∀b:CB,GK (SY ix) (g b))
 (hs:∀x,foldedSetIterable iter X.env x=pure x:=by intro _;rfl):PE X (.ListComp elt [⟨tg,iter,ifs,0⟩] sc pos) (tLC ix wi g tt te):=by
 subst hN;have cs:=CS.of hcs;intro pins s σ H Q I h;rw [eval_ListComp];have hcl:=NS (ZF I cs ho);refine A77 (use:=none) rfl hs hcl cs.kind cs.names (thn (hi pins s σ H _ I h) fun v s1 h1=>thn h1 fun itv s2 h2=> ?_);obtain ⟨it,fp,tn,J,H2,e,I2,T,st2,f2,rd⟩:=h2;subst e;refine CZ ?_;refine KK ?_;have hb':=hb ⟨s2.heap.objs.size+1,s2,H2,fp ++ [s2.heap.objs.size]⟩
 have rb:=VD (scope:=sc) (pos:=pos) (iter:=iter) (R:=compPost (model X.prog X.w) X.A X.xe none (EP X pins σ Q) (.ref s2.heap.objs.size) (s2.heap.objs.size+1)) I2 cs ho hc T st2 f2 hb'.1 (gk _) hb'.2.1 hb'.2.2 (rd _) (fun ys H' s' B q=>by
  obtain ⟨m,hm⟩:=B.ns;refine ⟨m,hm,fun h' hsb=> ?_⟩;refine ⟨.ref s2.heap.objs.size,upd H' s2.heap.objs.size (.lst ys),?_,rfl,q⟩;exact B.inv.turned (it:=s2.heap.objs.size+1) (fun b o hb e=>hsb.extBut b o hb e) B.cfree B.cl (.inr B.cn) B.cc B.cp)
 have sz:(s2.heap.push JF).objs.size=s2.heap.objs.size+1:=D1 ..;show codeAny _ _ (.compStart _ 0 (.ref it) (.ref s2.heap.objs.size) {newEnv sc (s2.heap.push JF).objs.size X.env.globals (cellsFrom ((s2.heap.push JF).objs.size+1) sc.names (HY X.env.cells sc.names [])) X.env.qual none .none (some X.env) builtinsNs with scope:=relabel sc X.env}) (compPost _ _ _ none _ (.ref s2.heap.objs.size) (s2.heap.push JF).objs.size) _;rw [sz,S2,ho];exact rb
def tK(i:Nat)(t:TE):TS:=fun D σ H=>t σ H fun v H1=>D.nx (σ.set i (some v)) H1
theorem oQ {tg elt iter : Expr} {ifs : List Expr} {pos py spos : Pos} {wi : TI} {g : CB -> TG} {tt : CB -> TT} {te : CB -> TE} {i : Nat} {y : Str} (hnd : X.N.Nodup) (hi' : X.N[i]? = some y) (hy : X.env.scope.names.lookup y = some .local)
 (hsw:swapsWith (.ListComp elt [⟨tg,iter,ifs,0⟩] sc pos) (some (.Name y py)) spos.line X.env=pure true)
 (hc:X.calm=true) (ho:X.env.scope=osc) {N:List Str} (hN:X.N=N) (hcs:gK osc sc N N' ix=true) (hi:PI X tg iter wi)
 (hb:∀b:CB,PG (cxC X osc sc N' b) tg (g b)/\PTs (cxC X osc sc N' b) ifs (tt b)/\PE (cxC X osc sc N' b) elt (te b)) (gk:∀b:CB,GK (SY ix) (g b))
 (hs:∀x,foldedSetIterable iter X.env x=pure x:=by intro _;rfl):PS X (.Assign [.Name y py] (.ListComp elt [⟨tg,iter,ifs,0⟩] sc pos) spos) (tK i (tLC ix wi g tt te)):=by
 have hN':=hN;subst hN;have cs:=CS.of hcs;intro pins s σ H D I h;rw [exec_Assign_Name_used _ _ _ _ hsw];have hcl:=NS (ZF I cs ho);refine A0 (A74 (A0 ?_));show wpAny _ X.A (do let _ <-comprehension (.ListComp elt [⟨tg,iter,ifs,0⟩] sc pos) sc X.env _ (newList []) false (eval iter X.env) (some (assign (.Name y py) X.env))) _ _ s
 refine A0 (E1 (A77 (use:=some (assign (.Name y py) X.env)) (Q:=fun _ s'=>SP X pins D .next s') rfl hs hcl cs.kind cs.names
  (thn (hi pins s σ H _ I h) fun v s1 h1=>thn h1 fun itv s2 h2=> ?_)) (fun _ s' hq=>A6 (A6 hq)) fun _ _ e=>e)
 obtain ⟨it,fp,tn,J,H2,e,I2,T,st2,f2,rd⟩:=h2;subst e;refine CZ ?_;refine KK ?_;have hb':=hb ⟨s2.heap.objs.size+1,s2,H2,fp ++ [s2.heap.objs.size]⟩
 have rb:=VD (scope:=sc) (pos:=pos) (iter:=iter) (R:=compPost (model X.prog X.w) X.A X.xe (some (assign (.Name y py) X.env)) (fun _ s'=>SP X pins D .next s') (.ref s2.heap.objs.size) (s2.heap.objs.size+1)) I2 cs ho hc T st2 f2 hb'.1 (gk _) hb'.2.1 hb'.2.2 (rd _) (fun ys H' s' B q=>by
  show wpAny _ X.A (assign (.Name y py) X.env (.ref s2.heap.objs.size)) _ _ s';refine wpAny_assign_Name (V8 (v:= .ref s2.heap.objs.size) B.inv hnd hi' (.inl hy) rfl (fun s'' I'' ⟨a,sb,ha⟩ => ?_) (.inr hy))
  have hne:s2.heap.objs.size+1≠a:=by
   rcases ha with ha | ha
   . rw [ha];exact B.cl
   . exact (B.cc y a ha).symm
  obtain ⟨m,hm⟩:=B.ns;refine ⟨m,hm.sameBut sb hne,fun h' hsb=> ?_⟩;exact ⟨_,_,I''.turned (it:=s2.heap.objs.size+1) (fun b o hb e=>hsb.extBut b o hb e) B.cfree B.cl (.inr B.cn) B.cc B.cp,q⟩)
 have sz:(s2.heap.push JF).objs.size=s2.heap.objs.size+1:=D1 ..;show codeAny _ _ (.compStart _ 0 (.ref it) (.ref s2.heap.objs.size) {newEnv sc (s2.heap.push JF).objs.size X.env.globals (cellsFrom ((s2.heap.push JF).objs.size+1) sc.names (HY X.env.cells sc.names [])) X.env.qual none .none (some X.env) builtinsNs with scope:=relabel sc X.env}) (compPost _ _ _ _ _ (.ref s2.heap.objs.size) (s2.heap.push JF).objs.size) _;rw [sz,S2,ho];exact rb
end
end Tf
namespace Tf
open PySem PySem.Spec PyProof.Rows L2
def Itz(K:PySem.W.Frag)(a b:Addr):It:=
 ⟨fun i H=>∃xs ys x y,SqL K H a xs/\SqL K H b ys/\xs[i]? = some x/\ys[i]? = some y,
  fun i H v H'=>∃p x y,H p=none/\v = .ref p/\H'=upd H p (.tup [x,y])/\(∀xs,SqL K H a xs->xs[i]? = some x)/\(∀ys,SqL K H b ys->ys[i]? = some y),
  fun i H=>∃xs ys,SqL K H a xs/\SqL K H b ys/\(xs.length<=i\/ys.length<=i)⟩
def A04(z TI TO i1 i2 l1 l2:Addr)(i:Nat)(h:Heap):Prop:=IsZip h z TI TO .none/\IsPair h TI (.ref i1) (.ref i2)/\(∃a b,IsPair h TO a b)/\h.IsListIter i1 l1 i/\h.IsListIter i2 l2 i
theorem mV {P : Program} {w : World} {K : PySem.W.Frag} {elts : List Expr} {k : Nat} {pos : Pos} {z TI TO i1 i2 l1 l2 : Addr} (D : ZipApart z TI TO i1 i2 l1 l2) :
 Turn P w K (.Tuple elts k pos) (Itz K l1 l2) [z,TI,TO,i1,i2] z (A04 z TI TO i1 i2 l1 l2) where
 mem:=by simp
 obj:=fun i h st b hb=>by
  obtain ⟨h1,h2,⟨a,c,h3⟩,⟨o4,h4,_,d4⟩,⟨o5,h5,_,d5⟩⟩:=st;simp only [AN,BN,FJ] at hb
  rcases hb with rfl | rfl | rfl | rfl | rfl
  . exact ⟨_,h1,fun v e=>(nomatch e)⟩
  . exact ⟨_,h2,fun v e=>(nomatch e)⟩
  . exact ⟨_,h3,fun v e=>(nomatch e)⟩
  . exact ⟨_,h4,fun v e=>by rw [d4] at e;cases e⟩
  . exact ⟨_,h5,fun v e=>by rw [d5] at e;cases e⟩
 keep:=fun i h h' st kk=>by
  obtain ⟨h1,h2,⟨a,c,h3⟩,h4,h5⟩:=st;exact ⟨kk z (by simp) _ h1,kk TI (by simp) _ h2,⟨a,c,kk TO (by simp) _ h3⟩,h4.at fun o e=>kk i1 (by simp) o e,h5.at fun o e=>kk i2 (by simp) o e⟩
 item:=by
  intro X hP hw hK hc i pins s σ H E I hf st hg;subst hP hw hK;obtain ⟨h1,h2,⟨a,c,h3⟩,h4,h5⟩:=st;obtain ⟨xs,ys,x,y,q1,q2,hx,hy⟩:=hg;obtain ⟨its,rv,p,hz⟩:=I.list q1;obtain ⟨jts,rw',p',hz'⟩:=I.list q2;obtain ⟨u,hu,ru⟩:=rv.get hx;obtain ⟨u',hu',ru'⟩:=rw'.get hy;have ltS:∀ {h:Heap} {b:Addr} {o:Obj},h.get? b=some o -> @LT.lt Nat _ b h.objs.size:=fun e=>AU e;refine wpAny_pyNext_zip_item D h1 h2 h3 h4 h5 p.isList p'.isList (x:=u) (y:=u') (by simpa using hu) (by simpa using hu') fun h' a1 a2 a3 a4 a5 a6 hk=> ?_;refine ⟨_,rfl,A67 a1 fun h'' a1' sb=> ?_⟩;have ch:∀b ∈ [z,TI,TO,i1,i2],H b=none:=fun b hb=>(hf b hb).1
  have kk:∀b o,b ∉ [z,TO,i1,i2]->s.heap.get? b=some o->h''.get? b=some o:=fun b o hb e=>by
   simp only [AN,BN,FJ,not_or] at hb
   exact sb.extBut b o hb.1 (hk b o hb.1 hb.2.1 hb.2.2.1 hb.2.2.2 e)
  have eT:h''.get? s.heap.objs.size=some {cls:= .type "tuple",data:= .seq #[u,u']}:=sb.extBut _ _ (fun e=>by have l:=ltS h1;rw [<-e] at l;omega) a5
  have sub:∀b,b ∈ [z,TO,i1,i2]->b ∈ [z,TI,TO,i1,i2]:=fun b hb=>by
   simp only [AN,BN,FJ] at hb ⊢
   rcases hb with r | r | r | r
   . exact .inl r
   . exact .inr (.inr (.inl r))
   . exact .inr (.inr (.inr (.inl r)))
   . exact .inr (.inr (.inr (.inr r)))
  have nT:H s.heap.objs.size=none:=I.hok.fresh (AF _)
  have hok1 : HOk X.prog X.w H h'' := fun b o e => (I.hok b o e).stay (fun d v hd q => kk d v (fun hm => by
   have n:=ch d (sub d hm);rcases hd with hd | hd
   . rw [hd,e] at n;cases n
   . rw [hd] at n;cases n) q) (fun _ q=>q) fun _ _ q=>q
  have hok2:HOk X.prog X.w (upd H s.heap.objs.size (.tup [x,y])) h'':=W0 hok1 nT ⟨by show 2<=sizeLine;decide,[u,u'], .cons ru (.cons ru' .nil),⟨_,eT,rfl,_,rfl⟩⟩
  have un:Un (frs X.stack) [z,TO,i1,i2] H (upd H s.heap.objs.size (.tup [x,y])) s.heap h'':=by
   refine ⟨fun b o e _ _ hx=>kk b o hx e,fun b o e _ _ hx=>⟨o.slots,kk b o hx e⟩,fun b o e n _=> ?_,fun b o e hx=>⟨o,kk b o hx e⟩,fun b zs e=> ?_,fun b o v e=> ?_,fun b ps e=>⟨#[],?_⟩⟩
   . have l:=ltS e;rw [BE (by intro q;subst q;omega)];exact n
   . rw [BE (BI e nT)];exact e
   . rw [BE (BI e nT)];exact e
   . rw [BE (BI e nT)];simpa using e
  have I2:Inv X pins σ (upd H s.heap.objs.size (.tup [x,y])) {s with heap:=h'' }:=I.call' rfl un hok2 I.bare fun b hb=>by
   obtain ⟨f0,f1,f2,f3,f4,f5⟩:=hf b (sub b hb);exact ⟨f3,f1,f4,f5⟩
  refine ⟨.ref s.heap.objs.size,_,I2,rfl,⟨s.heap.objs.size,x,y,nT,rfl,rfl,fun zs hq=> ?_,fun zs hq=> ?_⟩,⟨a1',?_,⟨_,_,sb.extBut _ _ D.TOz a2⟩,a3.extBut sb.extBut D.i1z,a4.extBut sb.extBut D.i2z⟩,fun b hb=> ?_⟩
  . rw [I.list_inj hq q1];exact hx
  . rw [I.list_inj hq q2];exact hy
  . exact sb.extBut _ _ D.TIz (hk TI _ D.TIz D.TITO D.TIi1 D.TIi2 h2)
  . have n:=ch b hb
    obtain ⟨o,e⟩:∃o,s.heap.get? b=some o:=by
     simp only [AN,BN,FJ] at hb
     rcases hb with rfl | rfl | rfl | rfl | rfl
     . exact ⟨_,h1⟩
     . exact ⟨_,h2⟩
     . exact ⟨_,h3⟩
     . obtain ⟨o,e,_⟩:=h4;exact ⟨o,e⟩
     . obtain ⟨o,e,_⟩:=h5;exact ⟨o,e⟩
    have l:=ltS e;rw [BE (by intro q;subst q;omega)];exact n
 done:=by
  intro X hP hw hK hc i pins s σ H E I hf st hg;subst hP hw hK;obtain ⟨h1,h2,⟨a,c,h3⟩,h4,h5⟩:=st;obtain ⟨xs,ys,q1,q2,he⟩:=hg;obtain ⟨its,rv,p,hz⟩:=I.list q1;obtain ⟨jts,rw',p',hz'⟩:=I.list q2;have l1:=rv.length;have l2:=rw'.length
  refine wpAny_pyNext_zip_end (I.ok.hd hc) D h1 h2 h3 h4 h5 p.isList p'.isList (by rcases he with e | e; · left; simp; omega
                                                                                   . right;simp;omega) fun h' hk=>⟨rfl,?_⟩
  have ch:∀b ∈ [z,TI,TO,i1,i2],H b=none:=fun b hb=>(hf b hb).1
  have sub:∀b,b ∈ [z,TO,i1,i2]->b ∈ [z,TI,TO,i1,i2]:=fun b hb=>by
   simp only [AN,BN,FJ] at hb ⊢
   rcases hb with r | r | r | r
   . exact .inl r
   . exact .inr (.inr (.inl r))
   . exact .inr (.inr (.inr (.inl r)))
   . exact .inr (.inr (.inr (.inr r)))
  have kk:∀b o,b ∉ [z,TO,i1,i2]->s.heap.get? b=some o->h'.get? b=some o:=fun b o hb e=>by
   simp only [AN,BN,FJ,not_or] at hb
   exact hk b o hb.1 hb.2.1 hb.2.2.1 hb.2.2.2 e
  have hok1 : HOk X.prog X.w H h' := fun b o e => (I.hok b o e).stay (fun d v hd q => kk d v (fun hm => by
   have n:=ch d (sub d hm);rcases hd with hd | hd
   . rw [hd,e] at n;cases n
   . rw [hd] at n;cases n) q) (fun _ q=>q) fun _ _ q=>q
  have un:Un (frs X.stack) [z,TO,i1,i2] H H s.heap h' :=
   ⟨fun b o e _ _ hx=>kk b o hx e,fun b o e _ _ hx=>⟨o.slots,kk b o hx e⟩,fun b o e n _=>n,fun b o e hx=>⟨o,kk b o hx e⟩,fun b zs e=>e,fun b o v e=>e,fun b ps e=>⟨#[],by simpa using e⟩⟩
  exact I.call' rfl un hok1 I.bare fun b hb=>by
   obtain ⟨f0,f1,f2,f3,f4,f5⟩:=hf b (sub b hb);exact ⟨f3,f1,f4,f5⟩
 self:=fun _ _ _ _ _ st h=>R7 st.1 h
section
variable {X:Cx}
theorem XL(hc:X.calm=true):KN X (.builtin "sum") (fun xs H Q=>∃p ns,xs = [.ref p]/\SqL X.K H p (ns.map V.int)/\Q (.int (List.sum ns)) H):=by
 intro pins s σ H xs us Q I r h;obtain ⟨p,ns,rfl,hq,q⟩:=h;obtain ⟨u,rfl,ru⟩:=J7 r
 cases (show u=Value.ref p from ru)
 obtain ⟨its,rv,pl,hz⟩:=I.list hq;have hi:=ZR rv;obtain ⟨zs,ez⟩:=hi.allInts.items;have hl:s.heap.IsList p (intItems zs):=ez ▸ pl.isList
 have en:preSum (numAt zs) zs.size=ns.sum:=by
  rw [preSum_eq,BX (by simp)];have:=hi.numsOf;rw [<-this];have e2:its=(intItems zs).toList:=by rw [<-ez]
  rw [e2,nums_intItems]
 refine sum_intListG (I.ok.hd hc) hl fun h' tk t' hk=> ?_;rw [en];exact ⟨.int ns.sum,H,I.kept hk,⟨t',rfl⟩,q⟩
section
variable {K:PySem.W.Frag} {σ0:L2.St} {g:TG} {tt:TT} {te:TE} {H:Hp} {Q:VK}
theorem Reps.snoc{vs:List V}{ds:List PyData}{v:V}{d:PyData}(h:Reps K H vs ds)(k:Rep K H v d):Reps K H (vs ++ [v]) (ds ++ [d]):=by
 induction vs generalizing ds with
 | nil=>cases h;exact .cons k .nil
 | cons x xs ih=>cases h with | cons a b=>exact .cons a (ih b)
theorem Reps.get:∀ {vs:List V} {ds:List PyData} {i:Nat} {d:PyData},Reps K H vs ds->ds[i]? = some d->∃v,vs[i]? = some v/\Rep K H v d
 | _,_,_,_, .nil,e=>by simp at e
 | _,_,0,_, .cons r _,e=>by simp at e;subst e;exact ⟨_,rfl,r⟩
 | _,_,i+1,d, .cons _ t,e=>by
  obtain ⟨u,h1,h2⟩:=Reps.get (i:=i) (d:=d) t (by simpa using e);exact ⟨u,by simpa using h1,h2⟩
end
end
end Tf
namespace Dm
open PySem PySem.Spec PyProof.Rows L2 Tf
inductive Sl where
 | val (d:PyData)
 | own (ds:List PyData)
 | dct (kvs:List (PyData×PyData))
def Sl.dat:Sl->PyData
 | .val d=>d
 | .own ds=> .list ds
 | .dct kvs=> .dict kvs
abbrev En:=List (Option Sl)
theorem UE{H0 H:Hp}{p:Addr}{o:HO}(h:Same H0 H):Same (upd H0 p o) (upd H p o):=fun b u e=>by
 by_cases hb:b=p
 . subst hb;rw [BZ] at e ⊢;exact e
 . rw [BE hb] at e ⊢;exact h b u e
def Mu:HO->Prop
 | .tup _=>False
 | _=>True
structure Ext (H0 H H0' H':Hp):Prop where
 s:Same H H'
 s0:Same H0 H0'
 s1:Same H0' H'
 own:∀a o,H a=some o->Mu o->H0 a=none->H0' a=none
theorem Ext.refl{H0 H:Hp}(h:Same H0 H):Ext H0 H H0 H:=⟨Same.refl _,Same.refl _,h,fun _ _ _ _ h=>h⟩
theorem Ext.trans{H0 H H1 J1 H2 J2:Hp}(a:Ext H0 H H1 J1)(b:Ext H1 J1 H2 J2):Ext H0 H H2 J2:=
 ⟨a.s.trans b.s,a.s0.trans b.s0,b.s1,fun x o h m h0=>b.own x o (a.s x o h) m (a.own x o h m h0)⟩
theorem Ext.chain{S0 HB H0 H H1 J1:Hp}(a:Ext S0 HB H0 H)(b:Ext H0 H H1 J1):Ext S0 HB H1 J1:=
 ⟨a.s.trans b.s,a.s0.trans b.s0,b.s1,fun x o h m h0=>b.own x o (a.s x o h) m (a.own x o h m h0)⟩
theorem Ext.rebase{S0 HB H0 H:Hp}(a:Ext S0 HB H0 H):Ext H0 HB H0 H:=⟨a.s,Same.refl _,a.s1,fun _ _ _ _ h=>h⟩
theorem Ext.unbase{S0 HB H0 H H1 J1:Hp}(a:Ext S0 HB H0 H)(b:Ext H0 HB H1 J1):Ext S0 HB H1 J1:=
 ⟨b.s,a.s0.trans b.s0,b.s1,fun x o h m h0=>b.own x o h m (a.own x o h m h0)⟩
theorem Ext.alloc{H0 H:Hp}{p:Addr}(h:Same H0 H)(hp:H p=none)(o:HO):Ext H0 H H0 (upd H p o) :=
 ⟨Same.upd hp o,Same.refl _,h.trans (Same.upd hp o),fun _ _ _ _ h=>h⟩
theorem Ext.allocF{H0 H:Hp}{p:Addr}(h:Same H0 H)(hp:H p=none)(o:HO):Ext H0 H (upd H0 p o) (upd H p o) :=
 ⟨Same.upd hp o,Same.upd (h.free hp) o,UE h,fun a o' ha _ h0=>by rw [BE (BI ha hp)];exact h0⟩
section
variable {K:PySem.W.Frag}
def DctR(K:PySem.W.Frag)(H0:Hp)(t:List (List Key×V))(kvs:List (PyData×PyData)):Prop:=∃(ks:List (List Key)) (xs:List V) (ds:List PyData),t=ks.zip xs/\ks.length=xs.length/\Reps K H0 xs ds/\kvs=(ks.map tupD).zip ds
theorem DctR.same{H0 H0':Hp}{t:List (List Key×V)}{kvs:List (PyData×PyData)}(s:Same H0 H0')(h:DctR K H0 t kvs):DctR K H0' t kvs:=by
 obtain ⟨ks,xs,ds,e1,e2,e3,e4⟩:=h;exact ⟨ks,xs,ds,e1,e2,Reps.same s e3,e4⟩
theorem DctR.rep{H:Hp}{a:Addr}{t:List (List Key×V)}{kvs:List (PyData×PyData)}(h:DctR K H t kvs)(e:H a=some (.dT t)):Rep K H (.ref a) (.dict kvs):=by
 obtain ⟨ks,xs,ds,rfl,e2,e3,rfl⟩:=h;exact .dict (.inl e) e2 e3
def SlP(K:PySem.W.Frag)(H0 H:Hp)(v:V):Sl->Prop
 | .val d=>Rep K H0 v d
 | .own ds=>∃a vs,v = .ref a/\H a=some (.lst vs)/\Reps K H0 vs ds
 | .dct kvs=>∃a t,v = .ref a/\H a=some (.dT t)/\DctR K H0 t kvs
def SlH(K:PySem.W.Frag)(HB H0 H:Hp)(v:V):Sl->Prop
 | .val d=>Rep K H0 v d
 | .own ds=>∃a vs,v = .ref a/\HB a=none/\H0 a=none/\H a=some (.lst vs)/\Reps K H0 vs ds
 | .dct kvs=>∃a t,v = .ref a/\HB a=none/\H0 a=none/\H a=some (.dT t)/\DctR K H0 t kvs
theorem SlH.p{HB H0 H:Hp}{v:V}:∀ {s:Sl},SlH K HB H0 H v s->SlP K H0 H v s
 | .val _,h=>h
 | .own _,⟨a,vs,e,_,_,h1,h2⟩=>⟨a,vs,e,h1,h2⟩
 | .dct _,⟨a,vs,e,_,_,h1,h2⟩=>⟨a,vs,e,h1,h2⟩
theorem SlH.base{HB HB' H0 H:Hp}{v:V}(s:Same HB HB'):∀ {r:Sl},SlH K HB' H0 H v r->SlH K HB H0 H v r
 | .val _,h=>h
 | .own _,⟨a,vs,e,h0,h1,h2,h3⟩=>⟨a,vs,e,s.free h0,h1,h2,h3⟩
 | .dct _,⟨a,vs,e,h0,h1,h2,h3⟩=>⟨a,vs,e,s.free h0,h1,h2,h3⟩
theorem SlH.ext{HB H0 H H0' H':Hp}{v:V}(x:Ext H0 H H0' H'):∀ {r:Sl},SlH K HB H0 H v r->SlH K HB H0' H' v r
 | .val _,h=>Rep.same x.s0 h
 | .own _,⟨a,vs,e,h0,h1,h2,h3⟩=>⟨a,vs,e,h0,x.own a _ h2 CM h1,x.s _ _ h2,Reps.same x.s0 h3⟩
 | .dct _,⟨a,vs,e,h0,h1,h2,h3⟩=>⟨a,vs,e,h0,x.own a _ h2 CM h1,x.s _ _ h2,h3.same x.s0⟩
theorem SlP.ext{H0 H H0' H':Hp}{v:V}(x:Ext H0 H H0' H'):∀ {r:Sl},SlP K H0 H v r->SlP K H0' H' v r
 | .val _,h=>Rep.same x.s0 h
 | .own _,⟨a,vs,e,h2,h3⟩=>⟨a,vs,e,x.s _ _ h2,Reps.same x.s0 h3⟩
 | .dct _,⟨a,vs,e,h2,h3⟩=>⟨a,vs,e,x.s _ _ h2,h3.same x.s0⟩
theorem SlP.rep{H0 H:Hp}{v:V}(s:Same H0 H):∀ {r:Sl},SlP K H0 H v r->Rep K H v r.dat
 | .val _,h=>Rep.same s h
 | .own _,⟨a,vs,e,h2,h3⟩=>by subst e;exact .list (SqL.of h2) (Reps.same s h3)
 | .dct _,⟨a,vs,e,h2,h3⟩=>by subst e;exact (h3.same s).rep h2
theorem SlP.lst{H0 H:Hp}{v:V}{ds:List PyData}(s:Same H0 H):∀ {r:Sl},SlP K H0 H v r->r.dat = .list ds->∃a vs,v = .ref a/\SqL K H a vs/\Reps K H0 vs ds
 | .val _,h,e=>by
  cases h with
  | list h1 h2=>cases e;exact ⟨_,_,rfl,s.seq h1,h2⟩
  | _=>cases e
 | .own _,⟨a,vs,e,h2,h3⟩,e2=>by cases e2;exact ⟨a,vs,e,SqL.of h2,h3⟩
 | .dct _,_,e2=>by cases e2
theorem SlP.tup{H0 H:Hp}{v:V}{ds:List PyData}:∀ {r:Sl},SlP K H0 H v r->r.dat = .tuple ds->∃a vs,v = .ref a/\H0 a=some (.tup vs)/\Reps K H0 vs ds
 | .val _,h,e=>by
  cases h with
  | tuple h1 h2=>cases e;exact ⟨_,_,rfl,h1,h2⟩
  | _=>cases e
 | .own _,_,e=>by cases e
 | .dct _,_,e=>by cases e
theorem SlP.int{H0 H:Hp}{v:V}{i:Int}(h:SlP K H0 H v (.val (.int i))):v = .int i:=by cases (show Rep K H0 v (.int i) from h);rfl
theorem SlP.bool{H0 H:Hp}{v:V}{i:Bool}(h:SlP K H0 H v (.val (.bool i))):v = .bl i:=by cases (show Rep K H0 v (.bool i) from h);rfl
theorem SlP.none{H0 H:Hp}{v:V}(h:SlP K H0 H v (.val .none)):v = .non:=by cases (show Rep K H0 v .none from h);rfl
theorem qJ{H:Hp}{v:V}{d:PyData}(h:Rep K H v d):v = .non↔d = .none:=by
 cases h <;> simp
structure ER (K:PySem.W.Frag) (HB H0 H:Hp) (σ:L2.St) (ρ:En):Prop where
 len:σ.length=ρ.length
 get:∀(i:Nat) s,ρ[i]? = some (some s)->∃v,σ[i]? = some (some v)/\SlH K HB H0 H v s
 apart:∀(i j:Nat) a ds es,i≠j->ρ[i]? = some (some (.own ds))->ρ[j]? = some (some (.own es))->σ[i]? = some (some (.ref a))->σ[j]? ≠ some (some (.ref a))
theorem ER.ext{HB H0 H H0' H':Hp}{σ:L2.St}{ρ:En}(x:Ext H0 H H0' H')(e:ER K HB H0 H σ ρ):ER K HB H0' H' σ ρ:=
 ⟨e.len,fun i s h=>by obtain ⟨v,h1,h2⟩:=e.get i s h;exact ⟨v,h1,h2.ext x⟩,e.apart⟩
structure Rl where
 r:Hp->Hp->Hp->L2.St->En->Prop
 slot:Nat->Prop
structure ST (R:Rl) (HB H0 H:Hp) (σ:L2.St) (ρ:En):Prop where
 r:R.r HB H0 H σ ρ
class RelOk (K:outParam PySem.W.Frag) (R:Rl):Prop where
 ext:∀ {HB H0 H H0' H':Hp} {σ:L2.St} {ρ:En},Ext H0 H H0' H'->R.r HB H0 H σ ρ->R.r HB H0' H' σ ρ
 get:∀ {HB H0 H:Hp} {σ:L2.St} {ρ:En} {i:Nat} {s:Sl},R.r HB H0 H σ ρ->R.slot i->ρ[i]? = some (some s)->∃v,σ[i]? = some (some v)/\SlH K HB H0 H v s
 set:∀ {HB H0 H H0' H':Hp} {σ:L2.St} {ρ:En} {i:Nat} {v:V} {s:Sl},R.r HB H0 H σ ρ->R.slot i->Ext H0 H H0' H'->Same HB H->SlH K H H0' H' v s->R.r HB H0' H' (σ.set i (some v)) (ρ.set i (some s))
 write:∀ {HB H0 H:Hp} {σ:L2.St} {ρ:En} {i:Nat} {a:Addr} {ds es:List PyData} {vs ys:List V},R.r HB H0 H σ ρ->R.slot i->ρ[i]? = some (some (.own ds))->σ[i]? = some (some (.ref a))->HB a=none->H0 a=none->H a=some (.lst vs)->Reps K H0 ys es->R.r HB H0 (upd H a (.lst ys)) σ (ρ.set i (some (.own es)))
 frz:∀ {S0 HB H0 H:Hp} {σ:L2.St} {ρ:En} {i:Nat} {ds:List PyData},R.r HB H0 H σ ρ->R.slot i->ρ[i]? = some (some (.own ds))->Ext S0 HB H0 H->∃H0',Ext S0 HB H0' H/\R.r HB H0' H σ (ρ.set i (some (.val (.list ds))))
theorem ST.ext{R:Rl} [RelOk K R] {HB H0 H H0' H':Hp} {σ:L2.St} {ρ:En} (x:Ext H0 H H0' H') (e:ST R HB H0 H σ ρ):ST R HB H0' H' σ ρ:=⟨RelOk.ext (K:=K) x e.r⟩
def PR(K:PySem.W.Frag):Rl:=⟨ER K,fun _=>True⟩
variable {R:Rl} [RelOk K R]
def RX{α:Type}(K:PySem.W.Frag)(R:Rl)(P:Hp->Hp->Hp->V->α->Prop)(te:TE)(f:En->Option α):Prop:=
 ∀(HB:Hp) (σ:L2.St) (ρ:En) (H0 H:Hp),Same H0 H->ST R HB H0 H σ ρ->∀r,f ρ=some r->∀Q:VK,(∀v H0' H',Ext H0 H H0' H'->P H H0' H' v r->Q v H')->te σ H Q
abbrev RE (K:PySem.W.Frag) (R:Rl):TE->(En->Option Sl)->Prop:=RX K R (fun H H0' H' v r=>SlH K H H0' H' v r)
abbrev RP (K:PySem.W.Frag) (R:Rl):TE->(En->Option Sl)->Prop:=RX K R (fun _ H0' H' v r=>SlP K H0' H' v r)
abbrev RV (K:PySem.W.Frag) (R:Rl):TE->(En->Option PyData)->Prop:=RX K R (fun _ H0' _ v d=>Rep K H0' v d)
def RT(K:PySem.W.Frag)(R:Rl)(tt:TT)(f:En->Option Bool):Prop:=
 ∀(HB:Hp) (σ:L2.St) (ρ:En) (H0 H:Hp),Same H0 H->ST R HB H0 H σ ρ->∀b,f ρ=some b->∀Q:Bool->Hp->Prop,(∀H0' H',Ext H0 H H0' H'->Q b H')->tt σ H Q
def RA(K:PySem.W.Frag)(R:Rl)(ta:TA)(f:En->Option (List PyData)):Prop:=
 ∀(HB:Hp) (σ:L2.St) (ρ:En) (H0 H:Hp),Same H0 H->ST R HB H0 H σ ρ->∀ds,f ρ=some ds->∀Q:List V->Hp->Prop,(∀vs H0' H',Ext H0 H H0' H'->Reps K H0' vs ds->Q vs H')->ta σ H Q
def RQ(K:PySem.W.Frag)(R:Rl)(ta:TA)(f:En->Option (List Sl)):Prop:=
 ∀(HB:Hp) (σ:L2.St) (ρ:En) (H0 H:Hp),Same H0 H->ST R HB H0 H σ ρ->∀ss,f ρ=some ss->∀Q:List V->Hp->Prop,(∀vs H0' H',Ext H0 H H0' H'->Paired (SlP K H0' H') vs ss->Q vs H')->ta σ H Q
theorem RE.rp{te:TE}{f:En->Option Sl}(h:RE K R te f):RP K R te f:=fun HB σ ρ H0 H s e r hr Q q=>h HB σ ρ H0 H s e r hr Q fun v H0' H' x p=>q v H0' H' x p.p
theorem cV{H0 H H0' H':Hp}{a:Addr}{w:HO}(x:Ext H0 H H0' H')(hn:H a=none)(h1:H0' a=none)(h2:H' a=some w):Ext H0 H (upd H0' a w) H' :=
 ⟨x.s,x.s0.trans (Same.upd h1 _),fun b u e=>by
  by_cases hb:b=a
  . subst hb;rw [BZ] at e;rw [h2];exact e
  . rw [BE hb] at e;exact x.s1 b u e,fun b o hb m h0=>by
  rw [BE (BI hb hn)];exact x.own b o hb m h0⟩
def mDat(f:En->Option Sl):En->Option PyData:=fun ρ=>(f ρ).map Sl.dat
theorem RE.rv{te:TE}{f:En->Option Sl}(h:RE K R te f):RV K R te (mDat f):=fun HB σ ρ H0 H s e d hd Q q=>by
 obtain ⟨r,hr,rfl⟩:=AG.mp hd;refine h HB σ ρ H0 H s e r hr Q fun v H0' H' x p=> ?_
 cases r with
 | val d=>exact q v H0' H' x p
 | own ds=>
  obtain ⟨a,vs,rfl,hn,h1,h2,h3⟩:=p
  exact q _ _ _ (cV x hn h1 h2) (.list (SqL.of BZ) (Reps.same (Same.upd h1 _) h3))
 | dct kvs=>
  obtain ⟨a,t,rfl,hn,h1,h2,h3⟩:=p;exact q _ _ _ (cV x hn h1 h2) ((h3.same (Same.upd h1 _)).rep BZ)
def mPk(i:Nat):En->Option Sl:=fun ρ=>(ρ[i]?).join
def mVar(i:Nat):En->Option Sl:=fun ρ=>match (ρ[i]?).join with
 | some (.val d)=>some (.val d)
 | _=>none
def mK(d:PyData):En->Option Sl:=fun _=>some (.val d)
theorem join_some{α:Type}{o:Option (Option α)}{a:α}(h:o.join=some a):o=some (some a):=by
 cases o with
 | none=>cases h
 | some b=>exact KZ some h
theorem yD(i:Nat)(hs:R.slot i):RP K R (ZH i) (mPk i):=fun HB σ ρ H0 H s e r hr Q q=>by
 obtain ⟨v,h1,h2⟩:=RelOk.get (K:=K) e.r hs (join_some hr);exact ⟨v,h1,q v H0 H (Ext.refl s) h2.p⟩
theorem vL(i:Nat)(hs:R.slot i):RE K R (ZH i) (mVar i):=fun HB σ ρ H0 H s e r hr Q q=>by
 unfold mVar at hr
 cases ej:(ρ[i]?).join with
 | none=>rw [ej] at hr;cases hr
 | some r' =>
  rw [ej] at hr
  cases r' with
  | own _=>cases hr
  | dct _=>cases hr
  | val d=>
   cases hr
   obtain ⟨v,h1,h2⟩:=RelOk.get (K:=K) e.r hs (join_some ej);exact ⟨v,h1,q v H0 H (Ext.refl s) h2⟩
theorem oZ{v:V}{d:PyData}(h:∀H0:Hp,Rep K H0 v d):RE K R (tC v) (mK d):=fun HB σ ρ H0 H s e r hr Q q=>by
 cases hr
 exact q v H0 H (Ext.refl s) (h H0)
def OpD(K:PySem.W.Frag)(r:R2)(op:Sl->Sl->Option Sl):Prop:=
 ∀(H0 H:Hp) (x y:V) (sx sy z:Sl),Same H0 H->SlP K H0 H x sx->SlP K H0 H y sy->op sx sy=some z->∀Q:VK,(∀v H0' H',Ext H0 H H0' H'->SlH K H H0' H' v z->Q v H')->r x y H Q
def UnD(K:PySem.W.Frag)(r:V->Hp->VK->Prop)(op:Sl->Option Sl):Prop:=
 ∀(H0 H:Hp) (x:V) (sx z:Sl),Same H0 H->SlP K H0 H x sx->op sx=some z->∀Q:VK,(∀v H0' H',Ext H0 H H0' H'->SlH K H H0' H' v z->Q v H')->r x H Q
def mBin(op:Sl->Sl->Option Sl)(fa fb:En->Option Sl):En->Option Sl:=fun ρ=>(fa ρ).bind fun a=>(fb ρ).bind fun b=>op a b
def mUn(op:Sl->Option Sl)(fa:En->Option Sl):En->Option Sl:=fun ρ=>(fa ρ).bind op
theorem WK{r:R2}{op:Sl->Sl->Option Sl}{ta tb:TE}{fa fb:En->Option Sl}(ho:OpD K r op)(ha:RP K R ta fa)(hb:RP K R tb fb):RE K R (tOp r ta tb) (mBin op fa fb):=fun HB σ ρ H0 H s e z hz Q q=>by
 obtain ⟨x,hx,hz⟩:=A3.mp hz;obtain ⟨y,hy,hz⟩:=A3.mp hz;refine ha HB σ ρ H0 H s e x hx _ fun v H1 J1 x1 p1=> ?_;refine hb HB σ ρ H1 J1 x1.s1 (e.ext (K:=K) x1) y hy _ fun u H2 J2 x2 p2=> ?_;exact ho H2 J2 v u x y z x2.s1 (p1.ext x2) p2 hz Q fun w H3 J3 x3 p3=>q w H3 J3 ((x1.trans x2).trans x3) (p3.base (x1.trans x2).s)
theorem A51{r:V->Hp->VK->Prop}{op:Sl->Option Sl}{ta:TE}{fa:En->Option Sl}(ho:UnD K r op)(ha:RP K R ta fa):RE K R (tUn r ta) (mUn op fa):=fun HB σ ρ H0 H s e z hz Q q=>by
 obtain ⟨x,hx,hz⟩:=A3.mp hz;refine ha HB σ ρ H0 H s e x hx _ fun v H1 J1 x1 p1=> ?_;exact ho H1 J1 v x z x1.s1 p1 hz Q fun w H3 J3 x3 p3=>q w H3 J3 (x1.trans x3) (p3.base x1.s)
def iop(g:Int->Int->Int):Sl->Sl->Option Sl
 | .val (.int i), .val (.int j)=>some (.val (.int (g i j)))
 | _,_=>none
open Classical in
noncomputable def YS(C:Int->Int->Prop)(g:Int->Int->Int):Sl->Sl->Option Sl
 | .val (.int i), .val (.int j)=>if C i j then some (.val (.int (g i j))) else none
 | _,_=>none
def icmp(g:Int->Int->Bool):Sl->Sl->Option Sl
 | .val (.int i), .val (.int j)=>some (.val (.bool (g i j)))
 | _,_=>none
def iun(g:Int->Int):Sl->Option Sl
 | .val (.int i)=>some (.val (.int (g i)))
 | _=>none
theorem qW{g:Int->Int->Int}:OpD K (rI0 fun i j=> .int (g i j)) (iop g):=fun H0 H x y sx sy z s px py hz Q q=>by
 unfold iop at hz
 split at hz
 . cases hz
   exact ⟨_,_,px.int,py.int,q _ _ _ (Ext.refl s) (.int _)⟩
 . cases hz
theorem SN{C:Int->Int->Prop}{g:Int->Int->Int}:OpD K (rI C fun i j=> .int (g i j)) (YS C g):=fun H0 H x y sx sy z s px py hz Q q=>by
 unfold YS at hz
 split at hz
 . split at hz
   . rename_i hc
     cases hz
     exact ⟨_,_,px.int,py.int,hc,q _ _ _ (Ext.refl s) (.int _)⟩
   . cases hz
 . cases hz
theorem L9{g:Int->Int->Bool}:OpD K (rI0 fun i j=> .bl (g i j)) (icmp g):=fun H0 H x y sx sy z s px py hz Q q=>by
 unfold icmp at hz
 split at hz
 . cases hz
   exact ⟨_,_,px.int,py.int,q _ _ _ (Ext.refl s) (.bool _)⟩
 . cases hz
theorem rF{g:Int->Int}:UnD K (rU fun i=> .int (g i)) (iun g):=fun H0 H x sx z s px hz Q q=>by
 unfold iun at hz
 split at hz
 . cases hz
   exact ⟨_,px.int,q _ _ _ (Ext.refl s) (.int _)⟩
 . cases hz
def eqD(a b:PyData):Option Bool:=if a.canLay0=true/\b.canLay0=true/\min a.depth b.depth<=60 then some (PyData.eqv a b) else none
def deq:Sl->Sl->Option Sl:=fun a b=>(eqD a.dat b.dat).map fun k=> .val (.bool k)
def dne:Sl->Sl->Option Sl:=fun a b=>(eqD a.dat b.dat).map fun k=> .val (.bool (!k))
theorem lL:OpD K (A35 K) deq:=fun H0 H x y sx sy z s px py hz Q q=>by
 obtain ⟨k,hk,rfl⟩:=Option.map_eq_some_iff.mp hz;unfold eqD at hk
 split at hk
 . rename_i hc
   cases hk
   exact ⟨_,_,px.rep s,py.rep s,hc.1,hc.2.1,hc.2.2,q _ _ _ (Ext.refl s) (.bool _)⟩
 . cases hk
theorem jC:OpD K (A39 K) dne:=fun H0 H x y sx sy z s px py hz Q q=>by
 obtain ⟨k,hk,rfl⟩:=Option.map_eq_some_iff.mp hz;unfold eqD at hk
 split at hk
 . rename_i hc
   cases hk
   exact ⟨_,_,px.rep s,py.rep s,hc.1,hc.2.1,hc.2.2,q _ _ _ (Ext.refl s) (.bool _)⟩
 . cases hk
def isNone:PyData->Bool
 | .none=>true
 | _=>false
def disN:Sl->Sl->Option Sl
 | a, .val .none=>some (.val (.bool (isNone a.dat)))
 | _,_=>none
def disNN:Sl->Sl->Option Sl
 | a, .val .none=>some (.val (.bool (!isNone a.dat)))
 | _,_=>none
theorem hE{H0 H:Hp}{v:V}{r:Sl}(s:Same H0 H)(p:SlP K H0 H v r):decide (v = .non)=isNone r.dat:=by
 have h:=qJ (p.rep s)
 cases e:r.dat <;> simp_all [isNone]
theorem oE:OpD K (fun x y H Q=>y = .non/\Q (.bl (decide (x = .non))) H) disN:=fun H0 H x y sx sy z s px py hz Q q=>by
 unfold disN at hz
 split at hz
 . cases hz
   refine ⟨py.none,?_⟩;rw [hE s px];exact q _ _ _ (Ext.refl s) (.bool _)
 . cases hz
def dix:Sl->Sl->Option Sl
 | a, .val (.int i)=>match a.dat with
  | .list ds=>(atI ds i).map .val
  | .tuple ds=>(atI ds i).map .val
  | _=>none
 | _,_=>none
theorem Reps.atI{H:Hp}{vs:List V}{ds:List PyData}{i:Int}{d:PyData}(h:Reps K H vs ds)(e:atI ds i=some d):∃v,atI vs i=some v/\Rep K H v d:=by
 unfold L2.atI at e ⊢
 rw [h.length]
 cases ej:ixN ds.length i with
 | none=>rw [ej] at e;cases e
 | some j=>
  rw [ej] at e
  obtain ⟨v,h1,h2⟩:=Tf.Reps.get h (show ds[j]? = some d from e);exact ⟨v,h1,h2⟩
theorem xW:OpD K (rIx K) dix:=fun H0 H x y sx sy z s px py hz Q q=>by
 unfold dix at hz
 split at hz
 . split at hz
   . rename_i i ds hd;obtain ⟨d,he,rfl⟩:=AG.mp hz;obtain ⟨a,vs,rfl,h1,h2⟩:=px.lst s hd;obtain ⟨v,h3,h4⟩:=Reps.atI h2 he;exact .inl ⟨a,vs,_,v,rfl,py.int,h1,h3,q _ _ _ (Ext.refl s) h4⟩
   . rename_i i ds hd;obtain ⟨d,he,rfl⟩:=AG.mp hz;obtain ⟨a,vs,rfl,h1,h2⟩:=px.tup hd;obtain ⟨v,h3,h4⟩:=Reps.atI h2 he;exact .inr (.inl ⟨a,vs,_,v,rfl,py.int,s.seqT (SqT.of h1),h3,q _ _ _ (Ext.refl s) h4⟩)
   . cases hz
 . cases hz
end
end Dm
namespace Dm
open PySem PySem.Spec PyProof.Rows L2 Tf
section
variable {K:PySem.W.Frag} {R:Rl} [RelOk K R]
def mNil:En->Option (List PyData):=fun _=>some []
def mCons(f:En->Option Sl)(g:En->Option (List PyData)):En->Option (List PyData):=fun ρ=>(f ρ).bind fun a=>(g ρ).bind fun as=>some (a.dat::as)
theorem xN:RA K R tNil mNil:=fun HB σ ρ H0 H s e ds hd Q q=>by
 cases hd
 exact q [] H0 H (Ext.refl s) .nil
theorem pF{te:TE}{ta:TA}{f:En->Option Sl}{g:En->Option (List PyData)}(hf:RE K R te f)(hg:RA K R ta g):RA K R (MW te ta) (mCons f g):=fun HB σ ρ H0 H s e ds hd Q q=>by
 obtain ⟨a,ha,hd⟩:=A3.mp hd;obtain ⟨as,has,hd⟩:=A3.mp hd
 cases hd
 refine hf.rv HB σ ρ H0 H s e a.dat (by unfold mDat;rw [ha];rfl) _ fun v H1 J1 x1 p1=> ?_;exact hg HB σ ρ H1 J1 x1.s1 (e.ext (K:=K) x1) as has _ fun vs H2 J2 x2 p2=>q _ H2 J2 (x1.trans x2) (.cons (Rep.same x2.s0 p1) p2)
def mNilP:En->Option (List Sl):=fun _=>some []
def mConsP(f:En->Option Sl)(g:En->Option (List Sl)):En->Option (List Sl):=fun ρ=>(f ρ).bind fun a=>(g ρ).bind fun as=>some (a::as)
theorem wB:RQ K R tNil mNilP:=fun HB σ ρ H0 H s e ds hd Q q=>by
 cases hd
 exact q [] H0 H (Ext.refl s) .nil
theorem q9{te:TE}{ta:TA}{f:En->Option Sl}{g:En->Option (List Sl)}(hf:RP K R te f)(hg:RQ K R ta g):RQ K R (MW te ta) (mConsP f g):=fun HB σ ρ H0 H s e ds hd Q q=>by
 obtain ⟨a,ha,hd⟩:=A3.mp hd;obtain ⟨as,has,hd⟩:=A3.mp hd
 cases hd
 refine hf HB σ ρ H0 H s e a ha _ fun v H1 J1 x1 p1=> ?_;exact hg HB σ ρ H1 J1 x1.s1 (e.ext (K:=K) x1) as has _ fun vs H2 J2 x2 p2=>q _ H2 J2 (x1.trans x2) (.cons (p1.ext x2) p2)
def mTup(f:En->Option (List PyData)):En->Option Sl:=fun ρ=>(f ρ).bind fun ds=>if ds.length<=sizeLine then some (.val (.tuple ds)) else none
def mLst(f:En->Option (List PyData)):En->Option Sl:=fun ρ=>(f ρ).bind fun ds=>if ds.length<=sizeLine then some (.own ds) else none
theorem zB{ta:TA}{f:En->Option (List PyData)}(h:RA K R ta f):RE K R (A59 ta) (mTup f):=fun HB σ ρ H0 H s e z hz Q q=>by
 obtain ⟨ds,hd,hz⟩:=A3.mp hz
 split at hz
 . rename_i hl
   cases hz
   refine h HB σ ρ H0 H s e ds hd _ fun vs H1 J1 x1 p1=>⟨by rw [p1.length];exact hl,fun p hp=> ?_⟩;exact q _ _ _ (x1.trans (Ext.allocF x1.s1 hp _)) (.tuple BZ (Reps.same (Same.upd (x1.s1.free hp) _) p1))
 . cases hz
theorem vW{ta:TA}{f:En->Option (List PyData)}(h:RA K R ta f):RE K R (A15 ta) (mLst f):=fun HB σ ρ H0 H s e z hz Q q=>by
 obtain ⟨ds,hd,hz⟩:=A3.mp hz
 split at hz
 . rename_i hl
   cases hz
   refine h HB σ ρ H0 H s e ds hd _ fun vs H1 J1 x1 p1=>⟨by rw [p1.length];exact hl,fun p hp=> ?_⟩;exact q _ _ _ (x1.trans (Ext.alloc x1.s1 hp _)) ⟨p,vs,rfl,x1.s.free hp,x1.s1.free hp,BZ,p1⟩
 . cases hz
def spD(K:PySem.W.Frag)(F:List PyData->Option Sl):Sp:=fun vs H Q _=>∃H0 ds r,Same H0 H/\Reps K H0 vs ds/\F ds=some r/\∀v H0' H',Ext H0 H H0' H'->SlH K H H0' H' v r->Q v H'
def mCall(F:List PyData->Option Sl)(f:En->Option (List PyData)):En->Option Sl:=fun ρ=>(f ρ).bind F
theorem rD{F:List PyData->Option Sl}{E:XK}{ta:TA}{f:En->Option (List PyData)}(h:RA K R ta f):RE K R (lX (spD K F) [] E ta) (mCall F f):=fun HB σ ρ H0 H s e z hz Q q=>by
 obtain ⟨ds,hd,hz⟩:=A3.mp hz;refine h HB σ ρ H0 H s e ds hd _ fun vs H1 J1 x1 p1=> ?_;rw [EA];exact ⟨H1,ds,z,x1.s1,p1,hz,fun v H2 J2 x2 p2=>q v H2 J2 (x1.trans x2) (p2.base x1.s)⟩
def MD(K:PySem.W.Frag)(r:List V->Hp->VK->Prop)(F:List Sl->Option Sl):Prop:=
 ∀(H0 H:Hp) (vs:List V) (ss:List Sl) (z:Sl),Same H0 H->Paired (SlP K H0 H) vs ss->F ss=some z->∀Q:VK,(∀v H0' H',Ext H0 H H0' H'->SlH K H H0' H' v z->Q v H')->r vs H Q
def mCallP(F:List Sl->Option Sl)(f:En->Option (List Sl)):En->Option Sl:=fun ρ=>(f ρ).bind F
theorem YJ{r:List V->Hp->VK->Prop}{F:List Sl->Option Sl}{ta:TA}{f:En->Option (List Sl)}(hc:MD K r F)(h:RQ K R ta f):RE K R (tCB r ta) (mCallP F f):=fun HB σ ρ H0 H s e z hz Q q=>by
 obtain ⟨ss,hd,hz⟩:=A3.mp hz;refine h HB σ ρ H0 H s e ss hd _ fun vs H1 J1 x1 p1=> ?_;exact hc H1 J1 vs ss z x1.s1 p1 hz Q fun v H2 J2 x2 p2=>q v H2 J2 (x1.trans x2) (p2.base x1.s)
theorem IE{H0 H:Hp}{vs:List V}{a:Sl}(h:Paired (SlP K H0 H) vs [a]):∃v,vs = [v]/\SlP K H0 H v a:=by
 cases h with | cons h t=>cases t;exact ⟨_,rfl,h⟩
theorem rV{H0 H:Hp}{vs:List V}{a b:Sl}(h:Paired (SlP K H0 H) vs [a,b]):∃v w,vs = [v,w]/\SlP K H0 H v a/\SlP K H0 H w b:=by
 cases h with | cons h t=>cases t with | cons h2 t=>cases t;exact ⟨_,_,rfl,h,h2⟩
def dLen:List Sl->Option Sl
 | [a]=>match a.dat with
  | .list ds=>some (.val (.int ds.length))
  | .tuple ds=>some (.val (.int ds.length))
  | _=>none
 | _=>none
theorem IR:MD K (fun xs H Q=>∃p ys,xs = [.ref p]/\(SqL K H p ys\/SqT K H p ys)/\Q (.int ys.length) H) dLen:=fun H0 H vs ss z s p hz Q q=>by
 unfold dLen at hz
 split at hz
 . obtain ⟨v,rfl,pa⟩:=IE p
   split at hz
   . rename_i ds hd
     cases hz
     obtain ⟨a,vs,rfl,h1,h2⟩:=pa.lst s hd;refine ⟨a,vs,rfl, .inl h1,?_⟩;rw [h2.length];exact q _ _ _ (Ext.refl s) (.int _)
   . rename_i ds hd
     cases hz
     obtain ⟨a,vs,rfl,h1,h2⟩:=pa.tup hd;refine ⟨a,vs,rfl, .inr (s.seqT (SqT.of h1)),?_⟩;rw [h2.length];exact q _ _ _ (Ext.refl s) (.int _)
   . cases hz
 . cases hz
def dAbs:List Sl->Option Sl
 | [.val (.int i)]=>some (.val (.int (if i<0 then -i else i)))
 | _=>none
def dList:List Sl->Option Sl
 | [a]=>match a.dat with
  | .list ds=>some (.own ds)
  | .tuple ds=>some (.own ds)
  | _=>none
 | _=>none
def dTuple:List Sl->Option Sl
 | [a]=>match a.dat with
  | .list ds=>some (.val (.tuple ds))
  | .tuple ds=>some (.val (.tuple ds))
  | _=>none
 | _=>none
theorem MT:MD K (fun xs H Q=>∃p ys,xs = [.ref p]/\((SqL K H p ys/\∀l,H l=none->Q (.ref l) (upd H l (.tup ys)))\/(SqT K H p ys/\Q (.ref p) H))) dTuple:=fun H0 H vs ss z s p hz Q q=>by
 unfold dTuple at hz
 split at hz
 . obtain ⟨v,rfl,pa⟩:=IE p
   split at hz
   . rename_i ds hd
     cases hz
     obtain ⟨a,vs,rfl,h1,h2⟩:=pa.lst s hd;exact ⟨a,vs,rfl, .inl ⟨h1,fun l hl=>q _ _ _ (Ext.allocF s hl _) (.tuple BZ (Reps.same (Same.upd (s.free hl) _) h2))⟩⟩
   . rename_i ds hd
     cases hz
     obtain ⟨a,vs,rfl,h1,h2⟩:=pa.tup hd;exact ⟨a,vs,rfl, .inr ⟨s.seqT (SqT.of h1),q _ _ _ (Ext.refl s) (.tuple h1 h2)⟩⟩
   . cases hz
 . cases hz
def G0:List PyData->Option (List Int)
 | []=>some []
 | .int i::r=>(G0 r).map (i :: ·)
 | _::_=>none
theorem L7:∀ {ds:List PyData} {ns:List Int},G0 ds=some ns->ds=ns.map .int
 | [],ns,h=>by cases h;rfl
 | .int i::r,ns,h=>by
  obtain ⟨ms,h1,rfl⟩:=AG.mp (show (G0 r).map (i :: ·)=some ns from h);rw [L7 h1];rfl
theorem SO:∀ns:List Int,G0 (ns.map .int)=some ns
 | []=>rfl
 | i::r=>by show (G0 (r.map .int)).map (i :: ·)=_;rw [SO r];rfl
theorem NA{H:Hp}:∀ {vs:List V} {ns:List Int},Reps K H vs (ns.map .int)->vs=ns.map .int
 | _,[],h=>by cases h;rfl
 | _,n::r,h=>by
  cases h with
  | cons h t=>cases h;rw [NA t];rfl
def dSum:List Sl->Option Sl
 | [a]=>match a.dat with
  | .list ds=>(G0 ds).map fun ns=> .val (.int (List.sum ns))
  | _=>none
 | _=>none
theorem kD:MD K (fun xs H Q=>∃p ns,xs = [.ref p]/\SqL K H p (ns.map V.int)/\Q (.int (List.sum ns)) H) dSum:=fun H0 H vs ss z s p hz Q q=>by
 unfold dSum at hz
 split at hz
 . obtain ⟨v,rfl,pa⟩:=IE p
   split at hz
   . rename_i ds hd;obtain ⟨ns,hn,rfl⟩:=AG.mp hz;obtain ⟨a,vs,rfl,h1,h2⟩:=pa.lst s hd;rw [L7 hn] at h2
     rw [NA h2] at h1
     exact ⟨a,ns,rfl,h1,q _ _ _ (Ext.refl s) (.int _)⟩
   . cases hz
 . cases hz
def dInt:List Sl->Option Sl
 | [.val (.int i)]=>some (.val (.int i))
 | [.val (.bool k)]=>some (.val (.int (if k then 1 else 0)))
 | _=>none
theorem wI:MD K (fun xs H Q=>(∃i,xs = [.int i]/\Q (.int i) H)\/∃k,xs = [.bl k]/\Q (.int (if k then 1 else 0)) H) dInt:=fun H0 H vs ss z s p hz Q q=>by
 unfold dInt at hz
 split at hz
 . obtain ⟨v,rfl,pa⟩:=IE p
   cases hz
   exact .inl ⟨_,by rw [pa.int],q _ _ _ (Ext.refl s) (.int _)⟩
 . obtain ⟨v,rfl,pa⟩:=IE p
   cases hz
   exact .inr ⟨_,by rw [pa.bool],q _ _ _ (Ext.refl s) (.int _)⟩
 . cases hz
def tyD:PyData->Option String
 | .none=>some "NoneType"
 | .bool _=>some "bool"
 | .int _=>some "int"
 | .str _=>some "str"
 | .list _=>some "list"
 | .tuple _=>some "tuple"
 | _=>none
theorem yU{H:Hp}{v:V}{d:PyData}(h:Rep K H v d)(hn:(tyD d).isSome=true):∃t,tyD d=some t/\TyV K H v t:=by
 cases h with
 | none=>exact ⟨_,rfl, .non⟩
 | bool b=>exact ⟨_,rfl, .bl b⟩
 | int i=>exact ⟨_,rfl, .int i⟩
 | str x=>exact ⟨_,rfl, .str x⟩
 | list h _=>exact ⟨_,rfl, .lst h⟩
 | tuple h _=>exact ⟨_,rfl, .tup (SqT.of h)⟩
 | dict h _ _=>cases hn
 | dictF h _ _=>cases hn
def isiD(n:String)(t:String):Option Bool:=
 if n = "int" then some (t == "int" || t == "bool") else if n = "bool" \/ n = "str" \/ n = "list" \/ n = "tuple" then some (t==n) else none
def mIsi(n:String)(f:En->Option Sl):En->Option Sl:=fun ρ=>(f ρ).bind fun a=>(tyD a.dat).bind fun t=>(isiD n t).map fun b=> .val (.bool b)
theorem yF {te:TE} {f:En->Option Sl} {n:String} (hk:∀t b,isiD n t=some b->(t = "NoneType" \/ t = "bool" \/ t = "int" \/ t = "str" \/ t = "list" \/ t = "tuple")->PySem.W.kitOne K (.type t) (.type n)=some b) (h:RP K R te f):RE K R (tCB (A17 K) (MW te (MW (tC (.ty n)) tNil))) (mIsi n f):=fun HB σ ρ H0 H s e z hz Q q=>by
 obtain ⟨a,ha,hz⟩:=A3.mp hz;obtain ⟨t,ht,hz⟩:=A3.mp hz;obtain ⟨b,hb,rfl⟩:=AG.mp hz;refine h HB σ ρ H0 H s e a ha _ fun v H1 J1 x1 p1=> ?_;obtain ⟨t',ht',ty⟩:=yU (p1.rep x1.s1) (by rw [ht];rfl);rw [ht] at ht'
 cases ht'
 refine ⟨v,n,t,b,rfl,ty,hk t b hb ?_,q _ _ _ x1 (.bool _)⟩
 cases ty <;> simp
def mTest(f:En->Option Sl):En->Option Bool:=fun ρ=>(f ρ).bind fun a=>match a with
 | .val (.bool b)=>some b
 | _=>none
theorem LO{f:En->Option Sl}{ρ:En}{b:Bool}(h:mTest f ρ=some b):f ρ=some (.val (.bool b)):=by
 obtain ⟨a,ha,h⟩:=A3.mp h;rw [ha]
 split at h
 . cases h;rfl
 . cases h
theorem bZ{te:TE}{f:En->Option Sl}(h:RP K R te f):RT K R (tF te) (mTest f):=fun HB σ ρ H0 H s e b hb Q q=>
 h HB σ ρ H0 H s e _ (LO hb) _ fun v H1 J1 x1 p1=>⟨b,p1.bool,q _ _ x1⟩
theorem A95{te:TE}{f:En->Option Sl}(h:RP K R te f):RT K R (tB te) (mTest f):=fun HB σ ρ H0 H s e b hb Q q=>
 h HB σ ρ H0 H s e _ (LO hb) _ fun v H1 J1 x1 p1=>⟨b,p1.bool,q _ _ x1⟩
def mAnd(f g:En->Option Bool):En->Option Bool:=fun ρ=>(f ρ).bind fun b=>if b then g ρ else some false
def mOr(f g:En->Option Bool):En->Option Bool:=fun ρ=>(f ρ).bind fun b=>if b then some true else g ρ
def mNot(f:En->Option Bool):En->Option Bool:=fun ρ=>(f ρ).map (!·)
theorem wN{t u:TT}{f g:En->Option Bool}(h:RT K R t f)(k:RT K R u g):RT K R (A38 t u) (mAnd f g):=fun HB σ ρ H0 H s e b hb Q q=>by
 obtain ⟨c,hc,hb⟩:=A3.mp hb;refine h HB σ ρ H0 H s e c hc _ fun H1 J1 x1=> ?_
 cases c with
 | true=>exact ZA (k HB σ ρ H1 J1 x1.s1 (e.ext (K:=K) x1) b hb Q fun H2 J2 x2=>q _ _ (x1.trans x2))
 | false=>cases hb;exact Z7 (q _ _ x1)
theorem A65{t u:TT}{f g:En->Option Bool}(h:RT K R t f)(k:RT K R u g):RT K R (tOr t u) (mOr f g):=fun HB σ ρ H0 H s e b hb Q q=>by
 obtain ⟨c,hc,hb⟩:=A3.mp hb;refine h HB σ ρ H0 H s e c hc _ fun H1 J1 x1=> ?_
 cases c with
 | false=>exact Z7 (k HB σ ρ H1 J1 x1.s1 (e.ext (K:=K) x1) b hb Q fun H2 J2 x2=>q _ _ (x1.trans x2))
 | true=>cases hb;exact ZA (q _ _ x1)
theorem xU{t:TT}{f:En->Option Bool}(h:RT K R t f):RT K R (A23 t) (mNot f):=fun HB σ ρ H0 H s e b hb Q q=>by
 obtain ⟨c,hc,rfl⟩:=AG.mp hb;exact h HB σ ρ H0 H s e c hc _ fun H1 J1 x1=>q _ _ x1
def mAndV(f g:En->Option Sl):En->Option Sl:=fun ρ=>(mTest f ρ).bind fun b=>if b then g ρ else some (.val (.bool false))
def mOrV(f g:En->Option Sl):En->Option Sl:=fun ρ=>(mTest f ρ).bind fun b=>if b then some (.val (.bool true)) else g ρ
def mNotV(f:En->Option Sl):En->Option Sl:=fun ρ=>(mTest f ρ).map fun b=> .val (.bool (!b))
theorem o9{t u:TE}{f g:En->Option Sl}(h:RP K R t f)(k:RE K R u g):RE K R (t8 t u) (mAndV f g):=fun HB σ ρ H0 H s e z hz Q q=>by
 obtain ⟨c,hc,hz⟩:=A3.mp hz;refine h HB σ ρ H0 H s e _ (LO hc) _ fun v H1 J1 x1 p1=>⟨c,p1.bool,?_⟩
 cases c with
 | true=>exact ZA (k HB σ ρ H1 J1 x1.s1 (e.ext (K:=K) x1) z hz Q fun v H2 J2 x2 p2=>q _ _ _ (x1.trans x2) (p2.base x1.s))
 | false=>cases hz;exact Z7 (q _ _ _ x1 (.bool _))
theorem pC{t:TE}{f:En->Option Sl}(h:RP K R t f):RE K R (tN t) (mNotV f):=fun HB σ ρ H0 H s e z hz Q q=>by
 obtain ⟨c,hc,rfl⟩:=AG.mp hz;exact h HB σ ρ H0 H s e _ (LO hc) _ fun v H1 J1 x1 p1=>⟨c,p1.bool,q _ _ _ x1 (.bool _)⟩
def mIfE(c:En->Option Bool)(f g:En->Option Sl):En->Option Sl:=fun ρ=>(c ρ).bind fun b=>if b then f ρ else g ρ
theorem vE{c:TT}{t u:TE}{fc:En->Option Bool}{f g:En->Option Sl}(hc:RT K R c fc)(h:RE K R t f)(k:RE K R u g):RE K R (tIf c t u) (mIfE fc f g):=fun HB σ ρ H0 H s e z hz Q q=>by
 obtain ⟨b,hb,hz⟩:=A3.mp hz;refine hc HB σ ρ H0 H s e b hb _ fun H1 J1 x1=> ?_
 cases b with
 | true=>exact ZA (h HB σ ρ H1 J1 x1.s1 (e.ext (K:=K) x1) z hz Q fun v H2 J2 x2 p2=>q _ _ _ (x1.trans x2) (p2.base x1.s))
 | false=>exact Z7 (k HB σ ρ H1 J1 x1.s1 (e.ext (K:=K) x1) z hz Q fun v H2 J2 x2 p2=>q _ _ _ (x1.trans x2) (p2.base x1.s))
def RO(K:PySem.W.Frag)(R:Rl)(to:TO)(f:En->Option (Option Int)):Prop:=
 ∀(HB:Hp) (σ:L2.St) (ρ:En) (H0 H:Hp),Same H0 H->ST R HB H0 H σ ρ->∀o,f ρ=some o->∀Q:Option Int->Hp->Prop,(∀H0' H',Ext H0 H H0' H'->Q o H')->to σ H Q
def mNoPart:En->Option (Option Int):=fun _=>some none
def mPart(f:En->Option Sl):En->Option (Option Int):=fun ρ=>(f ρ).bind fun a=>match a with
 | .val (.int i)=>some (some i)
 | _=>none
theorem qV:RO K R tNoPart mNoPart:=fun HB σ ρ H0 H s e o ho Q q=>by cases ho;exact q _ _ (Ext.refl s)
theorem oG{te:TE}{f:En->Option Sl}(h:RP K R te f):RO K R (tD te) (mPart f):=fun HB σ ρ H0 H s e o ho Q q=>by
 obtain ⟨a,ha,ho⟩:=A3.mp ho
 split at ho
 . cases ho
   exact h HB σ ρ H0 H s e _ ha _ fun v H1 J1 x1 p1=>⟨_,p1.int,q _ _ x1⟩
 . cases ho
def NF{α:Type}(xs:List α)(lo hi:Option Int):List α:=(xs.drop (HT.sIx xs.length 0 lo)).take (HT.sIx xs.length xs.length hi - HT.sIx xs.length 0 lo)
theorem Reps.drop{H:Hp}:∀ {vs:List V} {ds:List PyData} (n:Nat),Reps K H vs ds->Reps K H (vs.drop n) (ds.drop n)
 | _,_,0,h=>h
 | _,_,_+1, .nil=> .nil
 | _,_,n+1, .cons _ t=>Reps.drop n t
theorem Reps.take{H:Hp}:∀ {vs:List V} {ds:List PyData} (n:Nat),Reps K H vs ds->Reps K H (vs.take n) (ds.take n)
 | _,_,0,_=> .nil
 | _,_,_+1, .nil=> .nil
 | _,_,n+1, .cons h t=> .cons h (Reps.take n t)
theorem Reps.cut{H:Hp}{vs:List V}{ds:List PyData}(h:Reps K H vs ds)(lo hi:Option Int):Reps K H (Y1 vs lo hi) (NF ds lo hi):=by
 unfold Y1 NF;rw [h.length];exact Reps.take _ (Reps.drop _ h)
def dSl(a:Sl)(lo hi:Option Int):Option Sl:=match a.dat with
 | .list ds=>some (.own (NF ds lo hi))
 | .tuple ds=>if HT.sIx ds.length 0 lo=0/\HT.sIx ds.length ds.length hi=ds.length then none else some (.val (.tuple (NF ds lo hi)))
 | _=>none
def mSl(f:En->Option Sl)(l h:En->Option (Option Int)):En->Option Sl:=fun ρ=>(f ρ).bind fun a=>(l ρ).bind fun lo=>(h ρ).bind fun hi=>dSl a lo hi
theorem A22{te:TE}{tl th:TO}{f:En->Option Sl}{fl fh:En->Option (Option Int)}(h:RP K R te f)(hl:RO K R tl fl)(hh:RO K R th fh):RE K R (tSl (fun x lo hi H Q=>A62 K x lo hi H Q\/A40 K x lo hi H Q) te tl th) (mSl f fl fh):=fun HB σ ρ H0 H s e z hz Q q=>by
 obtain ⟨a,ha,hz⟩:=Option.bind_eq_some_iff.mp hz;obtain ⟨lo,hlo,hz⟩:=Option.bind_eq_some_iff.mp hz;obtain ⟨hi,hhi,hz⟩:=Option.bind_eq_some_iff.mp hz;refine h HB σ ρ H0 H s e a ha _ fun v H1 J1 x1 p1=> ?_;refine hl HB σ ρ H1 J1 x1.s1 (e.ext (K:=K) x1) lo hlo _ fun H2 J2 x2=> ?_;refine hh HB σ ρ H2 J2 x2.s1 ((e.ext (K:=K) x1).ext (K:=K) x2) hi hhi _ fun H3 J3 x3=> ?_;have x:=(x1.trans x2).trans x3;have p:=p1.ext (x2.trans x3);unfold dSl at hz
 split at hz
 . rename_i ds hd
   cases hz
   obtain ⟨b,vs,rfl,h1,h2⟩:=p.lst x.s1 hd;exact .inl ⟨b,vs,rfl,h1,fun l hl=>q _ _ _ (x.trans (Ext.alloc x.s1 hl _)) ⟨l,_,rfl,x.s.free hl,x.s1.free hl,BZ,Reps.cut h2 lo hi⟩⟩
 . rename_i ds hd
   split at hz
   . cases hz
   . rename_i hw
     cases hz
     obtain ⟨b,vs,rfl,h1,h2⟩:=p.tup hd;refine .inr ⟨b,vs,rfl,x.s1.seqT (SqT.of h1),by rw [h2.length];exact hw,fun l hl=>q _ _ _ (x.trans (Ext.allocF x.s1 hl _)) (.tuple BZ (Reps.same (Same.upd (x.s1.free hl) _) (Reps.cut h2 lo hi)))⟩
 . cases hz
end
end Dm
namespace Dm
open PySem PySem.Spec PyProof.Rows L2 Tf
inductive Out where
 | nx (ρ:En) | rt (r:Sl) (ρ:En) | bk (ρ:En) | ct (ρ:En)
section
variable {K:PySem.W.Frag} {R:Rl} [RelOk K R]
def A91(K:PySem.W.Frag)(R:Rl)(HB S0:Hp)(D:Ends):Out->Prop
 | .nx ρ=>∀σ H0 H,Ext S0 HB H0 H->ST R HB H0 H σ ρ->D.nx σ H
 | .bk ρ=>∀σ H0 H,Ext S0 HB H0 H->ST R HB H0 H σ ρ->D.bk σ H
 | .ct ρ=>∀σ H0 H,Ext S0 HB H0 H->ST R HB H0 H σ ρ->D.ct σ H
 | .rt r ρ=>∀v σ H0 H,Ext S0 HB H0 H->ST R HB H0 H σ ρ->SlH K HB H0 H v r->D.rt v H
def RS(K:PySem.W.Frag)(R:Rl)(ts:TS)(g:En->Option Out):Prop:=
 ∀(HB S0:Hp) (σ:L2.St) (ρ:En) (H0 H:Hp),Ext S0 HB H0 H->ST R HB H0 H σ ρ->∀o,g ρ=some o->∀D:Ends,A91 K R HB S0 D o->ts D σ H
def mNext:En->Option Out:=fun ρ=>some (.nx ρ)
def mBrk:En->Option Out:=fun ρ=>some (.bk ρ)
def mCt:En->Option Out:=fun ρ=>some (.ct ρ)
def mRetN:En->Option Out:=fun ρ=>some (.rt (.val .none) ρ)
theorem sQ:RS K R tNext mNext:=fun HB S0 σ ρ H0 H x e o ho D d=>by cases ho;exact d σ H0 H x e
def mSeq(f g:En->Option Out):En->Option Out:=fun ρ=>(f ρ).bind fun o=>match o with
 | .nx ρ'=>g ρ'
 | o=>some o
theorem wY{t u:TS}{f g:En->Option Out}(h:RS K R t f)(k:RS K R u g):RS K R (A41 t u) (mSeq f g):=fun HB S0 σ ρ H0 H x e o ho D d=>by
 obtain ⟨o1,h1,ho⟩:=A3.mp ho;refine h HB S0 σ ρ H0 H x e o1 h1 { D with nx:=u D} ?_
 cases o1 with
 | nx ρ'=>exact fun σ' H0' H' x' e'=>k HB S0 σ' ρ' H0' H' x' e' o ho D d
 | rt r _=>cases ho;exact d
 | bk r=>cases ho;exact d
 | ct r=>cases ho;exact d
theorem ER.set{HB H0 H H0' H':Hp}{σ:L2.St}{ρ:En}{i:Nat}{v:V}{r:Sl}(e:ER K HB H0 H σ ρ)(x:Ext H0 H H0' H')(sb:Same HB H)(h:SlH K H H0' H' v r):ER K HB H0' H' (σ.set i (some v)) (ρ.set i (some r)):=by
 have e':=e.ext x;refine ⟨by rw [GV,GV];exact e.len,fun j s hs=> ?_,fun j k a ds es hjk hj hk h1 h2=> ?_⟩
 . by_cases hj:i=j
   . subst hj;rw [CK] at hs ⊢
     cases hq:ρ[i]? with
     | none=>rw [hq] at hs;cases hs
     | some q=>
      rw [hq] at hs
      have hi:i<σ.length:=by rw [e.len];exact (AS.mp hq).1
      rw [AB hi]
      cases hs
      exact ⟨v,rfl,h.base sb⟩
   . rw [B4 hj] at hs ⊢
     exact e'.get j s hs
 . have key : ∀ (j' k' : Nat) (b : Addr) ds' es', i = j' -> i ≠ k' -> (ρ.set i (some r))[j']? = some (some (.own ds')) -> ρ[k']? = some (some (.own es')) -> (σ.set i (some v))[j']? = some (some (.ref b)) -> σ[k']? ≠ some (some (.ref b)) := by
    clear hj hk h1 h2 hjk;intro j' k' b ds' es' hij hik hj hk h1 h2;subst hij;rw [CK] at hj h1
    cases hq:ρ[i]? with
    | none=>rw [hq] at hj;cases hj
    | some q=>
     rw [hq] at hj
     cases hj
     have hi:i<σ.length:=by rw [e.len];exact (AS.mp hq).1
     rw [AB hi] at h1
     cases h1
     obtain ⟨a',vs,ea,hn,_⟩:=h
     cases ea
     obtain ⟨w,hw,hb⟩:=e.get k' _ hk;rw [h2] at hw
     cases hw
     obtain ⟨b',ws,eb,_,_,hs,_⟩:=hb
     cases eb
     rw [hn] at hs
     cases hs
   by_cases hij:i=j
   . have hik:i≠k:=fun z=>hjk (hij.symm.trans z);rw [B4 hik] at hk h2
     exact key j k a ds es hij hik hj hk h1 h2
   . rw [B4 hij] at hj h1
     by_cases hik:i=k
     . exact key k j a es ds hik hij hk hj h2 h1
     . rw [B4 hik] at hk h2
       exact e.apart j k a ds es hjk hj hk h1 h2
def mAsg(i:Nat)(f:En->Option Sl):En->Option Out:=fun ρ=>(f ρ).map fun r=> .nx (ρ.set i (some r))
theorem zH{te:TE}{f:En->Option Sl}{i:Nat}(hsl:R.slot i)(h:RE K R te f):RS K R (p0 te (XM i)) (mAsg i f):=fun HB S0 σ ρ H0 H x e o ho D d=>by
 obtain ⟨r,hr,rfl⟩:=AG.mp ho;exact h HB σ ρ H0 H x.s1 e r hr _ fun v H1 J1 x1 p1=>d _ H1 J1 (x.chain x1) ⟨RelOk.set e.r hsl x1 x.s p1⟩
theorem oH{te:TE}{f:En->Option Sl}{i:Nat}(hsl:R.slot i)(h:RE K R te f):RS K R (tK i te) (mAsg i f):=fun HB S0 σ ρ H0 H x e o ho D d=>by
 obtain ⟨r,hr,rfl⟩:=AG.mp ho;exact h HB σ ρ H0 H x.s1 e r hr _ fun v H1 J1 x1 p1=>d _ H1 J1 (x.chain x1) ⟨RelOk.set e.r hsl x1 x.s p1⟩
def mRet(f:En->Option Sl):En->Option Out:=fun ρ=>(f ρ).map fun r=> .rt r ρ
theorem wW{te:TE}{f:En->Option Sl}(h:RE K R te f):RS K R (y7 te) (mRet f):=fun HB S0 σ ρ H0 H x e o ho D d=>by
 obtain ⟨r,hr,rfl⟩:=AG.mp ho;exact h HB σ ρ H0 H x.s1 e r hr _ fun v H1 J1 x1 p1=>d v σ H1 J1 (x.chain x1) (e.ext (K:=K) x1) (p1.base x.s)
theorem oY(i:Nat)(hsl:R.slot i):RS K R (y7 (ZH i)) (mRet (mPk i)):=fun HB S0 σ ρ H0 H x e o ho D d=>by
 obtain ⟨r,hr,rfl⟩:=AG.mp ho;obtain ⟨v,h1,h2⟩:=RelOk.get (K:=K) e.r hsl (join_some hr);exact ⟨v,h1,d v σ H0 H x e h2⟩
def mIf(c:En->Option Bool)(f g:En->Option Out):En->Option Out:=fun ρ=>(c ρ).bind fun b=>if b then f ρ else g ρ
theorem A57{c:TT}{t u:TS}{fc:En->Option Bool}{f g:En->Option Out}(hc:RT K R c fc)(h:RS K R t f)(k:RS K R u g):RS K R (A07 c t u) (mIf fc f g):=fun HB S0 σ ρ H0 H x e o ho D d=>by
 obtain ⟨b,hb,ho⟩:=A3.mp ho;refine hc HB σ ρ H0 H x.s1 e b hb _ fun H1 J1 x1=> ?_
 cases b with
 | true=>exact ZA (h HB S0 σ ρ H1 J1 (x.chain x1) (e.ext (K:=K) x1) o ho D d)
 | false=>exact Z7 (k HB S0 σ ρ H1 J1 (x.chain x1) (e.ext (K:=K) x1) o ho D d)
def mDrop(f:En->Option Sl):En->Option Out:=fun ρ=>(f ρ).map fun _=> .nx ρ
theorem Ext.write{S0 HB H0 H:Hp}{a:Addr}(x:Ext S0 HB H0 H)(hb:HB a=none)(h0:H0 a=none)(o:HO):Ext S0 HB H0 (upd H a o) :=
 ⟨fun b u e=>by rw [BE (BI e hb)];exact x.s b u e,x.s0,fun b u e=>by rw [BE (BI e h0)];exact x.s1 b u e,x.own⟩
theorem ER.write {HB H0 H : Hp} {σ : L2.St} {ρ : En} {i : Nat} {a : Addr} {ds es : List PyData} {ys : List V} (e : ER K HB H0 H σ ρ) (hi : ρ[i]? = some (some (.own ds))) (hs : σ[i]? = some (some (.ref a))) (hb : HB a = none) (h0 : H0 a = none) (hr : Reps K H0 ys es) :
 ER K HB H0 (upd H a (.lst ys)) σ (ρ.set i (some (.own es))):=by
 have own:∀(j:Nat),∀ts,(ρ.set i (some (.own es)))[j]? = some (some (.own ts))->∃ts',ρ[j]? = some (some (.own ts')):=by
  intro j ts h
  by_cases hj:i=j
  . subst hj;exact ⟨_,hi⟩
  . rw [B4 hj] at h;exact ⟨_,h⟩
 refine ⟨by rw [GV];exact e.len,fun j s hq=> ?_,fun j k b ts us hjk hj hk h1 h2=> ?_⟩
 . by_cases hj:i=j
   . subst hj;rw [CK,hi] at hq
     cases hq
     exact ⟨.ref a,hs,a,ys,rfl,hb,h0,BZ,hr⟩
   . rw [B4 hj] at hq
     obtain ⟨v,h1,h2⟩:=e.get j s hq;refine ⟨v,h1,?_⟩
     cases s with
     | val d=>exact h2
     | own ts=>
      obtain ⟨b,vs,rfl,g1,g2,g3,g4⟩:=h2;refine ⟨b,vs,rfl,g1,g2,?_,g4⟩;rw [BE]
      . exact g3
      . rintro rfl
        exact e.apart i j b ds ts hj hi hq hs h1
     | dct ts=>
      obtain ⟨b,t,rfl,g1,g2,g3,g4⟩:=h2;refine ⟨b,t,rfl,g1,g2,?_,g4⟩;rw [BE]
      . exact g3
      . rintro rfl;obtain ⟨v',hs',a',vs',e',_,_,g5,_⟩:=e.get i _ hi;rw [hs] at hs'
        cases hs'
        cases e'
        rw [g3] at g5
        cases g5
 . obtain ⟨ts',hj⟩:=own j ts hj;obtain ⟨us',hk⟩:=own k us hk;exact e.apart j k b ts' us' hjk hj hk h1 h2
def mApp(i:Nat)(f:En->Option Sl):En->Option Out:=fun ρ=>match (ρ[i]?).join with
 | some (.own ds)=>(f ρ).bind fun r=>if ds.length<sizeLine then some (.nx (ρ.set i (some (.own (ds ++ [r.dat]))))) else none
 | _=>none
theorem kX {HB H0 H : Hp} {σ : L2.St} {ρ : En} {i : Nat} {ds : List PyData} (e : ST R HB H0 H σ ρ) (hsl : R.slot i) (h : (ρ[i]?).join = some (.own ds)) :
 ∃a vs,ρ[i]? = some (some (.own ds))/\σ[i]? = some (some (.ref a))/\HB a=none/\H0 a=none/\H a=some (.lst vs)/\Reps K H0 vs ds:=by
 obtain ⟨v,h1,a,vs,rfl,g1,g2,g3,g4⟩:=RelOk.get (K:=K) e.r hsl (join_some h);exact ⟨a,vs,join_some h,h1,g1,g2,g3,g4⟩
theorem wO{te:TE}{f:En->Option Sl}{i:Nat}(hsl:R.slot i)(h:RE K R te f):RS K R (nB (tBM K "list" rAppend (ZH i) (MW te tNil))) (mApp i f):=fun HB S0 σ ρ H0 H x e o ho D d=>by
 unfold mApp at ho
 split at ho
 . rename_i ds hj;obtain ⟨r,hr,ho⟩:=A3.mp ho
   split at ho
   . rename_i hl
     cases ho
     obtain ⟨a,vs,hi,hs,g1,g2,g3,g4⟩:=kX (K:=K) e hsl hj;refine ⟨.ref a,hs, .inl ⟨rfl,vs,SqL.of g3⟩,?_⟩;refine h.rv HB σ ρ H0 H x.s1 e r.dat (by unfold mDat;rw [hr];rfl) _ fun v H1 J1 x1 p1=> ?_;have l0:=x1.own a _ g3 True.intro g2;refine ⟨a,vs,v,rfl,rfl,x1.s _ _ g3,by rw [g4.length];exact hl,?_⟩;exact d σ H1 _ ((x.chain x1).write g1 l0 _) ⟨RelOk.write (K:=K) (e.ext (K:=K) x1).r hsl hi hs g1 l0 (x1.s _ _ g3) (Tf.Reps.snoc (Reps.same x1.s0 g4) p1)⟩
   . cases ho
 . cases ho
def mSet(i:Nat)(fj f:En->Option Sl):En->Option Out:=fun ρ=>(f ρ).bind fun r=>match (ρ[i]?).join with
 | some (.own ds)=>(fj ρ).bind fun k=>match k with
  | .val (.int k)=>(ixN ds.length k).map fun j=> .nx (ρ.set i (some (.own (ds.set j r.dat))))
  | _=>none
 | _=>none
def frz1(i:Nat)(ρ:En):En:=match (ρ[i]?).join with
 | some (.own ds)=>ρ.set i (some (.val (.list ds)))
 | _=>ρ
def mFrz(i:Nat)(g:En->Option Out):En->Option Out:=fun ρ=>g (frz1 i ρ)
theorem ER.frz{S0 HB H0 H:Hp}{σ:L2.St}{ρ:En}{i:Nat}{ds:List PyData}(e:ER K HB H0 H σ ρ)(hi:ρ[i]? = some (some (.own ds)))(x:Ext S0 HB H0 H):∃a vs,H a=some (.lst vs)/\Ext S0 HB (upd H0 a (.lst vs)) H/\ER K HB (upd H0 a (.lst vs)) H σ (ρ.set i (some (.val (.list ds)))):=by
 obtain ⟨v,hs,a,vs,rfl,g1,g2,g3,g4⟩:=e.get i _ hi;have s0:Same H0 (upd H0 a (.lst vs)):=Same.upd g2 _
 have x' : Ext S0 HB (upd H0 a (.lst vs)) H := ⟨x.s, x.s0.trans s0, fun b u q => by
  by_cases hb:b=a
  . subst hb;rw [BZ] at q;rw [g3];exact q
  . rw [BE hb] at q;exact x.s1 b u q,fun b u q m q0=>by rw [BE (BI q g1)];exact x.own b u q m q0⟩
 refine ⟨a,vs,g3,x',⟨by rw [GV];exact e.len,fun j s hq=> ?_,fun j k b ts us hjk h1 h2 h3 h4=> ?_⟩⟩
 . by_cases hij:i=j
   . subst hij;rw [CK,hi] at hq
     cases hq
     exact ⟨.ref a,hs, .list (SqL.of BZ) (Reps.same s0 g4)⟩
   . rw [B4 hij] at hq
     obtain ⟨v,h1,h2⟩:=e.get j s hq;refine ⟨v,h1,?_⟩
     cases s with
     | val d=>exact Rep.same s0 h2
     | own ts=>
      obtain ⟨b,ws,rfl,q1,q2,q3,q4⟩:=h2;refine ⟨b,ws,rfl,q1,?_,q3,Reps.same s0 q4⟩;rw [BE]
      . exact q2
      . rintro rfl
        exact e.apart i j b ds ts hij hi hq hs h1
     | dct ts=>
      obtain ⟨b,t,rfl,q1,q2,q3,q4⟩:=h2;refine ⟨b,t,rfl,q1,?_,q3,q4.same s0⟩;rw [BE]
      . exact q2
      . rintro rfl;rw [q3] at g3
        cases g3
 . have hij : i ≠ j := by
    rintro rfl;rw [CK,hi] at h1
    cases h1
   have hik:i≠k:=by
    rintro rfl;rw [CK,hi] at h2
    cases h2
   rw [B4 hij] at h1
   rw [B4 hik] at h2
   exact e.apart j k b ts us hjk h1 h2 h3 h4
instance relOk_PR:RelOk K (PR K) where
 ext:=fun x e=>ER.ext x e
 get:=fun e _ h=>ER.get e _ _ h
 set:=fun e _ x s h=>ER.set e x s h
 write:=fun e _ h1 h2 h3 h4 _ h5=>ER.write e h1 h2 h3 h4 h5
 frz:=fun e _ h x=>by obtain ⟨a,vs,_,h1,h2⟩:=ER.frz e h x;exact ⟨_,h1,h2⟩
theorem xT{ts:TS}{g:En->Option Out}(i:Nat)(hsl:R.slot i)(h:RS K R ts g):RS K R ts (mFrz i g):=fun HB S0 σ ρ H0 H x e o ho D d=>by
 unfold mFrz frz1 at ho
 split at ho
 . rename_i ds hj;obtain ⟨H0',x',e'⟩:=RelOk.frz (K:=K) e.r hsl (join_some hj) x;exact h HB S0 σ _ H0' H x' ⟨e'⟩ o ho D d
 . exact h HB S0 σ ρ H0 H x e o ho D d
def RG(K:PySem.W.Frag)(R:Rl)(g:TG)(fg:PyData->En->Option En):Prop:=
 ∀(HB:Hp) (σ:L2.St) (ρ ρ':En) (H0 H:Hp) (v:V) (d:PyData),Same H0 H->Same HB H->ST R HB H0 H σ ρ->Rep K H0 v d->fg d ρ=some ρ'->∀Q:L2.St->Hp->Prop,(∀σ',ST R HB H0 H σ' ρ'->Q σ' H)->g v σ H Q
def gVar(i:Nat):PyData->En->Option En:=fun d ρ=>some (ρ.set i (some (.val d)))
theorem cC(i:Nat)(hsl:R.slot i):RG K R (XM i) (gVar i):=fun HB σ ρ ρ' H0 H v d s sb e r h Q q=>by
 cases h
 exact q _ ⟨RelOk.set (K:=K) e.r hsl (Ext.refl s) sb (show SlH K H H0 H v (.val d) from r)⟩
def gsAll:List (PyData->En->Option En)->List PyData->En->Option En
 | [],[],ρ=>some ρ
 | g::gs,d::ds,ρ=>(g d ρ).bind fun ρ'=>gsAll gs ds ρ'
 | _,_,_=>none
def gTupD(gs:List (PyData->En->Option En)):PyData->En->Option En:=fun d ρ=>match d with
 | .tuple ds=>if ds.length=gs.length then gsAll gs ds ρ else none
 | _=>none
def RGs(K:PySem.W.Frag)(R:Rl)(g:TGs)(gs:List (PyData->En->Option En)):Prop:=
 ∀(HB:Hp) (σ:L2.St) (ρ ρ':En) (H0 H:Hp) (vs:List V) (ds:List PyData),Same H0 H->Same HB H->ST R HB H0 H σ ρ->Reps K H0 vs ds->gsAll gs ds ρ=some ρ'->∀Q:L2.St->Hp->Prop,(∀σ',ST R HB H0 H σ' ρ'->Q σ' H)->g vs σ H Q
theorem bS:RGs K R gNil []:=fun HB σ ρ ρ' H0 H vs ds s sb e r h Q q=>by
 cases r with
 | nil=>cases h;exact ⟨rfl,q _ e⟩
 | cons _ _=>cases h
theorem YY{g:TG}{u:TGs}{fg:PyData->En->Option En}{gs:List (PyData->En->Option En)}(h1:RG K R g fg)(h2:RGs K R u gs):RGs K R (kA g u) (fg::gs):=fun HB σ ρ ρ' H0 H vs ds s sb e r h Q q=>by
 cases r with
 | nil=>cases h
 | cons r1 r2=>
  obtain ⟨ρ1,e1,h⟩:=A3.mp (show (fg _ ρ).bind _=some ρ' from h);exact ⟨_,_,rfl,h1 HB σ ρ ρ1 H0 H _ _ s sb e r1 e1 _ fun σ' e'=>h2 HB σ' ρ1 ρ' H0 H _ _ s sb e' r2 h Q q⟩
theorem lZ{g:TGs}{gs:List (PyData->En->Option En)}{n:Nat}(hn:n=gs.length)(h:RGs K R g gs):RG K R (vQ K n g) (gTupD gs):=fun HB σ ρ ρ' H0 H v d s sb e r hd Q q=>by
 unfold gTupD at hd
 split at hd
 . split at hd
   . rename_i ds hl
     cases r with
     | tuple r1 r2=>exact ⟨_,_,rfl,s.seqT (SqT.of r1),by rw [r2.length,hl,hn],h HB σ ρ ρ' H0 H _ _ s sb e r2 hd Q q⟩
   . cases hd
 . cases hd
def ItR(K:PySem.W.Frag)(H0:Hp)(J:It)(ds:List PyData):Prop:=∀H0' H',Same H0 H0'->Same H0' H'->∀i:Nat,(∀d,ds[i]? = some d->J.go i H'/\∀x H2,J.yld i H' x H2->∃H02,Ext H0' H' H02 H2/\Rep K H02 x d)/\(ds.length<=i->J.stop i H')
def RI(K:PySem.W.Frag)(R:Rl)(wi:TI)(f:En->Option (List PyData)):Prop:=
 ∀(HB:Hp) (σ:L2.St) (ρ:En) (H0 H:Hp),Same H0 H->ST R HB H0 H σ ρ->∀ds,f ρ=some ds->∀R:It->Hp->Prop,(∀J H0' H',Ext H0 H H0' H'->ItR K H0' J ds->R J H')->wi σ H R
def mItems(f:En->Option Sl):En->Option (List PyData):=fun ρ=>(f ρ).bind fun a=>match a.dat with
 | .list ds=>some ds
 | _=>none
def mItemsT(f:En->Option Sl):En->Option (List PyData):=fun ρ=>(f ρ).bind fun a=>match a.dat with
 | .tuple ds=>some ds
 | _=>none
theorem p6{H0:Hp}{a:Addr}{vs:List V}{ds:List PyData}(h:SqL K H0 a vs)(r:Reps K H0 vs ds):ItR K H0 (Itl K a) ds:=fun H0' H' s s' i=>by
 have h':=s'.seq (s.seq h);refine ⟨fun d hd=> ?_,fun hi=>⟨vs,h',by rw [r.length];exact hi⟩⟩;obtain ⟨v,e1,e2⟩:=Tf.Reps.get r hd;refine ⟨⟨vs,v,h',e1⟩,fun x H2 y=> ?_⟩;obtain ⟨rfl,y⟩:=y;have:=y vs h';rw [e1] at this
 cases this
 exact ⟨H0',Ext.refl s',Rep.same s e2⟩
theorem vT{H0:Hp}{a:Addr}{vs:List V}{ds:List PyData}(h:SqT K H0 a vs)(r:Reps K H0 vs ds):ItR K H0 (Itt K a) ds:=fun H0' H' s s' i=>by
 have h':=s'.seqT (s.seqT h);refine ⟨fun d hd=> ?_,fun hi=>⟨vs,h',by rw [r.length];exact hi⟩⟩;obtain ⟨v,e1,e2⟩:=Tf.Reps.get r hd;refine ⟨⟨vs,v,h',e1⟩,fun x H2 y=> ?_⟩;obtain ⟨rfl,y⟩:=y;have:=y vs h';rw [e1] at this
 cases this
 exact ⟨H0',Ext.refl s',Rep.same s e2⟩
def GZ(lo:Int)(n:Nat):List PyData:=(List.range n).map fun i=> .int (lo+(i:Nat))
theorem XO{lo:Int}{n i:Nat}:(GZ lo n)[i]? = if i<n then some (.int (lo+(i:Nat))) else none:=by
 unfold GZ;rw [List.getElem?_map]
 by_cases h:i<n
 . rw [A68 h,AD h];rfl
 . rw [AA h,EX (by simpa using h)];rfl
theorem XY{H0:Hp}{lo:Int}{n:Nat}:ItR K H0 (Itr lo n) (GZ lo n):=fun H0' H' s s' i=>by
 refine ⟨fun d hd=> ?_,fun hi=>show n<=i by simpa [GZ] using hi⟩;rw [XO] at hd
 split at hd
 . rename_i hi
   cases hd
   exact ⟨hi,fun x H2 y=>by obtain ⟨rfl,rfl⟩:=y;exact ⟨H0',Ext.refl s', .int _⟩⟩
 . cases hd
def inB(i:Int):Prop:= -(2 ^ 62)<=i/\i<2 ^ 62
noncomputable instance (i:Int):Decidable (inB i):=Classical.propDecidable _
noncomputable def LG(f:En->Option (List Sl)):En->Option (List PyData):=fun ρ=>(f ρ).bind fun a=>match a with
 | [.val (.int j)]=>if inB j then some (GZ 0 j.toNat) else none
 | _=>none
theorem fX{ta:TA}{f:En->Option (List Sl)}(h:RQ K R ta f):RI K R (u0 ta) (LG f):=fun HB σ ρ H0 H s e ds hd R q=>by
 obtain ⟨a,ha,hd⟩:=A3.mp hd
 split at hd
 . split at hd
   . rename_i j hb
     cases hd
     refine h HB σ ρ H0 H s e _ ha _ fun vs H1 J1 x1 p1=> ?_;obtain ⟨v,rfl,pa⟩:=IE p1;exact ⟨j,by rw [pa.int],hb.1,hb.2,q _ _ _ x1 XY⟩
   . cases hd
 . cases hd
noncomputable def OW(f:En->Option (List Sl)):En->Option (List PyData):=fun ρ=>(f ρ).bind fun a=>match a with
 | [.val (.int i), .val (.int j)]=>if inB i/\inB j then some (GZ i (j - i).toNat) else none
 | _=>none
theorem fR{ta:TA}{f:En->Option (List Sl)}(h:RQ K R ta f):RI K R (tQ ta) (OW f):=fun HB σ ρ H0 H s e ds hd R q=>by
 obtain ⟨a,ha,hd⟩:=A3.mp hd
 split at hd
 . split at hd
   . rename_i i j hb
     cases hd
     refine h HB σ ρ H0 H s e _ ha _ fun vs H1 J1 x1 p1=> ?_;obtain ⟨v,w,rfl,pa,pb⟩:=rV p1;exact ⟨i,j,by rw [pa.int,pb.int],⟨hb.1.1,hb.1.2,hb.2.1,hb.2.2⟩,q _ _ _ x1 XY⟩
   . cases hd
 . cases hd
def OA(xs ys:List PyData):List PyData:=List.zipWith (fun x y=> .tuple [x,y]) xs ys
theorem y8{H0:Hp}{a b:Addr}{vs ws:List V}{ds es:List PyData}(h:SqL K H0 a vs)(r:Reps K H0 vs ds)(h2:SqL K H0 b ws)(r2:Reps K H0 ws es):ItR K H0 (Itz K a b) (OA ds es):=fun H0' H' s s' i=>by
 have h':=s'.seq (s.seq h);have h2':=s'.seq (s.seq h2);refine ⟨fun d hd=> ?_,fun hi=>⟨vs,ws,h',h2',?_⟩⟩
 . unfold OA at hd
   rw [zN] at hd
   cases e1:ds[i]? with
   | none=>rw [e1] at hd;cases hd
   | some x=>
    cases e2:es[i]? with
    | none=>rw [e1,e2] at hd;cases hd
    | some y=>
     rw [e1,e2] at hd
     cases hd
     obtain ⟨v,q1,q2⟩:=Tf.Reps.get r e1;obtain ⟨w,q3,q4⟩:=Tf.Reps.get r2 e2;refine ⟨⟨vs,ws,v,w,h',h2',q1,q3⟩,fun z H2 yl=> ?_⟩;obtain ⟨p,x',y',hp,rfl,rfl,hx,hy⟩:=yl;have:=hx vs h';rw [q1] at this
     cases this
     have:=hy ws h2';rw [q3] at this
     cases this
     refine ⟨_,Ext.allocF s' hp _, .tuple BZ ?_⟩;have s2:=s.trans (Same.upd (s'.free hp) (.tup [v,w]));exact .cons (Rep.same s2 q2) (.cons (Rep.same s2 q4) .nil)
 . rw [r.length,r2.length];unfold OA at hi
   rw [A69] at hi
   omega
def U1(fg:PyData->En->Option En)(gb:En->Option Out):List PyData->En->Option Out
 | [],ρ=>some (.nx ρ)
 | d::ds,ρ=>(fg d ρ).bind fun ρ1=>(gb ρ1).bind fun o=>match o with
  | .nx ρ2=>U1 fg gb ds ρ2
  | .ct ρ2=>U1 fg gb ds ρ2
  | .bk ρ2=>some (.nx ρ2)
  | .rt r ρ2=>some (.rt r ρ2)
def KW(fi:En->Option (List PyData))(fg:PyData->En->Option En)(gb:En->Option Out):En->Option Out:=fun ρ=>(fi ρ).bind fun ds=>U1 fg gb ds ρ
theorem UN {fg : PyData -> En -> Option En} {gb : En -> Option Out} {ds : List PyData} {i : Nat} {d : PyData} {ρ : En} (h : ds[i]? = some d) : U1 fg gb (ds.drop i) ρ = (fg d ρ).bind fun ρ1 => (gb ρ1).bind fun o => match o with
 | .nx ρ2=>U1 fg gb (ds.drop (i+1)) ρ2
 | .ct ρ2=>U1 fg gb (ds.drop (i+1)) ρ2
 | .bk ρ2=>some (.nx ρ2)
 | .rt r ρ2=>some (.rt r ρ2):=by
 obtain ⟨hi,e⟩:=AS.mp h;rw [E3 hi,e];rfl
theorem yL{wi:TI}{g:TG}{tb:TS}{fi:En->Option (List PyData)}{fg:PyData->En->Option En}{gb:En->Option Out}(hi:RI K R wi fi)(hg:RG K R g fg)(hb:RS K R tb gb):RS K R (A47 wi g tb) (KW fi fg gb):=fun HB S0 σ ρ H0 H x e o ho D d=>by
 obtain ⟨ds,hds,ho⟩:=A3.mp ho;refine hi HB σ ρ H0 H x.s1 e ds hds _ fun J H1 J1 x1 it=> ?_;have x':=x.chain x1;refine ⟨fun i m σ H=>m=ds.length - i/\((∃ρ H0',i<=ds.length/\Ext H1 HB H0' H/\ST R HB H0' H σ ρ/\U1 fg gb (ds.drop i) ρ=some o)),⟨_,rfl,ρ,H1,CJ _,x'.rebase,e.ext (K:=K) x1,ho⟩,?_⟩;rintro i m σ1 H2 ⟨rfl,ρ1,H0',hile,xx,e1,hf⟩;obtain ⟨ig,is⟩:=it H0' H2 xx.s0 xx.s1 i
 by_cases hlt:i<ds.length
 . right;obtain ⟨go,yl⟩:=ig ds[i] (by simp [hlt]);rw [UN (d:=ds[i]) (by simp [hlt])] at hf
   obtain ⟨ρ2,hr2,hf⟩:=A3.mp hf;obtain ⟨o2,ho2,hf⟩:=A3.mp hf;refine ⟨go,fun σ' H'=>∃ρ H0',Ext H1 HB H0' H'/\ST R HB H0' H' σ' ρ/\U1 fg gb (ds.drop (i+1)) ρ=some o,fun σ' H' ⟨ρ',H0'',a1,a2,a3⟩=>⟨ds.length - (i+1),by omega,rfl,ρ',H0'',hlt,a1,a2,a3⟩,fun v H3 y=> ?_⟩;obtain ⟨H03,x3,r3⟩:=yl v H3 y;have xx3:=xx.chain x3;refine hg HB σ1 ρ1 ρ2 H03 H3 v _ xx3.s1 xx3.s (e1.ext (K:=K) x3) r3 hr2 _ fun σ2 e2=> ?_;refine hb HB H1 σ2 ρ2 H03 H3 xx3 e2 o2 ho2 _ ?_
   cases o2 with
   | nx ρ3=>exact fun σ' H0'' H' a b=>⟨ρ3,H0'',a,b,hf⟩
   | ct ρ3=>exact fun σ' H0'' H' a b=>⟨ρ3,H0'',a,b,hf⟩
   | bk ρ3=>cases hf;exact fun σ' H0'' H' a b=>d σ' H0'' H' (x'.unbase a) b
   | rt r ρ3=>cases hf;exact fun v σ' H0'' H' a b c=>d v σ' H0'' H' (x'.unbase a) b c
 . left;refine ⟨is (by omega),?_⟩;rw [EK (by omega)] at hf
   cases hf
   exact d σ1 H0' H2 (x'.unbase xx) e1
def GB(c:En->Option Bool)(b:En->Option Out):Nat->En->Option Out
 | 0,_=>none
 | n + 1, ρ => (c ρ).bind fun k => if k then (b ρ).bind fun o => match o with
  | .nx ρ2=>GB c b n ρ2
  | .ct ρ2=>GB c b n ρ2
  | .bk ρ2=>some (.nx ρ2)
  | .rt r ρ2=>some (.rt r ρ2)
  else some (.nx ρ)
open Classical in
noncomputable def N4(c:En->Option Bool)(b:En->Option Out):En->Option Out:=fun ρ=>if h:∃o n,GB c b n ρ=some o then some h.choose else none
theorem KM{c:En->Option Bool}{b:En->Option Out}:∀ {n:Nat} {ρ:En} {o:Out},GB c b n ρ=some o->∀m,n<=m->GB c b m ρ=some o
 | 0,_,_,h,_,_=>by cases h
 | n+1,ρ,o,h,m,hm=>by
  obtain ⟨m,rfl⟩:∃k,m=k+1:=⟨m - 1,by omega⟩;unfold GB at h ⊢
  obtain ⟨k,hk,h⟩:=A3.mp h;rw [hk]
  cases k with
  | false=>exact h
  | true=>
   show Option.bind _ _=_;simp only [G6] at h
   obtain ⟨o2,h2,h⟩:=A3.mp h;rw [h2]
   cases o2 with
   | nx ρ2=>exact KM (n:=n) h m (by omega)
   | ct ρ2=>exact KM (n:=n) h m (by omega)
   | bk ρ2=>exact h
   | rt r _=>exact h
theorem gJ{c:En->Option Bool}{b:En->Option Out}{ρ:En}{o:Out}{n:Nat}(h:GB c b n ρ=some o):N4 c b ρ=some o:=by
 have hx:∃o n,GB c b n ρ=some o:=⟨o,n,h⟩;unfold N4;rw [dif_pos hx];obtain ⟨m,hm⟩:=hx.choose_spec;have h1:=KM h (max n m) (Nat.le_max_left _ _);have h2:=KM hm (max n m) (Nat.le_max_right _ _);rw [<-h2,h1]
theorem XV{c:En->Option Bool}{b:En->Option Out}{ρ:En}{o:Out}(h:N4 c b ρ=some o):∃n,GB c b n ρ=some o:=by
 unfold N4 at h
 split at h
 . rename_i hx;obtain ⟨m,hm⟩:=hx.choose_spec
   cases h
   exact ⟨m,hm⟩
 . cases h
theorem jQ{c:TT}{tb:TS}{fc:En->Option Bool}{gb:En->Option Out}(hc:RT K R c fc)(hb:RS K R tb gb):RS K R (mZ c tb) (N4 fc gb):=fun HB S0 σ ρ H0 H x e o ho D d=>by
 obtain ⟨n,hn⟩:=XV ho;refine ⟨fun m σ H=>∃ρ H0,Ext S0 HB H0 H/\ST R HB H0 H σ ρ/\GB fc gb m ρ=some o,⟨n,ρ,H0,x,e,hn⟩,?_⟩;rintro m σ1 H1 ⟨ρ1,H01,x1,e1,hw⟩
 cases m with
 | zero=>cases hw
 | succ m=>
  unfold GB at hw
  obtain ⟨k,hk,hw⟩:=A3.mp hw;refine hc HB σ1 ρ1 H01 H1 x1.s1 e1 k hk _ fun H2 J2 x2=> ?_;have x12:=x1.chain x2
  cases k with
  | false=>cases hw;exact Z7 (d σ1 H2 J2 x12 (e1.ext (K:=K) x2))
  | true=>
   simp only [G6] at hw
   obtain ⟨o2,h2,hw⟩:=A3.mp hw;refine ZA ⟨fun σ' H'=>∃ρ H0,Ext S0 HB H0 H'/\ST R HB H0 H' σ' ρ/\GB fc gb m ρ=some o,fun σ' H' h=>⟨m,GF m,h⟩,?_⟩;refine hb HB S0 σ1 ρ1 H2 J2 x12 (e1.ext (K:=K) x2) o2 h2 _ ?_
   cases o2 with
   | nx ρ3=>exact fun σ' H0'' H' a b=>⟨ρ3,H0'',a,b,hw⟩
   | ct ρ3=>exact fun σ' H0'' H' a b=>⟨ρ3,H0'',a,b,hw⟩
   | bk ρ3=>cases hw;exact fun σ' H0'' H' a b=>d σ' H0'' H' a b
   | rt r ρ3=>cases hw;exact fun v σ' H0'' H' a b c=>d v σ' H0'' H' a b c
def mAsgT(g:PyData->En->Option En)(f:En->Option Sl):En->Option Out:=fun ρ=>(f ρ).bind fun r=>(g r.dat ρ).map .nx
theorem qQ{te:TE}{g:TG}{f:En->Option Sl}{fg:PyData->En->Option En}(h:RE K R te f)(hg:RG K R g fg):RS K R (p0 te g) (mAsgT fg f):=fun HB S0 σ ρ H0 H x e o ho D d=>by
 obtain ⟨r,hr,ho⟩:=Option.bind_eq_some_iff.mp ho;obtain ⟨ρ',hg',rfl⟩:=Option.map_eq_some_iff.mp ho;refine h.rv HB σ ρ H0 H x.s1 e r.dat (by unfold mDat;rw [hr];rfl) _ fun v H1 J1 x1 p1=> ?_;have x':=x.chain x1;exact hg HB σ ρ ρ' H1 J1 v _ x'.s1 x'.s (e.ext (K:=K) x1) p1 hg' _ fun σ' e'=>d σ' H1 J1 x' e'
def mPar(i j:Nat)(f:En->Option (List PyData)):En->Option Out:=fun ρ=>(f ρ).bind fun ds=>match ds with
 | [a,b]=>some (.nx ((ρ.set i (some (.val a))).set j (some (.val b))))
 | _=>none
end
end Dm
namespace Dm
open PySem PySem.Spec PyProof.Rows L2 Tf
section
variable {K:PySem.W.Frag}
def E6(ix:List (Option Nat))(ρ:En):En:=ix.map fun o=>match o with | some j=>(ρ[j]?).join | none=>none
theorem nC:∀ {ix:List (Option Nat)},(ix.filterMap id).Nodup->∀ {i k j:Nat},ix[i]? = some (some j)->ix[k]? = some (some j)->i=k
 | [],_,i,k,j,h,_=>by simp at h
 | o::r,hn,i,k,j,h1,h2=>by
  have hr:(r.filterMap id).Nodup:=by
   cases o with
   | none=>simpa using hn
   | some a=>have hn:(a::r.filterMap id).Nodup:=hn;exact (G1.mp hn).2
  have out:∀ {k:Nat},o=some j->r[k]? = some (some j)->False:=by
   intro k ho hk;subst ho;have hn:(j::r.filterMap id).Nodup:=hn;exact (G1.mp hn).1 (JC.mpr ⟨some j,BB hk,rfl⟩)
  cases i with
  | zero=>
   cases k with
   | zero=>rfl
   | succ k=>simp at h1 h2;exact (out h1 h2).elim
  | succ i=>
   cases k with
   | zero=>simp at h1 h2;exact (out h2 h1).elim
   | succ k=>simp at h1 h2;rw [nC hr h1 h2]
theorem S1{ix:List (Option Nat)}{ρ:En}{i:Nat}{s:Sl}(h:(E6 ix ρ)[i]? = some (some s)):∃j,ix[i]? = some (some j)/\ρ[j]? = some (some s):=by
 unfold E6 at h
 rw [AX] at h
 cases e:ix[i]? with
 | none=>rw [e] at h;cases h
 | some o=>
  rw [e] at h
  cases o with
  | none=>cases h
  | some j=>exact ⟨j,rfl,join_some (BG h)⟩
theorem RJ{ix:List (Option Nat)}{σ:L2.St}{i j:Nat}(h:ix[i]? = some (some j)):(JY ix σ)[i]? = some (σ[j]?).join:=by
 unfold JY;rw [List.getElem?_map,h];rfl
theorem ER.sub{HB H0 H:Hp}{σ:L2.St}{ρ:En}{ix:List (Option Nat)}(hx:(ix.filterMap id).Nodup)(e:ER K HB H0 H σ ρ):ER K (fun _=>none) H0 H (JY ix σ) (E6 ix ρ):=by
 refine ⟨by unfold JY E6;rw [List.length_map,List.length_map],fun i s h=> ?_,fun i k a ds es hik h1 h2 h3 h4=> ?_⟩
 . obtain ⟨j,h1,h2⟩:=S1 h;obtain ⟨v,h3,h4⟩:=e.get j s h2;refine ⟨v,by rw [RJ h1,h3];rfl,?_⟩
   cases s with
   | val d=>exact h4
   | own ds=>
    obtain ⟨a,vs,q1,_,q2⟩:=h4
    exact ⟨a,vs,q1,rfl,q2⟩
   | dct ds=>
    obtain ⟨a,vs,q1,_,q2⟩:=h4;exact ⟨a,vs,q1,rfl,q2⟩
 . obtain ⟨j,g1,g2⟩:=S1 h1;obtain ⟨l,g3,g4⟩:=S1 h2
   have hjl:j≠l:=by
    rintro rfl;exact hik (nC hx g1 g3)
   rw [RJ g1] at h3
   rw [RJ g3] at h4
   exact e.apart j l a ds es hjl g2 g4 (join_some (BG h3)) (join_some (BG h4))
def MF(f:PyData->Option (Option PyData)):List PyData->Option (List PyData)
 | []=>some []
 | d::ds=>(f d).bind fun r=>(MF f ds).map fun GR=>match r with
  | some x=>x::GR
  | none=>GR
def elM(fg:PyData->En->Option En)(ft:En->Option Bool)(fe:En->Option Sl)(ρ0:En):PyData->Option (Option PyData):=fun d=>(fg d ρ0).bind fun ρ'=>(ft ρ').bind fun b=>if b then (fe ρ').map (fun r=>some r.dat) else some none
def mLC(sb:En->En)(fi:En->Option (List PyData))(fg:PyData->En->Option En)(ft:En->Option Bool)(fe:En->Option Sl):En->Option Sl:=fun ρ=>(fi ρ).bind fun ds=>
 if ds.length<sizeLine then (MF (elM fg ft fe (sb ρ)) ds).map .own else none
def mYes:En->Option Bool:=fun _=>some true
theorem wF{R:Rl}:RT K R tNoTest mYes:=fun HB σ ρ H0 H s e b hb Q q=>by cases hb;exact q _ _ (Ext.refl s)
theorem uU {R R' : Rl} [RelOk K R] [RelOk K R'] {sb : En -> En} {ix : List (Option Nat)} {wi : TI} {g : CB -> TG} {tt : CB -> TT} {te : CB -> TE} {fi : En -> Option (List PyData)} {fg : PyData -> En -> Option En} {ft : En -> Option Bool} {fe : En -> Option Sl}
 (hx:∀(HB:Hp) (σ:L2.St) (ρ:En) (H0 H:Hp),R.r HB H0 H σ ρ->R'.r (fun _=>none) H0 H (JY ix σ) (sb ρ))
 (hi:RI K R wi fi) (hg:∀b,RG K R' (g b) fg) (ht:∀b,RT K R' (tt b) ft) (he:∀b,RE K R' (te b) fe):RE K R (tLC ix wi g tt te) (mLC sb fi fg ft fe):=fun HB σ ρ H0 H s e z hz Q q=>by
 obtain ⟨ds,hds,hz⟩:=A3.mp hz
 split at hz
 . rename_i hlen;obtain ⟨all,hall,rfl⟩:=AG.mp hz;refine hi HB σ ρ H0 H s e ds hds _ fun J H1 J1 x1 it b=> ?_;have e1:ST R' (fun _=>none) H1 J1 (JY ix σ) (sb ρ):=⟨hx HB σ ρ H1 J1 (e.ext (K:=K) x1).r⟩;refine ⟨fun i m ys H=>m=ds.length - i/\i<=ds.length/\∃H0' es GR,Ext H1 J1 H0' H/\Reps K H0' ys es/\es.length<=i/\MF (elM fg ft fe (sb ρ)) (ds.drop i)=some GR/\es++GR=all,⟨_,rfl,CJ _,H1,[],all,Ext.refl x1.s1, .nil,AF _,hall,rfl⟩,?_⟩;rintro i m ys H2 ⟨rfl,hile,H0',es,GR,xx,hr,hel,hc,hsum⟩;obtain ⟨ig,is⟩:=it H0' H2 xx.s0 xx.s1 i;refine ⟨by rw [hr.length];omega,?_⟩
   by_cases hlt:i<ds.length
   . right;obtain ⟨go,yl⟩:=ig ds[i] (by simp [hlt]);rw [E3 hlt] at hc
     obtain ⟨r,hr1,hc⟩:=A3.mp (show (elM fg ft fe (sb ρ) ds[i]).bind _=some GR from hc);obtain ⟨rest',hr2,hc⟩:=AG.mp hc;refine ⟨go,fun ys' H'=>∃H0' es GR,Ext H1 J1 H0' H'/\Reps K H0' ys' es/\es.length<=i+1/\MF (elM fg ft fe (sb ρ)) (ds.drop (i+1))=some GR/\es++GR=all,fun ys' H' h=>⟨ds.length - (i+1),by omega,rfl,hlt,h⟩,fun v H3 y=> ?_⟩;obtain ⟨H03,x3,r3⟩:=yl v H3 y;obtain ⟨ρ',hg',hb'⟩:=A3.mp hr1;obtain ⟨bb,hbb,hb'⟩:=A3.mp hb';have xx3:=xx.trans x3;refine hg b (fun _=>none) _ _ ρ' H03 H3 v _ x3.s1 (fun _ _ h=>by cases h) (e1.ext (K:=K) xx3) r3 hg' _ fun σ2 e2=> ?_;refine ht b _ σ2 ρ' H03 H3 x3.s1 e2 bb hbb _ fun H4 J4 x4=> ?_
     cases bb with
     | true=>
      refine ZA ?_;obtain ⟨rr,hrr,rfl⟩:=Option.map_eq_some_iff.mp (show (fe ρ').map (fun r=>some r.dat)=some r from hb');refine (he b).rv _ σ2 ρ' H4 J4 x4.s1 (e2.ext (K:=K) x4) rr.dat (by unfold mDat;rw [hrr];rfl) _ fun w H5 J5 x5 p5=> ?_;refine ⟨H5,es ++ [rr.dat],rest',(xx3.trans x4).trans x5,Tf.Reps.snoc (Reps.same ((x3.s0.trans x4.s0).trans x5.s0) hr) p5,by rw [List.length_append];simpa using hel,hr2,?_⟩;rw [<-hsum, <-hc,List.append_assoc]
      rfl
     | false=>
      refine Z7 ?_
      cases hb'
      exact ⟨H4,es,rest',xx3.trans x4,Reps.same (x3.s0.trans x4.s0) hr,by omega,hr2,by rw [<-hsum, <-hc]⟩
   . left;have hi':i=ds.length:=by omega
     refine ⟨is (by omega),fun p hp=> ?_⟩;rw [EK (by omega)] at hc
     cases hc
     rw [EA] at hsum
     subst hsum;have xy:=x1.trans xx;exact q _ _ _ (xy.trans (Ext.alloc xx.s1 hp _)) ⟨p,ys,rfl,xy.s.free hp,xx.s1.free hp,BZ,hr⟩
 . cases hz
def FW(n:Nat)(g:En->Option Out)(k:Nat):List PyData->Option Sl:=fun ds=>if ds.length=k then (g (ds.map (fun d=>some (.val d))++List.replicate (n - ds.length) none)).bind fun o=>match o with
 | .rt r _=>some r
 | .nx _=>some (.val .none)
 | _=>none else none
theorem YL{N:List Str}{H0 H:Hp}{vs:List V}{ds:List PyData}(h:Reps K H0 vs ds):ER K H H0 H (L2.start N vs) (ds.map (fun d=>some (.val d))++List.replicate (N.length - ds.length) none):=by
 have hl:=h.length
 have noown:∀(i:Nat) s,(ds.map (fun d=>some (Sl.val d))++List.replicate (N.length - ds.length) none)[i]? = some (some s)->∃d,ds[i]? = some d/\s = .val d:=by
  intro i s hs
  by_cases hi:i<ds.length
  . rw [NE (by simpa using hi),AX,AB hi] at hs
    cases hs
    exact ⟨_,AB hi,rfl⟩
  . rw [MP (by simpa using hi),ED] at hs
    split at hs <;> cases hs
 refine ⟨?_,fun i s hs=> ?_,fun i j a xs ys _ h1 _ _ _=> ?_⟩
 . unfold L2.start;simp only [List.length_append,List.length_map,List.length_replicate,hl]
 . obtain ⟨d,hd,rfl⟩:=noown i s hs;obtain ⟨v,h1,h2⟩:=Tf.Reps.get h hd;refine ⟨v,?_,h2⟩;unfold L2.start;have hi:i<vs.length:=(List.getElem?_eq_some_iff.mp h1).1;rw [List.getElem?_append_left (by simpa using hi),List.getElem?_map,h1];rfl
 . obtain ⟨d,_,e⟩:=noown i _ h1
   cases e
section
variable {P:Program} {w:World} {mg:Str->Option Value} {base:Heap}
def DSs(X:Cx)(R:Rl)(st:List Stmt)(g:En->Option Out):Prop:=∃t,PSs X st t/\RS X.K R t g
theorem fnD {x qual : Str} {st : Stmt} {f : Addr} {fd : FuncData} {N ps : List Str} {k n m : Nat} {g : En -> Option Out} (F : Fun K x qual st f fd) (S : FnScope N ps (B9 st)) (hn : N.length = n) (hm : ps.length = m)
 (hb:∀(cdv:Value) (A:Around) (outer:List Env) (s:Shared) (H:Hp) (E:XK),Room k (A.deeper (envOfC qual (B9 st) s.heap.objs.size f cdv))->DSs (U3 CX0 P w K mg base N qual (B9 st) f cdv A outer s H E).nox (PR K) (IB st) g) :
 FnOk P w K mg base CX0 (k+1) f fd ps (spD K (FW n g m)):=by
 subst hn hm;refine F.ok S (fun vs H Q E h=> ?_) fun cdv A outer s H vs Q E hr h=> ?_
 . obtain ⟨H0,ds,r,s,hr,hf,_⟩:=h;unfold FW at hf
   split at hf
   . rename_i hl;rw [hr.length,hl]
   . cases hf
 . obtain ⟨t,ht,rs⟩:=hb cdv A outer s H E hr;refine ⟨t,ht,?_⟩;obtain ⟨H0,ds,r,s0,hr,hf,q⟩:=h;unfold FW at hf
   split at hf
   . obtain ⟨o,ho,hf⟩:=A3.mp hf;refine rs H H0 _ _ H0 H (Ext.refl s0) ⟨YL hr⟩ o ho _ ?_
     cases o with
     | rt r' _=>cases hf;exact fun v σ H1 J1 a _ b=>q v H1 J1 a b
     | nx _=>cases hf;exact fun σ H1 J1 a b=>q .non H1 J1 a .none
     | bk _=>cases hf
     | ct _=>cases hf
   . cases hf
end
end
theorem pP{K:PySem.W.Frag}{F:List PyData->Option Sl}(hL:∀ns:List Int,ns.length<=63->F [.list (ns.map .int)]=some (.val (.bool true))){vs:List V}{H:Hp}{Q:VK}{E:XK}(h:dN K vs H Q E):spD K F vs H Q E:=by
 obtain ⟨a,ns,rfl,h1,h2,q⟩:=h
 have allI:∀ns:List Int,Reps K H (ns.map V.int) (ns.map .int):=fun ns=>by
  induction ns with
  | nil=>exact .nil
  | cons n r ih=>exact .cons (.int n) ih
 refine ⟨H,[.list (ns.map .int)], .val (.bool true),Same.refl H, .cons (.list h1 (allI ns)) .nil,hL ns h2,fun v H0' H' x p=> ?_⟩
 cases (show Rep K H0' v (.bool true) from p)
 exact q H'
section
variable {X:Cx} {R R':Rl} [RelOk X.K R] [RelOk X.K R'] {a b c e:Expr} {pos p:Pos} {f g fa fb fc:En->Option Sl}
def DE(X:Cx)(R:Rl)(e:Expr)(f:En->Option Sl):Prop:=∃te,PE X e te/\RE X.K R te f
def DP(X:Cx)(R:Rl)(e:Expr)(f:En->Option Sl):Prop:=∃te,PE X e te/\RP X.K R te f
def DA(X:Cx)(R:Rl)(es:List Expr)(f:En->Option (List PyData)):Prop:=∃ta,PA X es ta/\RA X.K R ta f
def DQ(X:Cx)(R:Rl)(es:List Expr)(f:En->Option (List Sl)):Prop:=∃ta,PA X es ta/\RQ X.K R ta f
def DT(X:Cx)(R:Rl)(e:Expr)(f:En->Option Bool):Prop:=∃tt,PT X e tt/\RT X.K R tt f
def DW(X:Cx)(R:Rl)(e:Expr)(f:En->Option Bool):Prop:=∃tt,PW X e tt/\RT X.K R tt f
def DO(X:Cx)(R:Rl)(e:Option Expr)(f:En->Option (Option Int)):Prop:=∃to,PO X e to/\RO X.K R to f
def DS(X:Cx)(R:Rl)(st:Stmt)(g:En->Option Out):Prop:=∃t,PS X st t/\RS X.K R t g
def DG(X:Cx)(R:Rl)(e:Expr)(g:PyData->En->Option En):Prop:=∃t,PG X e t/\RG X.K R t g
def DGs(X:Cx)(R:Rl)(es:List Expr)(gs:List (PyData->En->Option En)):Prop:=∃t,PGs X es t/\RGs X.K R t gs
def DI(X:Cx)(R:Rl)(tg e:Expr)(f:En->Option (List PyData)):Prop:=∃wi,PI X tg e wi/\RI X.K R wi f
theorem DE.dp(h:DE X R e f):DP X R e f:=by obtain ⟨t,h1,h2⟩:=h;exact ⟨t,h1,h2.rp⟩
theorem AH (i : Nat) {x : Str} (hN : X.N[i]? = some x := by rfl) (hv : Vis X.env.scope x := by first | exact KR rfl | exact GN (KR rfl) | exact GN (GN rfl)) (hd : (x == ("__debug__" : Str)) = false := by decide)
 (hcd:(x==("__classdict__" : Str))=false:=by decide) (hsl:R.slot i:=by first | exact CM | exact ⟨AO rfl,AO rfl⟩):DP X R (.Name x pos) (mPk i):=⟨_,Q3 hN hv hd hcd,yD i hsl⟩
theorem AM (i : Nat) {x : Str} (hN : X.N[i]? = some x := by rfl) (hv : Vis X.env.scope x := by first | exact KR rfl | exact GN (KR rfl) | exact GN (GN rfl)) (hd : (x == ("__debug__" : Str)) = false := by decide)
 (hcd:(x==("__classdict__" : Str))=false:=by decide) (hsl:R.slot i:=by first | exact CM | exact ⟨AO rfl,AO rfl⟩):DE X R (.Name x pos) (mVar i):=⟨_,Q3 hN hv hd hcd,vL i hsl⟩
theorem B3{i:Int}{j}:DE X R (.Constant (.int i) j pos) (mK (.int i)):=⟨_,wE,oZ fun _=> .int i⟩
theorem HC{i:Bool}{j}:DE X R (.Constant (.bool i) j pos) (mK (.bool i)):=⟨_,A53,oZ fun _=> .bool i⟩
theorem cI{j}:DE X R (.Constant .none j pos) (mK .none):=⟨_,vZ,oZ fun _=> .none⟩
theorem OC{i:Str}{j}:DE X R (.Constant (.str i) j pos) (mK (.str i)):=⟨_,vI,oZ fun _=> .str i⟩
theorem UM{o:Operator}{r:R2}{op:Sl->Sl->Option Sl}(ho:OpR X (binaryOp o) r)(hd:OpD X.K r op)(ha:DP X R a fa)(hb:DP X R b fb):DE X R (.BinOp a o b pos) (mBin op fa fb):=by
 obtain ⟨ta,h1,h2⟩:=ha;obtain ⟨tb,h3,h4⟩:=hb;exact ⟨_,A45 ho h1 h3,WK hd h2 h4⟩
def dAddI:Sl->Sl->Option Sl:=iop fun i j=>i+j
def dSub:Sl->Sl->Option Sl:=iop fun i j=>i - j
def VB(i j:Int):Prop:=CMul i j\/A27 i j
theorem sK:OpR X (binaryOp .Mult) (rI VB fun i j=> .int (i*j)):=opI fun _ _ _ _ _ _ _ hc q=>by
 rcases hc with hc | ⟨n,m,h1,h2,h3⟩
 . exact mul_int q hc.ok
 . exact mul_int q (A46 h1 h2 h3)
noncomputable def tG:Sl->Sl->Option Sl:=YS VB fun i j=>i*j
noncomputable def EG:Sl->Sl->Option Sl:=YS kS fun i j=>i.fdiv j
noncomputable def FG:Sl->Sl->Option Sl:=YS (fun _ j=>j≠0) fun i j=>i.fmod j
theorem aA(ha:DP X R a fa)(hb:DP X R b fb):DE X R (.BinOp a .Sub b pos) (mBin dSub fa fb):=UM yX qW ha hb
theorem I9(ha:DP X R a fa)(hb:DP X R b fb):DE X R (.BinOp a .FloorDiv b pos) (mBin EG fa fb):=UM kC SN ha hb
theorem FH(ha:DP X R a fa)(hb:DP X R b fb):DE X R (.BinOp a .Mod b pos) (mBin FG fa fb):=UM oB SN ha hb
def uJ(K:PySem.W.Frag):R2:=fun x y H Q=>∃l b xs zs,x = .ref l/\y = .ref b/\SqL K H l xs/\SqL K H b zs/\xs.length+zs.length<=sizeLine/\∀p,H p=none->Q (.ref p) (upd H p (.lst (xs++zs)))
theorem rZ:OpR X (binaryOp .Add) (uJ X.K):=by
 intro pins s σ H x y v u Q I rx ry h;obtain ⟨l,b,xs,zs,rfl,rfl,hH,hB,hz,q⟩:=h
 cases rx
 cases ry
 obtain ⟨its,r,p1,_⟩:=I.list hH;obtain ⟨its2,r2,p2,_⟩:=I.list hB;obtain ⟨⟨cls,dd,data,sl⟩,n,ho,hc,hd1,hd⟩:=id p1;obtain ⟨⟨cls2,dd2,data2,sl2⟩,n2,ho2,hc2,hd2',hd2⟩:=id p2;simp only at hc hd hc2 hd2
 subst hc hd hc2 hd2;have l1:=r.length;have l2:=r2.length;refine iA ⟨_,ho,rfl⟩ ⟨_,ho2,rfl⟩ noFill_list_add seq_list_add PySem.F.slot_list_add PySem.F.entry_list_add (PySem.F.args_list_add_2 _ _) (list_addW l b its.toArray its2.toArray n n2 dd dd2 sl sl2 (by rw [AT,AT];omega)) ⟨ho,ho2,?_⟩;have ea:its.toArray++its2.toArray=(its++its2).toArray:=by simp
 rw [ea];exact ⟨.ref _,_,I.lnew (t':=s.toks) (r.append r2) (by rw [BC];omega),rfl,q _ I.fresh⟩
def jZ(K:PySem.W.Frag):R2:=fun x y H Q=>∃a b ys,x = .ref a/\y = .ref b/\SqT K H a []/\SqT K H b ys/\Q (.ref b) H
theorem jT:OpR X (binaryOp .Add) (jZ X.K):=by
 intro pins s σ H x y v u Q I rx ry h;obtain ⟨a,b,ys,rfl,rfl,ha,hb,q⟩:=h
 cases rx
 cases ry
 obtain ⟨its,r1,p1,_⟩:=I.tuple ha;obtain ⟨its2,r2,p2,_⟩:=I.tuple hb
 cases r1
 obtain ⟨⟨cls,dd,data,sl⟩,ho,hc,n,hd⟩:=id p1;obtain ⟨⟨cls2,dd2,data2,sl2⟩,ho2,hc2,n2,hd2⟩:=id p2;simp only at hc hd hc2 hd2
 subst hc hd hc2 hd2
 exact iA ⟨_, ho, rfl⟩ ⟨_, ho2, rfl⟩ nX A75 PQ OG (NW _ _)
  (tuple_addW0 a b ([]:List Value).toArray its2.toArray n n2 dd dd2 sl sl2 (by simp)) ⟨ho,ho2, .ref b,H,I,rfl,q⟩
def uM(K:PySem.W.Frag):R2:=fun x y H Q=>rI0 (fun i j=> .int (i+j)) x y H Q\/uJ K x y H Q\/jZ K x y H Q\/uQ K x y H Q\/(∃i j,x = .str i/\y = .str j/\i.length+j.length<=sizeLine/\Q (.str (i++j)) H)
theorem qO:OpR X (binaryOp .Add) (uM X.K):=wQ.or (rZ.or (jT.or (qD.or aL)))
def dAdd(a b:Sl):Option Sl:=match a.dat,b.dat with
 | .int i, .int j=>some (.val (.int (i+j)))
 | .list xs, .list ys=>if xs.length+ys.length<=sizeLine then some (.own (xs++ys)) else none
 | .tuple xs, .tuple ys=>if xs.length+ys.length<=sizeLine then some (.val (.tuple (xs++ys))) else none
 | .str i, .str j=>if i.length+j.length<=sizeLine then some (.val (.str (i++j))) else none
 | _,_=>none
theorem SlP.atom{K:PySem.W.Frag}{H0 H:Hp}{v:V}{d:PyData}{r:Sl}(h:SlP K H0 H v r)(e:r.dat=d)(n:∀ds,d ≠ .list ds)(n2:∀kvs,d ≠ .dict kvs:=by intro _ h;cases h):Rep K H0 v d:=by
 cases r with
 | val _=>cases e;exact h
 | own _=>exact absurd e.symm (n _)
 | dct _=>exact absurd e.symm (n2 _)
theorem Reps.append{K:PySem.W.Frag}{H:Hp}:∀ {vs ws:List V} {ds es:List PyData},Reps K H vs ds->Reps K H ws es->Reps K H (vs++ws) (ds++es)
 | _,_,_,_, .nil,h=>h
 | _,_,_,_, .cons a t,h=> .cons a (Reps.append t h)
theorem pE{K:PySem.W.Frag}:OpD K (uM K) dAdd:=fun H0 H x y sx sy z s px py hz Q q=>by
 unfold dAdd at hz
 split at hz
 . rename_i i j e1 e2
   cases hz
   cases px.atom e1 (fun _ h=>nomatch h)
   cases py.atom e2 (fun _ h=>nomatch h)
   exact .inl ⟨_,_,rfl,rfl,q _ _ _ (Ext.refl s) (.int _)⟩
 . rename_i xs ys e1 e2
   split at hz
   . rename_i hl
     cases hz
     obtain ⟨a,vs,rfl,h1,h2⟩:=px.lst s e1;obtain ⟨b,ws,rfl,h3,h4⟩:=py.lst s e2;exact .inr (.inl ⟨a,b,vs,ws,rfl,rfl,h1,h3,by rw [h2.length,h4.length];exact hl,fun p hp=>q _ _ _ (Ext.alloc s hp _) ⟨p,_,rfl,hp,s.free hp,BZ,Reps.append h2 h4⟩⟩)
   . cases hz
 . rename_i xs ys e1 e2
   split at hz
   . rename_i hl
     cases hz
     obtain ⟨a,vs,rfl,h1,h2⟩:=px.tup e1;obtain ⟨b,ws,rfl,h3,h4⟩:=py.tup e2
     by_cases hv:vs = []
     . subst hv
       cases h2
       exact .inr (.inr (.inl ⟨a,b,ws,rfl,rfl,s.seqT (SqT.of h1),s.seqT (SqT.of h3),q _ _ _ (Ext.refl s) (.tuple h3 h4)⟩))
     . refine .inr (.inr (.inr (.inl ⟨a,b,vs,ws,rfl,rfl,s.seqT (SqT.of h1),s.seqT (SqT.of h3),hv,by rw [h2.length,h4.length];exact hl,fun hw=> ?_,fun hw p hp=> ?_⟩)))
       . subst hw
         cases h4
         rw [EA] at q
         exact q _ _ _ (Ext.refl s) (.tuple h1 h2)
       . exact q _ _ _ (Ext.allocF s hp _) (.tuple BZ (Reps.same (Same.upd (s.free hp) _) (Reps.append h2 h4)))
   . cases hz
 . rename_i i j e1 e2
   split at hz
   . rename_i hl
     cases hz
     cases px.atom e1 (fun _ h=>nomatch h)
     cases py.atom e2 (fun _ h=>nomatch h)
     exact .inr (.inr (.inr (.inr ⟨_,_,rfl,rfl,hl,q _ _ _ (Ext.refl s) (.str _)⟩)))
   . cases hz
 . cases hz
theorem F5(ha:DP X R a fa)(hb:DP X R b fb):DE X R (.BinOp a .Add b pos) (mBin dAdd fa fb):=UM qO pE ha hb
noncomputable def dRep(a b:Sl):Option Sl:=match a,b with
 | .own xs, .val (.int k)=>if -(2 ^ 63)<=k/\k<2 ^ 63/\xs.length*k.toNat<=sizeLine then some (.own (List.replicate k.toNat xs).flatten) else none
 | a,b=>tG a b
theorem Reps.rep{K:PySem.W.Frag}{H:Hp}{vs:List V}{ds:List PyData}(h:Reps K H vs ds):∀k:Nat,Reps K H (List.replicate k vs).flatten (List.replicate k ds).flatten
 | 0=> .nil
 | k+1=>by
  rw [BW,BW,EJ,EJ];exact Reps.append h (Reps.rep h k)
theorem sU{K:PySem.W.Frag}:OpD K (fun x y H Q=>rRep x y H Q\/rI VB (fun i j=> .int (i*j)) x y H Q) dRep:=fun H0 H x y sx sy z s px py hz Q q=>by
 unfold dRep at hz
 split at hz
 . split at hz
   . rename_i hl
     cases hz
     obtain ⟨a,vs,rfl,h1,h2⟩:=px;exact .inl ⟨a,_,vs,rfl,py.int,h1,hl.1,hl.2.1,by rw [h2.length];exact hl.2.2,fun p hp=>q _ _ _ (Ext.alloc s hp _) ⟨p,_,rfl,hp,s.free hp,BZ,Reps.rep h2 _⟩⟩
   . cases hz
 . exact .inr (SN H0 H x y _ _ z s px py hz Q q)
theorem GQ(ha:DP X R a fa)(hb:DP X R b fb):DE X R (.BinOp a .Mult b pos) (mBin dRep fa fb):=UM (yR.or sK) sU ha hb
theorem vG(ha:DP X R a fa):DE X R (.UnaryOp .USub a pos) (mUn (iun fun i=> -i) fa):=by
 obtain ⟨ta,h1,h2⟩:=ha;exact ⟨_,A56 yS h1,A51 rF h2⟩
theorem SA{o:CmpOp}{r:R2}{op:Sl->Sl->Option Sl}(ho:OpR X (compareOp o) r)(hd:OpD X.K r op)(ha:DP X R a fa)(hb:DP X R b fb)(hm:behindInMarks o b=false):DE X R (.Compare a [o] [b] pos) (mBin op fa fb):=by
 obtain ⟨ta,h1,h2⟩:=ha;obtain ⟨tb,h3,h4⟩:=hb;exact ⟨_,q5 ho h1 h3 hm,WK hd h2 h4⟩
theorem O9{o:CmpOp}{r:R2}{op:Sl->Sl->Option Sl}(ho:OpR X (compareOp o) r)(hd:OpD X.K r op)(ha:DP X R a fa)(hb:DP X R b fb)(hm:behindInMarks o b=false):DT X R (.Compare a [o] [b] pos) (mTest (mBin op fa fb)):=by
 obtain ⟨ta,h1,h2⟩:=ha;obtain ⟨tb,h3,h4⟩:=hb;exact ⟨_,oA ho h1 h3 hm,bZ (WK hd h2 h4).rp⟩
def dLt:Sl->Sl->Option Sl:=icmp fun i j=>decide (i<j)
def dLe:Sl->Sl->Option Sl:=icmp fun i j=>decide (i<=j)
def dGt:Sl->Sl->Option Sl:=icmp fun i j=>decide (j<i)
def dGe:Sl->Sl->Option Sl:=icmp fun i j=>decide (j<=i)
theorem kK(ha:DP X R a fa)(hb:DP X R b fb):DE X R (.Compare a [.Lt] [b] pos) (mBin dLt fa fb):=SA u8 L9 ha hb (K5 _)
theorem uR(ha:DP X R a fa)(hb:DP X R b fb):DE X R (.Compare a [.LtE] [b] pos) (mBin dLe fa fb):=SA A33 L9 ha hb (K5 _)
theorem A21(ha:DP X R a fa)(hb:DP X R b fb):DE X R (.Compare a [.Gt] [b] pos) (mBin dGt fa fb):=SA uA L9 ha hb (K5 _)
theorem tU(hu:X.A.units+64<cLine)(ha:DP X R a fa)(hb:DP X R b fb):DE X R (.Compare a [.Eq] [b] pos) (mBin deq fa fb):=SA (iK hu) lL ha hb (K5 _)
theorem A50(hu:X.A.units+64<cLine)(ha:DP X R a fa)(hb:DP X R b fb):DE X R (.Compare a [.NotEq] [b] pos) (mBin dne fa fb):=SA (kQ hu) jC ha hb (K5 _)
theorem lS(ha:DP X R a fa)(hb:DP X R b fb):DT X R (.Compare a [.Lt] [b] pos) (mTest (mBin dLt fa fb)):=O9 u8 L9 ha hb (K5 _)
theorem A13(ha:DP X R a fa)(hb:DP X R b fb):DT X R (.Compare a [.Gt] [b] pos) (mTest (mBin dGt fa fb)):=O9 uA L9 ha hb (K5 _)
theorem A31(ha:DP X R a fa)(hb:DP X R b fb):DT X R (.Compare a [.GtE] [b] pos) (mTest (mBin dGe fa fb)):=O9 A19 L9 ha hb (K5 _)
theorem UJ(hu:X.A.units+64<cLine)(ha:DP X R a fa)(hb:DP X R b fb):DT X R (.Compare a [.Eq] [b] pos) (mTest (mBin deq fa fb)):=O9 (iK hu) lL ha hb (K5 _)
theorem QL(hu:X.A.units+64<cLine)(ha:DP X R a fa)(hb:DP X R b fb):DT X R (.Compare a [.NotEq] [b] pos) (mTest (mBin dne fa fb)):=O9 (kQ hu) jC ha hb (K5 _)
theorem wC(ha:DP X R a fa)(hb:DP X R b fb):DT X R (.Compare a [.Is] [b] pos) (mTest (mBin disN fa fb)):=O9 vY oE ha hb (K5 _)
theorem K3(h:DP X R e f)(he:∀whole,isTrue e X.env whole=(do let v <-whole;standAt e.pos;holding [v] (truthy v)):=by intro _;rfl):DT X R e (mTest f):=by
 obtain ⟨t,h1,h2⟩:=h;exact ⟨_,xZ h1 he,A95 h2⟩
variable {ft gt:En->Option Bool} {GR:List Expr}
theorem aG(h:DW X R e ft):DT X R e ft:=by obtain ⟨t,h1,h2⟩:=h;exact ⟨t,h1.pt,h2⟩
theorem WD(h:DT X R a ft):DW X R (.BoolOp .And [a] pos) ft:=by obtain ⟨t,h1,h2⟩:=h;exact ⟨t,oU h1,h2⟩
theorem WG(h:DT X R a ft):DW X R (.BoolOp .Or [a] pos) ft:=by obtain ⟨t,h1,h2⟩:=h;exact ⟨t,yV h1,h2⟩
theorem W9(h:DT X R a ft)(k:DW X R (.BoolOp .And (b::GR) pos) gt):DW X R (.BoolOp .And (a::b::GR) pos) (mAnd ft gt):=by obtain ⟨t,h1,h2⟩:=h;obtain ⟨u,h3,h4⟩:=k;exact ⟨_,zC h1 h3,wN h2 h4⟩
theorem UZ(h:DT X R a ft)(k:DW X R (.BoolOp .Or (b::GR) pos) gt):DW X R (.BoolOp .Or (a::b::GR) pos) (mOr ft gt):=by obtain ⟨t,h1,h2⟩:=h;obtain ⟨u,h3,h4⟩:=k;exact ⟨_,A16 h1 h3,A65 h2 h4⟩
theorem K8(h:DT X R a ft):DT X R (.UnaryOp .Not a pos) (mNot ft):=by obtain ⟨t,h1,h2⟩:=h;exact ⟨_,xI h1,xU h2⟩
theorem VO(h:DE X R a f):DE X R (.BoolOp .And [a] pos) f:=by obtain ⟨t,h1,h2⟩:=h;exact ⟨t,wT h1,h2⟩
theorem SU(h:DE X R a f)(k:DE X R (.BoolOp .And (b::GR) pos) g):DE X R (.BoolOp .And (a::b::GR) pos) (mAndV f g):=by obtain ⟨t,h1,h2⟩:=h;obtain ⟨u,h3,h4⟩:=k;exact ⟨_,yK h1 h3,o9 h2.rp h4⟩
theorem zK(h:DE X R a f):DE X R (.UnaryOp .Not a pos) (mNotV f):=by obtain ⟨t,h1,h2⟩:=h;exact ⟨_,wZ h1,pC h2.rp⟩
theorem zA(hc:DT X R c ft)(h:DE X R a f)(k:DE X R b g):DE X R (.IfExp c a b pos) (mIfE ft f g):=by obtain ⟨t,h1,h2⟩:=hc;obtain ⟨u,h3,h4⟩:=h;obtain ⟨v,h5,h6⟩:=k;exact ⟨_,mY h1 h3 h5,vE h2 h4 h6⟩
theorem GY(ha:DP X R a fa)(hb:DP X R b fb)(hs:bQ b:=by intro _ _;rfl):DE X R (.Subscript a b pos) (mBin dix fa fb):=by
 obtain ⟨ta,h1,h2⟩:=ha;obtain ⟨tb,h3,h4⟩:=hb;exact ⟨_,A12 wA h1 h3 hs,WK xW h2 h4⟩
variable {lo hi:Option Expr} {fl fh:En->Option (Option Int)} {p2:Pos}
theorem cW:DO X R none mNoPart:=⟨_,rB,qV⟩
theorem R5(h:DP X R e f):DO X R (some e) (mPart f):=by obtain ⟨t,h1,h2⟩:=h;exact ⟨_,qG h1,oG h2⟩
theorem kE(h:DP X R e f)(hl:DO X R lo fl)(hh:DO X R hi fh):DE X R (.Subscript e (.Slice lo hi none p2) pos) (mSl f fl fh):=by
 obtain ⟨t,h1,h2⟩:=h;obtain ⟨u,h3,h4⟩:=hl;obtain ⟨v,h5,h6⟩:=hh;exact ⟨_,jF (pH.or xX) h1 h3 h5,A22 h2 h4 h6⟩
variable {es:List Expr} {fs:En->Option (List PyData)} {fq:En->Option (List Sl)}
theorem BD:DA X R [] mNil:=⟨_,M8,xN⟩
theorem AE(h:DE X R e f)(k:DA X R es fs)(hs:starEach (e::es) X.env=(false,eval e X.env)::starEach es X.env:=by rfl):DA X R (e::es) (mCons f fs):=by obtain ⟨t,h1,h2⟩:=h;obtain ⟨u,h3,h4⟩:=k;exact ⟨_,IY h1 h3 hs,pF h2 h4⟩
theorem CQ:DQ X R [] mNilP:=⟨_,M8,wB⟩
theorem BO(h:DP X R e f)(k:DQ X R es fq)(hs:starEach (e::es) X.env=(false,eval e X.env)::starEach es X.env:=by rfl):DQ X R (e::es) (mConsP f fq):=by obtain ⟨t,h1,h2⟩:=h;obtain ⟨u,h3,h4⟩:=k;exact ⟨_,IY h1 h3 hs,q9 h2 h4⟩
theorem M5{x1}(h:DA X R es fs):DE X R (.Tuple es x1 pos) (mTup fs):=by obtain ⟨t,h1,h2⟩:=h;exact ⟨_,xC h1,zB h2⟩
theorem IQ(h:DA X R es fs):DE X R (.List es pos) (mLst fs):=by obtain ⟨t,h1,h2⟩:=h;exact ⟨_,w9 h1,vW h2⟩
theorem BV {k j : Nat} {x : Str} {ps : List Str} {F : List PyData -> Option Sl} (D : Tf.Def X.prog X.w X.K X.mg X.base j x ps (spD X.K F)) (hr : Room k X.A) (h : DA X R (e :: es) fs) (hj : j <= k := by decide) (hg : Gl X x := by rfl)
 (hdb:(x==("__debug__" : Str))=false:=by decide) (he:starEach (e::es) X.env=(false,eval e X.env)::starEach es X.env:=by rfl) (hpl:(backTo pos (starEach es X.env)).any (·.1)=false:=by rfl):DE X R (.Call (.Name x p) (e::es) [] pos) (mCall F fs):=by
 obtain ⟨t,h1,h2⟩:=h;exact ⟨_,mI D hr h1 hj hg hdb he hpl,rD h2⟩
theorem F6 {x : Str} {id : String} {r : List V -> Hp -> VK -> Prop} {F : List Sl -> Option Sl} (hc : KN X (.builtin id) r) (hd : MD X.K r F) (hv : bootBuiltins x = some (.builtin id)) (hm : X.mg x = none) (h : DQ X R (e :: es) fq) (hg : Gl X x := by rfl) (hn : x ≠ "__name__" := by decide) (hdb : (x == ("__debug__" : Str)) = false := by decide)
 (he:starEach (e::es) X.env=(false,eval e X.env)::starEach es X.env:=by rfl) (hpl:(backTo pos (starEach es X.env)).any (·.1)=false:=by rfl):DE X R (.Call (.Name x p) (e::es) [] pos) (mCallP F fq):=by
 obtain ⟨t,h1,h2⟩:=h;exact ⟨_,XA hc hg hm hv h1 hn hdb he hpl,YJ hd h2⟩
theorem V5 {x : Str} {id : String} {r : List V -> Hp -> VK -> Prop} {F : List Sl -> Option Sl} (hc : KN X (.type id) r) (hd : MD X.K r F) (hv : bootBuiltins x = some (.type id)) (hm : X.mg x = none) (h : DQ X R (e :: es) fq) (hg : Gl X x := by rfl) (hn : x ≠ "__name__" := by decide) (hdb : (x == ("__debug__" : Str)) = false := by decide)
 (he:starEach (e::es) X.env=(false,eval e X.env)::starEach es X.env:=by rfl) (hpl:(backTo pos (starEach es X.env)).any (·.1)=false:=by rfl):DE X R (.Call (.Name x p) (e::es) [] pos) (mCallP F fq):=by
 obtain ⟨t,h1,h2⟩:=h;exact ⟨_,eM hc hg hm hv h1 hn hdb he hpl,YJ hd h2⟩
theorem yW{K:PySem.W.Frag}{n:String}:∀t b,isiD n t=some b->(t = "NoneType" \/ t = "bool" \/ t = "int" \/ t = "str" \/ t = "list" \/ t = "tuple")->PySem.W.kitOne K (.type t) (.type n)=some b:=by
 intro t b h ht;unfold isiD at h
 split at h
 . rename_i hn;subst hn
   cases h
   rcases ht with rfl | rfl | rfl | rfl | rfl | rfl <;> rfl
 . split at h
   . rename_i hn
     cases h
     rcases hn with rfl | rfl | rfl | rfl <;> rcases ht with rfl | rfl | rfl | rfl | rfl | rfl <;> rfl
   . cases h
theorem SB {x : Str} {T : String} {p1 : Pos} (hv : bootBuiltins x = some (.type T)) (hx : X.mg x = none) (hm : X.mg "isinstance" = none) (h : DP X R e f) (hgx : Gl X x := by rfl) (hg : Gl X "isinstance" := by rfl) (hnx : x ≠ "__name__" := by decide) (hdx : (x == ("__debug__" : Str)) = false := by decide)
 (he:starEach [e, .Name x p1] X.env=(false,eval e X.env)::starEach [.Name x p1] X.env:=by rfl) (he2:starEach [.Name x p1] X.env=(false,eval (.Name x p1) X.env)::starEach [] X.env:=by rfl) (hpl:(backTo pos (starEach [.Name x p1] X.env)).any (·.1)=false:=by rfl) :
 DE X R (.Call (.Name "isinstance" p) [e, .Name x p1] [] pos) (mIsi T f):=by
 obtain ⟨t,h1,h2⟩:=h;exact ⟨_,XA mX hg hm U0 (IY h1 (IY (A54 hgx hx hv hnx hdx) M8 he2) he) (by decide) (by decide) he hpl,yF yW h2⟩
theorem FI{K:PySem.W.Frag}{ix:List (Option Nat)}(hx:(ix.filterMap id).Nodup:=by decide):∀(HB:Hp) (σ:L2.St) (ρ:En) (H0 H:Hp),(PR K).r HB H0 H σ ρ->(PR K).r (fun _=>none) H0 H (JY ix σ) (E6 ix ρ):=fun HB σ ρ H0 H e=>ER.sub hx e
variable {st:Stmt} {sts:List Stmt} {gs gs':En->Option Out} {x y:Str} {pos':Pos} {i j:Nat}
theorem FD:DSs X R [] mNext:=⟨_,qC,sQ⟩
theorem B6(h:DS X R st gs):DSs X R [st] gs:=by obtain ⟨t,h1,h2⟩:=h;exact ⟨_,qS h1,h2⟩
theorem AW(h:DS X R st gs)(k:DSs X R sts gs'):DSs X R (st::sts) (mSeq gs gs'):=by obtain ⟨t,h1,h2⟩:=h;obtain ⟨u,h3,h4⟩:=k;exact ⟨_,mW h1 h3,wY h2 h4⟩
theorem FQ(i:Nat)(h:DS X R st gs)(hsl:R.slot i:=by first | exact CM | exact ⟨AO rfl,AO rfl⟩):DS X R st (mFrz i gs):=by obtain ⟨t,h1,h2⟩:=h;exact ⟨_,h1,xT i hsl h2⟩
theorem CD (i : Nat) (h : DE X R e f) (hN : X.N.Nodup) (hi : X.N[i]? = some x := by rfl) (hx : Loc X.env.scope x := by first | exact KR rfl | exact GN rfl) (hs : swapsWith e (some (.Name x pos')) pos.line X.env = pure false := by rfl) (hf : X.fn x = true \/ X.env.scope.names.lookup x = some .local := by first | exact .inl rfl | exact .inr rfl) (hsl : R.slot i := by first | exact CM | exact ⟨AO rfl, AO rfl⟩) :
 DS X R (.Assign [.Name x pos'] e pos) (mAsg i f):=by obtain ⟨t,h1,h2⟩:=h;exact ⟨_,vM hN hi hx h1 hs hf,zH hsl h2⟩
theorem CY(h:DE X R e f):DS X R (.Return (some e) pos) (mRet f):=by obtain ⟨t,h1,h2⟩:=h;exact ⟨_,kM h1,wW h2⟩
theorem LS (i : Nat) (hN : X.N[i]? = some x := by rfl) (hv : Vis X.env.scope x := by first | exact KR rfl | exact GN (KR rfl) | exact GN (GN rfl)) (hd : (x == ("__debug__" : Str)) = false := by decide)
 (hcd:(x==("__classdict__" : Str))=false:=by decide) (hsl:R.slot i:=by first | exact CM | exact ⟨AO rfl,AO rfl⟩):DS X R (.Return (some (.Name x pos')) pos) (mRet (mPk i)):=⟨_,kM (Q3 hN hv hd hcd),oY i hsl⟩
theorem IL{A B:List Stmt}(hc:DT X R c ft)(h:DSs X R A gs)(k:DSs X R B gs'):DS X R (.If c A B pos) (mIf ft gs gs'):=by obtain ⟨t,h1,h2⟩:=hc;obtain ⟨u,h3,h4⟩:=h;obtain ⟨v,h5,h6⟩:=k;exact ⟨_,A14 h1 h3 h5,A57 h2 h4 h6⟩
theorem jJ(hp:PassesOwn (model X.prog X.w) X.A X.env X.xe)(hc:DT X R c ft)(h:DSs X R sts gs):DS X R (.While c sts [] pos) (N4 ft gs):=by obtain ⟨t,h1,h2⟩:=hc;obtain ⟨u,h3,h4⟩:=h;exact ⟨_,j9 hp h1 h3,jQ h2 h4⟩
variable {tg:Expr} {fi:En->Option (List PyData)} {fg:PyData->En->Option En} {gg:List (PyData->En->Option En)}
theorem IP(hp:PassesOwn (model X.prog X.w) X.A X.env X.xe)(hi:DI X R tg e fi)(hg:DG X R tg fg)(h:DSs X R sts gs)(hc:X.calm=true:=by rfl)(hs:∀x,foldedSetIterable e X.env x=pure x:=by intro _;rfl):DS X R (.For tg e sts [] pos) (KW fi fg gs):=by
 obtain ⟨t,h1,h2⟩:=hi;obtain ⟨u,h3,h4⟩:=hg;obtain ⟨v,h5,h6⟩:=h;exact ⟨_,zJ hp hc h1 h3 h5 hs,yL h2 h4 h6⟩
theorem F8(i:Nat)(hN:X.N.Nodup)(hi:X.N[i]? = some x:=by rfl)(hx:Loc X.env.scope x:=by first | exact KR rfl | exact GN rfl)(hf:X.fn x=true\/X.env.scope.names.lookup x=some .local:=by first | exact .inl rfl | exact .inr rfl)(hsl:R.slot i:=by first | exact CM | exact ⟨AO rfl,AO rfl⟩):DG X R (.Name x pos) (gVar i):=⟨_,dG hN hi hx hf,cC i hsl⟩
theorem cS:DGs X R [] []:=⟨_,dE,bS⟩
theorem L6(h:DG X R e fg)(k:DGs X R es gg)(hs:(assignEach (e::es) X.env).map (·.2)=assign e X.env::(assignEach es X.env).map (·.2):=by rfl):DGs X R (e::es) (fg::gg):=by obtain ⟨t,h1,h2⟩:=h;obtain ⟨u,h3,h4⟩:=k;exact ⟨_,YK h1 h3 hs,YY h2 h4⟩
theorem kL{k}{n:Nat}(h:DGs X R es gg)(hl:n=gg.length:=by rfl)(hc:X.calm=true:=by rfl)(hn:(assignEach es X.env).length=n:=by rfl)(hst:(assignEach es X.env).findIdx? (·.1)=none:=by rfl):DG X R (.Tuple es k pos) (gTupD gg):=by
 obtain ⟨t,h1,h2⟩:=h;exact ⟨_,mL hc h1 hn hst,lZ hl h2⟩
theorem IT (hm:X.mg "range" = none) (h:DQ X R [a] fq) (hg:Gl X "range" :=by rfl) (hs:starEach [a] X.env = [(false,eval a X.env)]:=by rfl):DI X R tg (.Call (.Name "range" p) [a] [] pos) (LG fq):=by obtain ⟨t,h1,h2⟩:=h;exact ⟨_,fQ hg hm h1 hs,fX h2⟩
theorem Q7 (hm:X.mg "range" = none) (h:DQ X R [a,b] fq) (hg:Gl X "range" :=by rfl) (hs:starEach [a,b] X.env = [(false,eval a X.env),(false,eval b X.env)]:=by rfl) (hs2:starEach [b] X.env = [(false,eval b X.env)]:=by rfl):DI X R tg (.Call (.Name "range" p) [a,b] [] pos) (OW fq):=by
 obtain ⟨t,h1,h2⟩:=h;exact ⟨_,fK hg hm h1 hs hs2,fR h2⟩
theorem ZJ (i : Nat) {apos cpos : Pos} (h : DE X R e f) (hN : X.N[i]? = some x := by rfl) (hv : Vis X.env.scope x := by first | exact KR rfl | exact GN (KR rfl) | exact GN (GN rfl)) (hd : (x == ("__debug__" : Str)) = false := by decide) (hcd : (x == ("__classdict__" : Str)) = false := by decide)
 (hst:starEach [e] X.env=(false,eval e X.env)::starEach [] X.env:=by rfl) (hbase:attributeBase (.Name x p) "append" X.env (eval (.Name x p) X.env)=eval (.Name x p) X.env:=by rfl)
 (hfew:((backTo cpos (starEach [e] X.env)).all (fun x=> !x.1) && (backToKw cpos (keywordEach [] X.env)).all (fun x=>x.1.isSome) && decide ([e].length+([]:List Keyword).length+(if ([]:List Keyword).isEmpty then 0 else 1)<30))=true:=by rfl)
 (hline:(apos.endLine==cpos.line)=true:=by rfl) (hplain:(backTo cpos (starEach [] X.env)).any (·.1)=false:=by rfl)
 (hs:swapsWith (.Call (.Attribute (.Name x p) "append" apos) [e] [] cpos) none pos.line X.env=pure false:=by rfl) (hsl:R.slot i:=by first | exact CM | exact ⟨AO rfl,AO rfl⟩):DS X R (.Expr (.Call (.Attribute (.Name x p) "append" apos) [e] [] cpos) pos) (mApp i f):=by
 obtain ⟨t,h1,h2⟩:=h;exact ⟨_,bN (uS sX PySem.F.slot_list_append PySem.F.type_list_append eU (Q3 hN hv hd hcd) (IY h1 M8 hst) hbase hfew hline hst hplain) hs,wO hsl h2⟩
theorem dA(h:DE X R e f)(hg:DG X R tg fg)(hs:swapsWithSole [tg] e pos.line X.env=pure false:=by rfl)(hw:swappedStores [tg] e X.env=pure none:=by rfl)(h1:(assignEach [tg] X.env).map (·.2) = [assign tg X.env]:=by rfl):DS X R (.Assign [tg] e pos) (mAsgT fg f):=by
 obtain ⟨t,a1,a2⟩:=h;obtain ⟨u,b1,b2⟩:=hg;exact ⟨_,xD a1 b1 hs hw h1,qQ a2 b2⟩
theorem DB{CX:CXT}{P:Program}{w:World}{K:PySem.W.Frag}{mg:Str->Option Value}{base:Heap}{N:List Str}{qual:Str}{scope:Scope}{f:Addr}{cd:Value}{A:Around}{outer:List Env}{s:Shared}{H:Hp}{E:XK}:(U3 CX P w K mg base N qual scope f cd A outer s H E).nox.env.scope=scope:=rfl
theorem D8{CX:CXT}{P:Program}{w:World}{K:PySem.W.Frag}{mg:Str->Option Value}{base:Heap}{N:List Str}{qual:Str}{scope:Scope}{f:Addr}{cd:Value}{A:Around}{outer:List Env}{s:Shared}{H:Hp}{E:XK}:(U3 CX P w K mg base N qual scope f cd A outer s H E).nox.N=N:=rfl
theorem gB{X:Cx}{osc sc:Scope}{N':List Str}{b:CB}:(cxC X osc sc N' b).N=N':=rfl
theorem gQ{X:Cx}{osc sc:Scope}{N':List Str}{b:CB}:(cxC X osc sc N' b).env.scope=PM sc osc:=rfl
def GKm(S:Nat->Bool)(g:TG):Prop:=∀v σ H Q Q',g v σ H Q->(∀σ' H',Q σ' H'->σ'.length=σ.length->(∀i:Nat,S i=false->σ'[i]? = σ[i]?)->Q' σ' H')->g v σ H Q'
def GKs(S:Nat->Bool)(g:TGs):Prop:=∀v σ H Q Q',g v σ H Q->(∀σ' H',Q σ' H'->σ'.length=σ.length->(∀i:Nat,S i=false->σ'[i]? = σ[i]?)->Q' σ' H')->g v σ H Q'
theorem GKm.gk{S:Nat->Bool}{t:TG}(h:GKm S t):GK S t:=fun v σ H Q q=>h v σ H Q _ q fun _ _ a b c=>⟨a,b,c⟩
theorem mC{S:Nat->Bool}{i:Nat}(h:S i=true):GKm S (XM i):=fun v σ H Q Q' q k=>k _ _ q (GV ..) fun j hj=>by
 rw [B4];intro e;subst e;rw [h] at hj
 cases hj
theorem pO{S:Nat->Bool}:GKs S gNil:=fun v σ H Q Q' q k=>⟨q.1,k _ _ q.2 rfl fun _ _=>rfl⟩
theorem mQ{S:Nat->Bool}{t:TG}{u:TGs}(h:GKm S t)(k:GKs S u):GKs S (kA t u):=fun v σ H Q Q' q w=>by
 obtain ⟨x,r,e,q⟩:=q;refine ⟨x,r,e,h x σ H _ _ q fun σ' H' q' l1 k1=>k r σ' H' _ _ q' fun σ2 H2 q2 l2 k2=>w σ2 H2 q2 (l2.trans l1) fun i hi=>(k2 i hi).trans (k1 i hi)⟩
theorem sO{S:Nat->Bool}{u:TGs}{K:PySem.W.Frag}{n:Nat}(k:GKs S u):GKm S (vQ K n u):=fun v σ H Q Q' q w=>by
 obtain ⟨a,xs,e,h1,h2,q⟩:=q;exact ⟨a,xs,e,h1,h2,k xs σ H _ _ q w⟩
def DGk(X:Cx)(R:Rl)(S:Nat->Bool)(e:Expr)(g:PyData->En->Option En):Prop:=∃t,PG X e t/\RG X.K R t g/\GKm S t
def rR(X:Cx)(R:Rl)(S:Nat->Bool)(es:List Expr)(gs:List (PyData->En->Option En)):Prop:=∃t,PGs X es t/\RGs X.K R t gs/\GKs S t
def DTs(X:Cx)(R:Rl)(ifs:List Expr)(f:En->Option Bool):Prop:=∃tt,PTs X ifs tt/\RT X.K R tt f
theorem FX:DTs X R [] mYes:=⟨_,rN,wF⟩
theorem NC(h:DT X R e ft):DTs X R [e] ft:=by obtain ⟨t,h1,h2⟩:=h;exact ⟨_,rO h1,h2⟩
theorem CT{S:Nat->Bool}(i:Nat)(hN:X.N.Nodup)(hS:S i=true:=by rfl)(hi:X.N[i]? = some x:=by rfl)(hx:Loc X.env.scope x:=by first | exact KR rfl | exact GN rfl)(hf:X.fn x=true\/X.env.scope.names.lookup x=some .local:=by first | exact .inl rfl | exact .inr rfl)(hsl:R.slot i:=by first | exact CM | exact ⟨AO rfl,AO rfl⟩):DGk X R S (.Name x pos) (gVar i):=⟨_,dG hN hi hx hf,cC i hsl,mC hS⟩
theorem MZ{S:Nat->Bool}:rR X R S [] []:=⟨_,dE,bS,pO⟩
theorem GA{S:Nat->Bool}(h:DGk X R S e fg)(k:rR X R S es gg)(hs:(assignEach (e::es) X.env).map (·.2)=assign e X.env::(assignEach es X.env).map (·.2):=by rfl):rR X R S (e::es) (fg::gg):=by obtain ⟨t,h1,h2,h5⟩:=h;obtain ⟨u,h3,h4,h6⟩:=k;exact ⟨_,YK h1 h3 hs,YY h2 h4,mQ h5 h6⟩
theorem OO{S:Nat->Bool}{k}{n:Nat}(h:rR X R S es gg)(hl:n=gg.length:=by rfl)(hc:X.calm=true:=by rfl)(hn:(assignEach es X.env).length=n:=by rfl)(hst:(assignEach es X.env).findIdx? (·.1)=none:=by rfl):DGk X R S (.Tuple es k pos) (gTupD gg):=by
 obtain ⟨t,h1,h2,h3⟩:=h;exact ⟨_,mL hc h1 hn hst,lZ hl h2,sO h3⟩
variable {osc sc:Scope} {N':List Str} {ix:List (Option Nat)} {ifs:List Expr} {elt iter:Expr} {fe:En->Option Sl}
theorem HN {N : List Str} (ho : X.env.scope = osc) (hN : X.N = N) (ix : List (Option Nat)) (sb : En -> En) (hx : ∀ (HB : Hp) (σ : L2.St) (ρ : En) (H0 H : Hp), R.r HB H0 H σ ρ -> R'.r (fun _ => none) H0 H (JY ix σ) (sb ρ)) (hi : DI X R tg iter fi) (hg : ∀ b : CB, DGk (cxC X osc sc N' b) R' (SY ix) tg fg) (ht : ∀ b : CB, DTs (cxC X osc sc N' b) R' ifs ft) (he : ∀ b : CB, DE (cxC X osc sc N' b) R' elt fe)
 (hcs:gK osc sc N N' ix=true:=by decide +kernel) (hc:X.calm=true:=by rfl)
 (hs:∀x,foldedSetIterable iter X.env x=pure x:=by intro _;rfl):DE X R (.ListComp elt [⟨tg,iter,ifs,0⟩] sc pos) (mLC sb fi fg ft fe):=by
 obtain ⟨wi,h1,h2⟩:=hi
 exact ⟨_,A52 (g:=fun b=>(hg b).choose) (tt:=fun b=>(ht b).choose) (te:=fun b=>(he b).choose) hc ho hN hcs h1 (fun b=>⟨(hg b).choose_spec.1,(ht b).choose_spec.1,(he b).choose_spec.1⟩) (fun b=>(hg b).choose_spec.2.2.gk) hs,
  uU hx h2 (fun b=>(hg b).choose_spec.2.1) (fun b=>(ht b).choose_spec.2) (fun b=>(he b).choose_spec.2)⟩
theorem cT {N : List Str} (ho : X.env.scope = osc) (hN : X.N = N) (i : Nat) (ix : List (Option Nat)) (sb : En -> En) (hx : ∀ (HB : Hp) (σ : L2.St) (ρ : En) (H0 H : Hp), R.r HB H0 H σ ρ -> R'.r (fun _ => none) H0 H (JY ix σ) (sb ρ)) {py spos : Pos} (hnd : X.N.Nodup) (hi : DI X R tg iter fi) (hg : ∀ b : CB, DGk (cxC X osc sc N' b) R' (SY ix) tg fg) (ht : ∀ b : CB, DTs (cxC X osc sc N' b) R' ifs ft) (he : ∀ b : CB, DE (cxC X osc sc N' b) R' elt fe)
 (hi':X.N[i]? = some y:=by rfl) (hy:X.env.scope.names.lookup y=some .local:=by rfl) (hsw:swapsWith (.ListComp elt [⟨tg,iter,ifs,0⟩] sc pos) (some (.Name y py)) spos.line X.env=pure true:=by rfl)
 (hcs:gK osc sc N N' ix=true:=by decide +kernel) (hc:X.calm=true:=by rfl)
 (hs:∀x,foldedSetIterable iter X.env x=pure x:=by intro _;rfl) (hsl:R.slot i:=by first | exact CM | exact ⟨AO rfl,AO rfl⟩):DS X R (.Assign [.Name y py] (.ListComp elt [⟨tg,iter,ifs,0⟩] sc pos) spos) (mAsg i (mLC sb fi fg ft fe)):=by
 obtain ⟨wi,h1,h2⟩:=hi
 exact ⟨_,oQ (g:=fun b=>(hg b).choose) (tt:=fun b=>(ht b).choose) (te:=fun b=>(he b).choose) hnd hi' hy hsw hc ho hN hcs h1 (fun b=>⟨(hg b).choose_spec.1,(ht b).choose_spec.1,(he b).choose_spec.1⟩) (fun b=>(hg b).choose_spec.2.2.gk) hs,
  oH hsl (uU hx h2 (fun b=>(hg b).choose_spec.2.1) (fun b=>(ht b).choose_spec.2) (fun b=>(he b).choose_spec.2))⟩
end
end Dm
namespace Dm
open PySem PySem.Spec L2 Tf
theorem EV{α:Type}{f:PyData->Option (Option PyData)}{en:α->PyData}{g:α->PyData}:∀ {xs:List α},(∀x ∈ xs,f (en x)=some (some (g x)))->MF f (xs.map en)=some (xs.map g)
 | [],_=>rfl
 | x::xs,h=>by
  rw [B0,MF,h x AQ,EV (fun y hy=>h y (AK _ hy))];rfl
theorem XB{f:PyData->Option (Option PyData)}{g:Nat->PyData}{lo:Int}{n:Nat}(h:∀i,i<n->f (.int (lo+(i:Nat)))=some (some (g i))):MF f (GZ lo n)=some ((List.range n).map g) :=
 EV (en:=fun i:Nat=>PyData.int (lo+(i:Nat))) fun i hi=>h i (BF.mp hi)
def Rts(g:En->Option Out)(ρ:En)(r:Sl):Prop:=∃ρ',g ρ=some (.rt r ρ')
theorem JL{n k:Nat}{g:En->Option Out}{ds:List PyData}{ρ:En}{r:Sl}(hl:ds.length=k)(e:ds.map (fun d=>some (Sl.val d))++List.replicate (n - ds.length) none=ρ)(h:Rts g ρ r):FW n g k ds=some r:=by
 obtain ⟨ρ',h⟩:=h;unfold FW;rw [if_pos hl,e,h];rfl
theorem vF{f g:En->Option Out}{ρ ρ':En}{o:Out}(h:f ρ=some (.nx ρ'))(k:g ρ'=some o):mSeq f g ρ=some o:=by
 unfold mSeq;rw [h];exact k
theorem V3{c:En->Option Bool}{f g:En->Option Out}{ρ:En}{o:Out}{b:Bool}(h:c ρ=some b)(k:(if b then f ρ else g ρ)=some o):mIf c f g ρ=some o:=by
 unfold mIf;rw [h];exact k
theorem M7{i:Nat}{f:En->Option Sl}{ρ:En}{r:Sl}(h:f ρ=some r):mAsg i f ρ=some (.nx (ρ.set i (some r))):=by
 unfold mAsg;rw [h];rfl
theorem lB{f:En->Option Sl}{ρ:En}{r:Sl}(h:f ρ=some r):mRet f ρ=some (.rt r ρ):=by
 unfold mRet;rw [h];rfl
theorem BY{F:List PyData->Option Sl}{f:En->Option (List PyData)}{ρ:En}{ds:List PyData}{r:Sl}(h:f ρ=some ds)(k:F ds=some r):mCall F f ρ=some r:=by
 unfold mCall;rw [h];exact k
theorem xB{fi:En->Option (List PyData)}{fg:PyData->En->Option En}{gb:En->Option Out}{ρ:En}{ds:List PyData}{o:Out}(h:fi ρ=some ds)(k:U1 fg gb ds ρ=some o):KW fi fg gb ρ=some o:=by
 unfold KW;rw [h];exact k
theorem HL{sb:En->En}{fi:En->Option (List PyData)}{fg:PyData->En->Option En}{ft:En->Option Bool}{fe:En->Option Sl}{ρ:En}{ds es:List PyData}(h:fi ρ=some ds)(hl:ds.length<sizeLine)(k:MF (elM fg ft fe (sb ρ)) ds=some es):mLC sb fi fg ft fe ρ=some (.own es):=by
 unfold mLC;rw [h];show (if ds.length<sizeLine then _ else _)=_;rw [if_pos hl,k];rfl
theorem O0{i j:Int}(h:VB i j):dRep (.val (.int i)) (.val (.int j))=some (.val (.int (i*j))):=by
 unfold dRep tG YS;simp only [if_pos h]
theorem A58{i j:Int}(h:kS i j):EG (.val (.int i)) (.val (.int j))=some (.val (.int (i.fdiv j))):=by
 unfold EG YS;simp only [if_pos h]
theorem QV{i j:Int}(h:j≠0):FG (.val (.int i)) (.val (.int j))=some (.val (.int (i.fmod j))):=by
 unfold FG YS;simp only [if_pos h]
theorem LP{f:En->Option (List Sl)}{ρ:En}{j:Nat}(h:f ρ=some [.val (.int j)])(hj:j<=1000):LG f ρ=some (GZ 0 j):=by
 have b:inB (j:Int):=by
  constructor
  . have : -(2 ^ 62:Int)<=0:=by decide
    omega
  . have:(1000:Int)<2 ^ 62:=by decide
    omega
 unfold LG;rw [h];show (if inB (j:Int) then some (GZ 0 ((j:Int).toNat)) else none)=_;rw [if_pos b,Int.toNat_natCast]
theorem eqD_int(i j:Int):eqD (.int i) (.int j)=some (decide (i=j)):=by
 have:PyData.eqv (.int i) (.int j)=decide (i=j):=by simp [PyData.eqv,Bool.beq_eq_decide_eq]
 unfold eqD;rw [if_pos ⟨rfl,rfl,by simp [PyData.depth]⟩,this]
theorem WZ{α:Type}{en:α->PyData}(h:∀x,(en x).canLay0=true):∀xs:List α,PyData.canLayAll0 (xs.map en)=true
 | []=>rfl
 | x::xs=>by rw [B0,PyData.canLayAll0,h x,WZ h xs];rfl
theorem XZ{α:Type}{en:α->PyData}{k:Nat}(h:∀x,(en x).depth<=k):∀xs:List α,PyData.depthAll (xs.map en)<=k
 | []=>CJ _
 | x::xs=>by rw [B0,PyData.depthAll];exact Nat.max_le.mpr ⟨h x,XZ h xs⟩
theorem nO{d:PyData}(h:d.canLay0=true)(k:d.depth<=60):eqD d d=some true:=by
 unfold eqD;rw [if_pos ⟨h,h,by omega⟩,SeqAt.eqv_refl d h]
end Dm
namespace Dm
open PySem PySem.Spec PyProof.Rows L2 Tf
section
variable {X:Cx}
theorem lF{bs:List Bool}:∀ {us:List Value},Vals (bs.map V.bl) us->LSm.BoolsAre us bs:=by
 induction bs with
 | nil=>intro us r;cases r;exact .nil
 | cons b bs ih=>
  intro us r
  cases r with
  | cons r1 r2=>cases (show _=Value.bool b from r1);exact .cons b (ih r2)
theorem P5(hc:X.calm=true):KN X (.builtin "all") (fun xs H Q=>∃(p:Addr) (bs:List Bool),xs = [.ref p]/\SqL X.K H p (bs.map V.bl)/\Q (.bl (bs.all id)) H):=by
 intro pins s σ H xs us Q I r h;obtain ⟨p,bs,rfl,hq,q⟩:=h;obtain ⟨u,rfl,ru⟩:=J7 r
 cases (show u=Value.ref p from ru)
 obtain ⟨its,rv,pl,hz⟩:=I.list hq;have hb:=lF rv;have hl:s.heap.IsList p its.toArray:=pl.isList;have hlt:p<s.heap.objs.size:=by obtain ⟨_,e,_⟩:=hl;exact AU e
 refine call_all_walk (iD hl ?_)
 refine ⟨s.heap.objs.size,[s.heap.objs.size,p],[s.heap.objs.size],its.toArray.size,_,_,fun i=>(bs[i]?).getD true,rfl,Walks.list (A:=X.A.in1) (I.ok.hd hc) _ p (BP hlt) its.toArray,
  ⟨⟨_,AI _ rfl,rfl,rfl⟩,hl.push _⟩,fun i v s' Q' E' hP hQ=> ?_,fun h' tk hk=> ?_⟩
 . obtain ⟨b,e,rfl⟩:=hb.get i v (by simpa using hP);simp only [e,Option.getD_some] at hQ
   exact EB hQ
 . have e : ((List.range its.toArray.size).all fun i => (bs[i]?).getD true) = bs.all id := by
    rw [AT,hb.length];exact LSm.range_all bs
   rw [e];exact ⟨.bl _,H,I.kept (LSm.kept_iter hk),rfl,q⟩
def IX:List PyData->Option (List Bool)
 | []=>some []
 | .bool i::r=>(IX r).map (i :: ·)
 | _::_=>none
theorem S4:∀ {ds:List PyData} {bs:List Bool},IX ds=some bs->ds=bs.map .bool
 | [],bs,h=>by cases h;rfl
 | .bool i::r,bs,h=>by
  obtain ⟨ms,h1,rfl⟩:=AG.mp (show (IX r).map (i :: ·)=some bs from h);rw [S4 h1];rfl
theorem RN{K:PySem.W.Frag}{H:Hp}:∀ {vs:List V} {bs:List Bool},Reps K H vs (bs.map .bool)->vs=bs.map .bl
 | _,[],h=>by cases h;rfl
 | _,n::r,h=>by
  cases h with
  | cons h t=>cases h;rw [RN t];rfl
def dAll:List Sl->Option Sl
 | [a]=>match a.dat with
  | .list ds=>(IX ds).map fun bs=> .val (.bool (bs.all id))
  | _=>none
 | _=>none
theorem WB{K:PySem.W.Frag}:MD K (fun xs H Q=>∃(p:Addr) (bs:List Bool),xs = [.ref p]/\SqL K H p (bs.map V.bl)/\Q (.bl (bs.all id)) H) dAll:=fun H0 H vs ss z s p hz Q q=>by
 unfold dAll at hz
 split at hz
 . obtain ⟨v,rfl,pa⟩:=IE p
   split at hz
   . rename_i ds hd;obtain ⟨bs,hn,rfl⟩:=AG.mp hz;obtain ⟨a,vs,rfl,h1,h2⟩:=pa.lst s hd;rw [S4 hn] at h2
     rw [RN h2] at h1
     exact ⟨a,bs,rfl,h1,q _ _ _ (Ext.refl s) (.bool _)⟩
   . cases hz
 . cases hz
def yP(K:PySem.W.Frag)(neg:Bool):R2:=fun x y H Q=>∃p xs dx ds,y = .ref p/\(SqL K H p xs\/SqT K H p xs)/\Rep K H x dx/\Reps K H xs ds/\dx.canLay0=true/\(∀d ∈ ds,d.canLay0=true)/\dx.depth<=60/\Q (.bl (if neg then !(ds.any fun d=>PyData.eqv d dx) else ds.any fun d=>PyData.eqv d dx)) H
open Classical in
noncomputable def eqW(h:Heap)(ds:List PyData)(dx:PyData)(u:Value):Bool:=decide (∃d ∈ ds,(∃as,Reads h u d as)/\PyData.eqv d dx=true)
open Classical in
theorem T6{h:Heap}{ds:List PyData}{dx d:PyData}{u:Value}{as:List Addr}(hd:d ∈ ds)(hl:∀d ∈ ds,d.canLay0=true)(r:Reads h u d as):eqW h ds dx u=PyData.eqv d dx:=by
 unfold eqW
 by_cases e:PyData.eqv d dx=true
 . rw [e];exact AR ⟨d,hd,⟨as,r⟩,e⟩
 . rw [G7.mpr e];refine AZ ?_;rintro ⟨d',hd',⟨as',r'⟩,e'⟩;rw [<-SeqAt.Reads.unique d d' u as as' (hl d hd) r r'] at e'
   exact e e'
theorem P7{h:Heap}{dx:PyData}{all:List PyData}(hl:∀d ∈ all,d.canLay0=true):∀ {us:List Value} {ds:List PyData} {as:List Addr},ReadsAll h us ds as->(∀d ∈ ds,d ∈ all)->us.any (eqW h all dx)=ds.any fun d=>PyData.eqv d dx
 | _,_,_, .nil,_=>rfl
 | _,_,_, .cons r t,hs=>by
  rw [KY,KY,T6 (hs _ AQ) hl r,P7 hl t fun d hd=>hs d (AK _ hd)]
theorem IC{h:Heap}:∀ {us:List Value} {ds:List PyData} {as:List Addr},ReadsAll h us ds as->∀u ∈ us,∃d ∈ ds,∃bs,Reads h u d bs
 | _,_,_, .nil,u,hu=>by cases hu
 | _,_,_, .cons r t,u,hu=>by
  rcases AN.mp hu with rfl | hu
  . exact ⟨_,AQ,_,r⟩
  . obtain ⟨d,hd,q⟩:=IC t u hu;exact ⟨d,AK _ hd,q⟩
theorem ND(A:Around):A.in1.units=A.units+1:=rfl
theorem A96(hu:X.A.units+64<cLine):OpR X (compareOp .In) (yP X.K false):=by
 intro pins s σ H x y v u Q I rx ry h;obtain ⟨p,xs,dx,ds,rfl,hq,hx,hs,lx,ld,dp,q⟩:=h
 cases ry
 obtain ⟨bs,r2⟩:=hx.reads I rx lx;rcases hq with hq | hq
 . obtain ⟨its,r,pl,hz⟩:=I.list hq;obtain ⟨as,ra⟩:=Reps.reads I hs r (L8 ld);refine SeqAt.in_listAt (eqW s.heap ds dx) pl.isList (fun w hw=> ?_) ⟨.bl _,H,I,rfl,?_⟩
   . obtain ⟨d,hd,cs,rd⟩:=IC ra w (by simpa using hw);rw [T6 hd ld rd];exact R8 d dx _ _ _ _ _ _ rd r2 (ld d hd) lx (by have:=ND X.A;omega)
   . rw [show its.toArray.any (eqW s.heap ds dx)=its.any (eqW s.heap ds dx) by simp,P7 ld ra fun _ h=>h];exact q
 . obtain ⟨its,r,pl,hz⟩:=I.tuple hq;obtain ⟨as,ra⟩:=Reps.reads I hs r (L8 ld);refine SeqAt.in_tupleAt (eqW s.heap ds dx) pl (fun w hw=> ?_) ⟨.bl _,H,I,rfl,?_⟩
   . obtain ⟨d,hd,cs,rd⟩:=IC ra w (by simpa using hw);rw [T6 hd ld rd];exact R8 d dx _ _ _ _ _ _ rd r2 (ld d hd) lx (by have:=ND X.A;omega)
   . rw [show its.toArray.any (eqW s.heap ds dx)=its.any (eqW s.heap ds dx) by simp,P7 ld ra fun _ h=>h];exact q
theorem eJ(hu:X.A.units+64<cLine):OpR X (compareOp .NotIn) (yP X.K true):=by
 intro pins s σ H x y v u Q I rx ry h;obtain ⟨p,xs,dx,ds,rfl,hq,hx,hs,lx,ld,dp,q⟩:=h
 cases ry
 obtain ⟨bs,r2⟩:=hx.reads I rx lx;rcases hq with hq | hq
 . obtain ⟨its,r,pl,hz⟩:=I.list hq;obtain ⟨as,ra⟩:=Reps.reads I hs r (L8 ld);refine SeqAt.notIn_listAt (eqW s.heap ds dx) pl.isList (fun w hw=> ?_) ⟨.bl _,H,I,rfl,?_⟩
   . obtain ⟨d,hd,cs,rd⟩:=IC ra w (by simpa using hw);rw [T6 hd ld rd];exact R8 d dx _ _ _ _ _ _ rd r2 (ld d hd) lx (by have:=ND X.A;omega)
   . rw [show its.toArray.any (eqW s.heap ds dx)=its.any (eqW s.heap ds dx) by simp,P7 ld ra fun _ h=>h];exact q
 . obtain ⟨its,r,pl,hz⟩:=I.tuple hq;obtain ⟨as,ra⟩:=Reps.reads I hs r (L8 ld);refine SeqAt.notIn_tupleAt (eqW s.heap ds dx) pl (fun w hw=> ?_) ⟨.bl _,H,I,rfl,?_⟩
   . obtain ⟨d,hd,cs,rd⟩:=IC ra w (by simpa using hw);rw [T6 hd ld rd];exact R8 d dx _ _ _ _ _ _ rd r2 (ld d hd) lx (by have:=ND X.A;omega)
   . rw [show its.toArray.any (eqW s.heap ds dx)=its.any (eqW s.heap ds dx) by simp,P7 ld ra fun _ h=>h];exact q
def inD(neg:Bool)(dx:PyData)(ds:List PyData):Option Sl:=if dx.canLay0=true/\(ds.all fun d=>d.canLay0)=true/\dx.depth<=60 then some (.val (.bool (if neg then !(ds.any fun d=>PyData.eqv d dx) else ds.any fun d=>PyData.eqv d dx))) else none
def WL(neg:Bool)(a b:Sl):Option Sl:=match b.dat with
 | .list ds=>inD neg a.dat ds
 | .tuple ds=>inD neg a.dat ds
 | _=>none
theorem oR{K:PySem.W.Frag}{neg:Bool}:OpD K (yP K neg) (WL neg):=fun H0 H x y sx sy z s px py hz Q q=>by
 unfold WL at hz
 split at hz
 . rename_i ds hd;unfold inD at hz
   split at hz
   . rename_i hc
     cases hz
     obtain ⟨a,vs,rfl,h1,h2⟩:=py.lst s hd;exact ⟨a,vs,_,ds,rfl, .inl h1,px.rep s,Reps.same s h2,hc.1,fun d hd=>F1.mp hc.2.1 d hd,hc.2.2,q _ _ _ (Ext.refl s) (.bool _)⟩
   . cases hz
 . rename_i ds hd;unfold inD at hz
   split at hz
   . rename_i hc
     cases hz
     obtain ⟨a,vs,rfl,h1,h2⟩:=py.tup hd;exact ⟨a,vs,_,ds,rfl, .inr (s.seqT (SqT.of h1)),px.rep s,Reps.same s h2,hc.1,fun d hd=>F1.mp hc.2.1 d hd,hc.2.2,q _ _ _ (Ext.refl s) (.bool _)⟩
   . cases hz
 . cases hz
variable {R:Rl} [RelOk X.K R] {a b e:Expr} {pos p:Pos} {fa fb f:En->Option Sl}
theorem V6(hu:X.A.units+64<cLine)(ha:DP X R a fa)(hb:DP X R b fb)(hm:behindInMarks .NotIn b=false:=by with_unfolding_all rfl):DT X R (.Compare a [.NotIn] [b] pos) (mTest (mBin (WL true) fa fb)):=O9 (eJ hu) oR ha hb hm
end
end Dm
namespace Dm
open PySem PySem.Spec L2 Tf
def Wp(g:En->Option Out)(ρ:En)(Z:Out->Prop):Prop:=∃o,g ρ=some o/\Z o
def Nx(P:En->Prop):Out->Prop
 | .nx ρ=>P ρ
 | _=>False
def Rt(r:Sl):Out->Prop
 | .rt r' _=>r'=r
 | _=>False
def Lp(N:En->Prop)(Z:Out->Prop):Out->Prop
 | .nx ρ=>N ρ
 | .ct ρ=>N ρ
 | .bk ρ=>Z (.nx ρ)
 | .rt r ρ=>Z (.rt r ρ)
section
variable {f g:En->Option Out} {ρ:En} {Z:Out->Prop}
theorem YZ{o:Out}(h:g ρ=some o)(z:Z o):Wp g ρ Z:=⟨o,h,z⟩
theorem Wp.imp{Y:Out->Prop}(h:Wp g ρ Y)(k:∀o,Y o->Z o):Wp g ρ Z:=by
 obtain ⟨o,h1,h2⟩:=h;exact ⟨o,h1,k o h2⟩
theorem ON(h:Wp f ρ (fun o=>match o with | .nx ρ'=>Wp g ρ' Z | o=>Z o)):Wp (mSeq f g) ρ Z:=by
 obtain ⟨o,h1,h2⟩:=h
 cases o with
 | nx ρ' =>
  obtain ⟨o2,h3,h4⟩:=h2
  exact ⟨o2,by unfold mSeq;rw [h1];exact h3,h4⟩
 | rt r ρ'=>exact ⟨_,by unfold mSeq;rw [h1];rfl,h2⟩
 | bk ρ'=>exact ⟨_,by unfold mSeq;rw [h1];rfl,h2⟩
 | ct ρ'=>exact ⟨_,by unfold mSeq;rw [h1];rfl,h2⟩
theorem IS{P:En->Prop}(h:Wp f ρ (Nx P))(k:∀ρ',P ρ'->Wp g ρ' Z):Wp (mSeq f g) ρ Z:=by
 refine ON (h.imp fun o ho=> ?_)
 cases o with
 | nx ρ'=>exact k ρ' ho
 | _=>exact ho.elim
theorem GI{ρ':En}(h:f ρ=some (.nx ρ'))(k:Wp g ρ' Z):Wp (mSeq f g) ρ Z:=by
 obtain ⟨o,h1,h2⟩:=k;exact ⟨o,vF h h1,h2⟩
variable {i:Nat} {fe:En->Option Sl} {r:Sl} {c:En->Option Bool} {b:Bool}
theorem Q1(h:fe ρ=some r)(k:Z (.nx (ρ.set i (some r)))):Wp (mAsg i fe) ρ Z:=⟨_,M7 h,k⟩
theorem CI(h:fe ρ=some r)(k:Wp g (ρ.set i (some r)) Z):Wp (mSeq (mAsg i fe) g) ρ Z:=GI (M7 h) k
theorem HH(h:Wp g (frz1 i ρ) Z):Wp (mFrz i g) ρ Z:=h
theorem DD(h:fe ρ=some r)(k:Z (.rt r ρ)):Wp (mRet fe) ρ Z:=⟨_,lB h,k⟩
theorem cR(h:c ρ=some b)(k:Wp (if b then f else g) ρ Z):Wp (mIf c f g) ρ Z:=by
 obtain ⟨o,h1,h2⟩:=k;refine ⟨o,V3 h ?_,h2⟩
 cases b <;> exact h1
theorem TL(h:c ρ=some true)(k:Wp f ρ Z):Wp (mIf c f g) ρ Z:=cR (b:=true) h k
theorem QD(h:c ρ=some false)(k:Wp g ρ Z):Wp (mIf c f g) ρ Z:=cR (b:=false) h k
theorem KL(k:Z (.nx ρ)):Wp mNext ρ Z:=⟨_,rfl,k⟩
theorem IU{h:En->Option Out}(hc:c ρ=some false)(k:Wp h ρ Z):Wp (mSeq (mIf c f mNext) h) ρ Z:=GI (V3 hc rfl) k
variable {fi:En->Option (List PyData)} {fg:PyData->En->Option En} {ds:List PyData}
theorem j3(P:Nat->En->Prop)(hi:fi ρ=some ds)(h0:P 0 ρ)(hs:∀(j:Nat) d ρ,ds[j]? = some d->P j ρ->∃ρ1,fg d ρ=some ρ1/\Wp g ρ1 (Lp (P (j+1)) Z))(k:∀ρ',P ds.length ρ'->Z (.nx ρ')):Wp (KW fi fg g) ρ Z:=by
 have gen:∀(n j:Nat) ρ,j+n=ds.length->P j ρ->∃o,U1 fg g (ds.drop j) ρ=some o/\Z o:=by
  intro n
  induction n with
  | zero=>
   intro j ρ hj hp;have:j=ds.length:=by omega
   subst this;rw [EK (AF _)]
   exact ⟨_,rfl,k ρ hp⟩
  | succ n ih=>
   intro j ρ hj hp;have hd:ds[j]? = some ds[j]:=AB (by omega);obtain ⟨ρ1,h1,o,h2,h3⟩:=hs j ds[j] ρ hd hp;rw [UN hd,h1];simp only [F2,h2]
   cases o with
   | nx ρ2=>exact ih (j+1) ρ2 (by omega) h3
   | ct ρ2=>exact ih (j+1) ρ2 (by omega) h3
   | bk ρ2=>exact ⟨_,rfl,h3⟩
   | rt r ρ2=>exact ⟨_,rfl,h3⟩
 obtain ⟨o,h1,h2⟩:=gen ds.length 0 ρ (by omega) h0;refine ⟨o,xB hi ?_,h2⟩;simpa using h1
theorem dW(P:Nat->En->Prop){lo:Int}{n:Nat}(hi:fi ρ=some (GZ lo n))(h0:P 0 ρ)(hs:∀(j:Nat) ρ,j<n->P j ρ->∃ρ1,fg (.int (lo+(j:Nat))) ρ=some ρ1/\Wp g ρ1 (Lp (P (j+1)) Z))(k:∀ρ',P n ρ'->Z (.nx ρ')):Wp (KW fi fg g) ρ Z:=by
 refine j3 P hi h0 (fun j d ρ hd hp=> ?_) (by simpa [GZ] using k);rw [XO] at hd
 split at hd
 . rename_i hlt
   cases hd
   exact hs j ρ hlt hp
 . cases hd
theorem PJ(P:Nat->En->Prop){n:Nat}(hi:fi ρ=some (GZ 0 n))(h0:P 0 ρ)(hs:∀(j:Nat) ρ,j<n->P j ρ->∃ρ1,fg (.int (j:Nat)) ρ=some ρ1/\Wp g ρ1 (Lp (P (j+1)) Z))(k:∀ρ',P n ρ'->Z (.nx ρ')):Wp (KW fi fg g) ρ Z:=
 dW P hi h0 (fun j ρ hj hp=>by rw [Int.zero_add];exact hs j ρ hj hp) k
theorem KO{α:Type}{en:α->PyData}{xs:List α}(P:Nat->En->Prop)(hi:fi ρ=some (xs.map en))(h0:P 0 ρ)(hs:∀(j:Nat) x ρ,xs[j]? = some x->P j ρ->∃ρ1,fg (en x) ρ=some ρ1/\Wp g ρ1 (Lp (P (j+1)) Z))(k:∀ρ',P xs.length ρ'->Z (.nx ρ')):Wp (KW fi fg g) ρ Z:=by
 refine j3 P hi h0 (fun j d ρ hd hp=> ?_) (by simpa using k);rw [AX] at hd
 obtain ⟨x,hx,rfl⟩:=AG.mp hd;exact hs j x ρ hx hp
theorem mT(P:En->Prop)(μ:En->Nat)(h0:P ρ)(hs:∀ρ,P ρ->(c ρ=some false/\Z (.nx ρ))\/(c ρ=some true/\Wp g ρ (Lp (fun ρ'=>P ρ'/\μ ρ'<μ ρ) Z))):Wp (N4 c g) ρ Z:=by
 have gen:∀(n:Nat) ρ,μ ρ<n->P ρ->∃o,GB c g n ρ=some o/\Z o:=by
  intro n
  induction n with
  | zero=>intro ρ h;omega
  | succ n ih=>
   intro ρ hm hp;rcases hs ρ hp with ⟨h,z⟩ | ⟨h,o,h1,h2⟩
   . exact ⟨.nx ρ,by simp [GB,h],z⟩
   . cases o with
     | nx ρ2=>
      obtain ⟨o,h4,h5⟩:=ih ρ2 (by have:=h2.2;omega) h2.1
      exact ⟨o,by simp [GB,h,h1,h4],h5⟩
     | ct ρ2=>
      obtain ⟨o,h4,h5⟩:=ih ρ2 (by have:=h2.2;omega) h2.1
      exact ⟨o,by simp [GB,h,h1,h4],h5⟩
     | bk ρ2=>exact ⟨_,by simp [GB,h,h1],h2⟩
     | rt r ρ2=>exact ⟨_,by simp [GB,h,h1],h2⟩
 obtain ⟨o,h1,h2⟩:=gen (μ ρ+1) ρ (by omega) h0;exact ⟨o,gJ h1,h2⟩
theorem EW{n k:Nat}{ds:List PyData}(hl:ds.length=k)(e:ds.map (fun d=>some (Sl.val d))++List.replicate (n - ds.length) none=ρ)(h:Wp g ρ (Rt r)):FW n g k ds=some r:=by
 obtain ⟨o,h1,h2⟩:=h
 cases o with
 | rt r' ρ'=>cases h2;exact JL hl e ⟨ρ',h1⟩
 | _=>exact h2.elim
end
theorem W4{a b:En->Option Bool}{ρ:En}{k l:Bool}(h1:a ρ=some k)(h2:b ρ=some l):mAnd a b ρ=some (k && l):=by
 unfold mAnd;rw [h1]
 cases k
 . rfl
 . exact h2
theorem US{a b:En->Option Bool}{ρ:En}{k l:Bool}(h1:a ρ=some k)(h2:b ρ=some l):mOr a b ρ=some (k || l):=by
 unfold mOr;rw [h1]
 cases k
 . exact h2
 . rfl
theorem KU{a:En->Option Bool}{ρ:En}{k:Bool}(h1:a ρ=some k):mNot a ρ=some (!k):=by
 unfold mNot;rw [h1];rfl
theorem RR{fa fb:En->Option Sl}{ρ:En}{i j:Int}(ha:fa ρ=some (.val (.int i)))(hb:fb ρ=some (.val (.int j))):mTest (mBin dne fa fb) ρ=some (!decide (i=j)):=by
 unfold mTest mBin;rw [ha,Option.bind_some,hb,Option.bind_some];show Option.bind ((eqD (.int i) (.int j)).map _) _=_;rw [eqD_int];rfl
theorem WH{fa fb:En->Option Sl}{ρ:En}{i j:Int}(ha:fa ρ=some (.val (.int i)))(hb:fb ρ=some (.val (.int j))):mTest (mBin deq fa fb) ρ=some (decide (i=j)):=by
 unfold mTest mBin;rw [ha,Option.bind_some,hb,Option.bind_some];show Option.bind ((eqD (.int i) (.int j)).map _) _=_;rw [eqD_int];rfl
theorem aX{fa fb:En->Option Sl}{ρ:En}{a b:Sl}(ha:fa ρ=some a)(hb:fb ρ=some b)(h:a.dat=b.dat)(h1:b.dat.canLay0=true)(h2:b.dat.depth<=60):mTest (mBin dne fa fb) ρ=some false:=by
 unfold mTest mBin;rw [ha,Option.bind_some,hb,Option.bind_some];show Option.bind ((eqD a.dat b.dat).map _) _=_;rw [h,nO h1 h2];rfl
def il(l:List Int):List PyData:=l.map .int
def nl(l:List Nat):List PyData:=l.map fun n:Nat=>PyData.int (n:Int)
theorem iY(l:List Int):(il l).length=l.length:=AC ..
theorem GC(l:List Nat):(nl l).length=l.length:=AC ..
theorem PZ(a b:List Nat):nl (a++b)=nl a++nl b:=G4 ..
theorem wL(a b:List Int):il (a++b)=il a++il b:=G4 ..
theorem r9{α:Type}{xs:List α}{j:Nat}{x:α}(h:xs[j]? = some x):atI xs (j:Int)=some x:=by
 obtain ⟨hj,e⟩:=List.getElem?_eq_some_iff.mp h;unfold atI ixN;rw [if_pos (by omega),if_pos (by omega)];simpa using h
theorem IV{s:Sl}{ds:List PyData}{j:Nat}{d:PyData}(hs:s.dat = .list ds\/s.dat = .tuple ds)(h:ds[j]? = some d):dix s (.val (.int (j:Int)))=some (.val d):=by
 unfold dix;rcases hs with hs | hs <;> simp only [hs,r9 h,Option.map_some]
theorem Q9(l:List Int):G0 (il l)=some l:=by
 induction l with
 | nil=>rfl
 | cons a l ih=>simp only [il,B0,G0] at ih ⊢;rw [ih];rfl
end Dm
namespace Tf
open PySem PySem.Spec PyProof.Rows L2
def Itv(K:PySem.W.Frag)(a:Addr)(n:Nat):It:=
 ⟨fun i H=>∃xs x,xs.length=n/\SqL K H a xs/\xs.reverse[i]? = some x,fun i H v H'=>H'=H/\∀xs,SqL K H a xs->xs.reverse[i]? = some v,fun i H=>n<=i⟩
theorem vN{α:Type}{xs:List α}{i:Nat}{x:α}(h:xs.reverse[i]? = some x):i<xs.length/\xs[xs.length - 1 - i]? = some x:=by
 have hi:i<xs.length:=by
  obtain ⟨q,_⟩:=AS.mp h;simpa using q
 rw [zO hi] at h
 exact ⟨hi,h⟩
theorem kP{P:Program}{w:World}{K:PySem.W.Frag}{tg:Expr}(a it:Addr)(n:Nat):Turn P w K tg (Itv K a n) [it] it (fun i h=>i<=n/\h.IsRevIter it a ((n:Int) - 1 - (i:Nat))) where
 mem:=A5.mpr rfl
 obj:=fun i h st b hb=>by
  cases A5.mp hb
  obtain ⟨_,o,e,_,d⟩:=st;refine ⟨o,e,fun v z=> ?_⟩;rw [d] at z
  cases z
 keep:=fun i h h' st k=>⟨st.1,st.2.at fun o e=>k it (A5.mpr rfl) o e⟩
 item:=by
  intro X hP hw hK hc i pins s σ H E I hf st hg;subst hP hw hK;obtain ⟨xs,x,hn,hq,hx⟩:=hg;obtain ⟨hi,hx'⟩:=vN hx;obtain ⟨its,rv,p,hz⟩:=I.list hq;obtain ⟨u,hu,ru⟩:=rv.get hx';obtain ⟨f0,f1,f2,f3,f4,f5⟩:=hf it (A5.mpr rfl);have e1:((n:Int) - 1 - (i:Nat))=((xs.length - 1 - i:Nat):Int):=by omega
  have hit:=st.2;rw [e1] at hit
  refine wpAny_pyNext_rev_item hit p.isList (x:=u) (by simpa using hu) fun h' st' sb=> ?_;have I1:Inv X pins σ H {s with heap:=h' }:=I.turned (t':=s.toks) (fun b o hb e=>(sb.2 b hb).trans e) f0 f1 f3 f4 f5;have e2:((xs.length - 1 - i:Nat):Int) - 1=(n:Int) - 1 - ((i+1:Nat):Int):=by omega
  rw [e2] at st'
  obtain ⟨o,e,c,d⟩:=id st';refine ⟨u,rfl,bU (s:={s with heap:=h' }) e c d (by decide) ⟨x,H,I1,ru,⟨rfl,fun ys hy=> ?_⟩,⟨by omega,st'⟩,fun b hb=>(hf b hb).1⟩⟩;rw [I.list_inj hy hq];exact hx
 done:=by
  intro X hP hw hK hc i pins s σ H E I hf st hg;subst hP hw hK;obtain ⟨f0,f1,f2,f3,f4,f5⟩:=hf it (A5.mpr rfl);have hn:n<=i:=hg;have e1:((n:Int) - 1 - (i:Nat)) = -1:=by have:=st.1;omega
  have hit:=st.2;rw [e1] at hit
  exact wpAny_pyNext_rev_end (I.ok.hd hc) hit fun h' eb=>⟨rfl,I.turned (t':=s.toks) (fun b o hb e=>eb b o hb e) f0 f1 f3 f4 f5⟩
 self:=fun _ _ _ _ _ st h=>AC1 st.2 h
section
variable {X:Cx}
def A48(K:PySem.W.Frag)(ta:TA):TI:=fun σ H R=>ta σ H fun vs H1=>∃l xs,vs = [.ref l]/\SqL K H1 l xs/\R (Itv K l xs.length) H1
theorem Q5{h:Heap}{l:Addr}{i:Int}:(h.push (revObj l i)).IsRevIter h.objs.size l i:=⟨_,AI _ rfl,rfl,rfl⟩
theorem vK {tg a:Expr} {ta:TA} {p pos:Pos} (hg:Gl X "reversed") (hm:X.mg "reversed" = none) (ha:PA X [a] ta) (hs:starEach [a] X.env = [(false,eval a X.env)]:=by rfl):PI X tg (.Call (.Name "reversed" p) [a] [] pos) (A48 X.K ta):=by
 intro pins s σ H R I h;refine Call_ (GS I hg hm QH (CA (thn (ha pos pins s σ H _ I h) fun us s1 ⟨vs,H1,I1,r1,q1⟩ => ?_) hs rfl));obtain ⟨l,xs,e,hq,q⟩:=q1;subst e;obtain ⟨u,rfl,ru⟩:=J7 r1
 cases (show u=Value.ref l from ru)
 obtain ⟨its,rv,p1,hz⟩:=I1.list hq;have hl:=rv.length;refine call_reversed_list p1.isList ?_;refine AC1 Q5 ?_;refine ⟨s1.heap.objs.size,[s1.heap.objs.size],_,_,H1,rfl,I1.kept (t':=s1.toks) fun b o e=>A4 _ e,kP l _ xs.length,⟨CJ _,?_⟩,fun b hb=> ?_,q⟩
 . have e:((its.toArray.size:Nat):Int) - 1=(xs.length:Int) - 1 - ((0:Nat):Int):=by simp;omega
   rw [<-e];exact Q5
 . cases A5.mp hb
   exact I1.fpOk (AF _) (I1.hok.fresh (AF _))
end
theorem fY:typeLookup (.type "list_reverseiterator") "__len__" = pure none:=by rw [typeLookup_type,AB3];kernel_rfl
theorem kY:typeLookup (.type "list_reverseiterator") "__length_hint__" = pure (some (.builtin "list_reverseiterator.__length_hint__")):=by rw [typeLookup_type,AB3];kernel_rfl
section
variable {prog:Program} {w:World} {A:Around} {E:Value->Shared->Prop} {s:Shared} {it:Addr} {F W:List Addr} {G:Array GenState->Array GenState->Prop} {n:Nat} {P:Nat->Value->Prop} {St:Nat->Shared->Prop}
theorem oP {Q : List Value -> Shared -> Prop} (V : WalksS prog w A.in1 it F W G n P St) (ty : ∀ i s, St i s -> s.TypeIs (.ref it) "list_reverseiterator") (st : St 0 s) (lt : ∀ b ∈ F, b < s.heap.objs.size) (mem : it ∈ F)
 (q:∀s' acc,Moved W G s s'->ItemsOf P acc n->Q acc.toList s') (hn:n<=sizeLine):wpAny (model prog w) A (collect (.ref it)) Q E s:=by
 have out:s.heap.objs.size ∉ F:=fun z=>Nat.lt_irrefl _ (lt _ z);have ne:s.heap.objs.size≠it:=fun z=>out (z ▸ mem);unfold collect;refine wpAny_bind (wpAny_runValue (codeAny_builtin PySem.F.entry_proto_collect ?_));rw [Around.under_plainId PySem.F.plain_proto_collect _];show wpAny _ A.in1 (newList [] >>= fun z=>again (.builtin "list.__iadd__" ⟨[z, .ref it],[]⟩)) _ _ s;refine wpAny_bind (wpAny_newObj_type ?_);refine wpAny_pure ⟨plainId_quiet PySem.F.plain_list_iadd _,codeAny_builtin PySem.F.entry_list_iadd ?_⟩;rw [Around.under_plainId PySem.F.plain_list_iadd _];have st1:=V.frame 0 s (s.heap.push {cls:= .type "list",data:= .seq ([]:List Value).toArray}) s.toks st (Nat.le_refl _) fun b _ o z=>Heap.get?_push_of_some _ z;have new:(s.heap.push {cls:= .type "list",data:= .seq ([]:List Value).toArray}).get? s.heap.objs.size=some {cls:= .type "list",data:= .seq ([]:List Value).toArray}:=Heap.get?_push_size _ rfl;have un:Builtin.List.listSameRef (.ref s.heap.objs.size) (.ref it)=false:=by simp [Builtin.List.listSameRef,ne]
 show wpAny _ A.in1 (Builtin.List.listExtendWith (.ref s.heap.objs.size) (.ref it) (.ref s.heap.objs.size)) _ _ _;unfold Builtin.List.listExtendWith;refine wpAny_bind (wpAny_typeOf (ty 0 _ st1) ?_);rw [if_neg (by rw [un];decide)];refine wpAny_bind (V.self 0 _ _ _ st1 ?_);refine wpAny_bind (wpAny_holding ?_);unfold Builtin.List.listLengthHint;refine wpAny_bind (wpAny_specialOf (ty 0 _ st1) fY ?_);show wpAny _ A.in1 (specialOf (Value.ref it) (Str.ofString "__length_hint__") >>= _) _ _ _;refine wpAny_bind (wpAny_specialOf (ty 0 _ st1) kY ?_)
 (generalize hid:("list_reverseiterator.__length_hint__" : String)=id0;(fail_if_success (clear hid id0));wp_delta;rw [show splitId id0=some ("list_reverseiterator","__length_hint__") from by subst hid;decide +kernel];subst hid)
 refine A0 (R9 (b:=true) (ty 0 _ st1) (by rw [isSubtype_type];kernel_rfl) ?_);refine A6 ?_;rw [AA (by decide)];refine A6 ⟨E5 PySem.F.plain_extend_loop _,codeAny_extend_loopS V hn _ out _ n 0 _ _ _ rfl (CJ _) st1 new (ItemsOf.nil P) fun s' acc' c' mv got all=> ?_⟩;show wpAny _ A (load s.heap.objs.size >>= _) _ _ s';refine A0 (wpAny_load got ?_);exact A6 (q s' acc' (Moved.drop_new (o:={cls:= .type "list",data:= .seq ([]:List Value).toArray}) (tk:=s.toks) mv (AF _)) all)
theorem TZ {Q₁ : Value -> Shared -> Prop} (V : WalksS prog w A.in1.in1 it F W G n P St) (ty : ∀ i s, St i s -> s.TypeIs (.ref it) "list_reverseiterator") (st : St 0 s) (lt : ∀ b ∈ F, b < s.heap.objs.size) (mem : it ∈ F)
 (q:∀s' acc,Moved W G s s'->ItemsOf P acc n->Q₁ (.ref s'.heap.objs.size) {s' with heap:=s'.heap.push {cls:= .type "tuple",data:= .seq acc} }) (hn:n<=sizeLine) :
 codeAny (model prog w) A (.call (.builtin "tuple.__new__") ⟨[.type "tuple", .ref it],[]⟩) (wants Q₁ E) s:=by
 refine codeAny_of_tree ?_;show wpAny _ A.in1 (do checkBuiltinCall "tuple.__new__" ⟨[.type "tuple", .ref it],[]⟩;again (.builtin "tuple.__new__" ⟨[.type "tuple", .ref it],[]⟩)) _ _ s;refine A0 (MQ (PySem.F.newCall_tuple_1 _) (A6 ⟨E5 sY _,F9 PySem.F.entry_tuple_new ?_⟩));rw [DM sY _];have hsub:=sub_tuple_self;have hinit:=init_tuple_lookup;have hmh:=madeHere_tuple;have ty0:=ty 0 s st
 wp_walk using wpAny_typeOf ty0,oP (hn:=hn) V ty st lt mem
 intro s' acc mv all;show wpAny _ _ (Builtin.Tuple.tupleExact acc.toList.toArray >>= fun z=>ret z) _ _ _;unfold Builtin.Tuple.tupleExact;refine wpAny_bind (wpAny_newObj_type ?_ (by show acc.toList.toArray.size<=sizeLine;simp only [Array.toArray_toList];rw [all.1];exact hn));refine wpAny_pure ?_;have e:acc.toList.toArray=acc:=by simp
 rw [e];exact q s' acc mv all
theorem TY {Q : Value -> Shared -> Prop} (V : WalksS prog w A.in1.in1.in1 it F W G n P St) (ty : ∀ i s, St i s -> s.TypeIs (.ref it) "list_reverseiterator") (st : St 0 s) (lt : ∀ b ∈ F, b < s.heap.objs.size) (mem : it ∈ F)
 (q:∀s' acc,Moved W G s s'->ItemsOf P acc n->Q (.ref s'.heap.objs.size) {s' with heap:=s'.heap.push {cls:= .type "tuple",data:= .seq acc} }) (hn:n<=sizeLine) :
 wpAny (model prog w) A (call (.type "tuple") [.ref it]) Q E s:=by
 refine callType_codes (Q₁:=fun obj t=>t.TypeIs obj "tuple" /\ Q obj t) RB (PySem.F.typeCall_tuple_1 _) PySem.F.entry_object_init
  (TZ (hn:=hn) V ty st lt mem fun s' acc mv all=>⟨⟨_,AI _ rfl,rfl⟩,q s' acc mv all⟩) fun obj t ht=> ?_
 exact ⟨ht.1,PySem.F.args_object_init_2 obj _,object_init_meets RB.init.lookup RB.made (by decide) prog w A.in1 _ t ⟨ht.1,rfl,ht.2⟩⟩
end
section
variable {X:Cx}
def d6(K:PySem.W.Frag)(ta:TA):TE:=fun σ H Q=>ta σ H fun vs H1=>∃l xs,vs = [.ref l]/\SqL K H1 l xs/\∀p,H1 p=none->Q (.ref p) (upd H1 p (.tup xs.reverse))
theorem eZ {a : Expr} {ta : TA} {p p2 pos pos2 : Pos} (hc : X.calm = true) (hg : Gl X "reversed") (hm : X.mg "reversed" = none) (hg2 : Gl X "tuple") (hm2 : X.mg "tuple" = none) (ha : PA X [a] ta) (hs : starEach [a] X.env = [(false, eval a X.env)] := by rfl)
 (hs2:starEach [.Call (.Name "reversed" p) [a] [] pos] X.env = [(false,eval (.Call (.Name "reversed" p) [a] [] pos) X.env)]:=by rfl):PE X (.Call (.Name "tuple" p2) [.Call (.Name "reversed" p) [a] [] pos] [] pos2) (d6 X.K ta):=by
 intro pins s σ H Q I h;refine E2 (GS I hg2 hm2 J8 ?_);refine CA ?_ hs2 rfl;rw [hs2];show wpAny _ _ (spliced ((false,eval (.Call (.Name "reversed" p) [a] [] pos) X.env) :: [])) _ _ s;refine G5 ?_;refine E2 (GS I hg hm QH ?_);refine CA (thn (ha pos pins s σ H _ I h) fun us s1 ⟨vs,H1,I1,r1,q1⟩ => ?_) hs rfl;obtain ⟨l,xs,e,hq,q⟩:=q1;subst e;obtain ⟨u,rfl,ru⟩:=J7 r1
 cases (show u=Value.ref l from ru)
 obtain ⟨its,rv,p1,hz⟩:=I1.list hq;have hl:=rv.length;refine call_reversed_list p1.isList ?_;refine IJ ?_;have I2:Inv X pins σ H1 {s1 with heap:=s1.heap.push (revObj l ((its.toArray.size:Int) - 1))}:=I1.kept (t':=s1.toks) fun b o e=>A4 _ e;have lt1:l<s1.heap.objs.size:=by obtain ⟨o,n,e,_⟩:=p1;exact AU e
 have hd:X.A.handled=none:=I1.ok.hd hc;have V:=(Walks.listRev (prog:=X.prog) (w:=X.w) (A:=X.A.in1.in1.in1) hd s1.heap.objs.size l (BP lt1) its.toArray).toS;obtain ⟨f0,f1,f2,f3,f4,f5⟩:=I1.fpOk (b:=s1.heap.objs.size) (AF _) (I1.hok.fresh (AF _));have hz':its.toArray.size<=sizeLine:=by simp only [AT];omega
 refine TY (s:={s1 with heap:=s1.heap.push (revObj l ((its.toArray.size:Int) - 1))}) V (fun i t st=>st.2.1.typeIs) ⟨CJ _,?_,?_⟩ (fun b hb=> ?_) (AQ ..) (fun s' acc mv all=> ?_) hz'
 . have e:((its.toArray.size:Int) - 1 - ((0:Nat):Int))=(its.toArray.size:Int) - 1:=by omega
   rw [e];exact Q5
 . exact p1.isList.push _
 . show b<(s1.heap.push _).objs.size;rw [D1];simp only [AN,BN,FJ] at hb
   rcases hb with rfl | rfl
   . exact GF _
   . exact NJ lt1
 . obtain ⟨h',g',d',tk',os'⟩:=s';obtain ⟨mh,mg,md,mo,mt⟩:=mv;have e1:g'=s1.gens:=mg;have e2:d'=s1.drawn:=md;have e3:os'=s1.os:=mo;subst e1 e2 e3;have I3:Inv X pins σ H1 {s1 with heap:=h',toks:=tk' }:=I2.turned (fun b o hb e=>mh b o (by simpa using hb) e) f0 f1 f3 f4 f5
   have ra:∃ys:List Value,acc=ys.toArray/\ys=its.reverse:=by
    refine ⟨acc.toList,by simp,?_⟩;refine WS fun i=> ?_;have hsz:acc.size=its.length:=by simpa using all.1
    by_cases hi:i<its.length
    . have hlt:i<acc.size:=by omega
      have h1:=all.2 i acc[i] (by simp [hlt]);rw [zO hi];simp only [AJ];rw [IK hlt, <-h1];simp
    . rw [EX (by simp;omega),EX (by simp;omega)]
   obtain ⟨ys,rfl,rfl⟩:=ra;have rr:Vals xs.reverse its.reverse:=rv.reverse
   have I4:Inv X pins σ (upd H1 h'.objs.size (.tup xs.reverse)) {s1 with heap:=h'.push {cls:= .type "tuple",data:= .seq its.reverse.toArray},toks:=tk' } :=
    I3.laid (t':=tk') (fun b o e=>A4 _ e) (AF _) (show ObjOk X.prog X.w _ _ _ (.tup xs.reverse) from ⟨by rw [List.length_reverse];exact hz,its.reverse,rr,IsTup.new _ _⟩)
   exact ⟨.ref h'.objs.size,_,I4,rfl,q _ (I3.hok.fresh (AF _))⟩
def A20(K:PySem.W.Frag)(tl:TE):TI:=fun σ H R=>tl σ H fun x H1=>∃a,x = .ref a/\(((∃xs,SqL K H1 a xs)/\R (Itl K a) H1)\/((∃xs,SqT K H1 a xs)/\R (Itt K a) H1))
theorem x8{tg l:Expr}{tl:TE}(hl:PE X l tl):PI X tg l (A20 X.K tl):=by
 intro pins s σ H R I h;refine thn (hl pins s σ H _ I h) fun v s1 ⟨x,H1,I1,r1,q1⟩ => ?_;obtain ⟨a,e,⟨⟨xs,hq⟩,q⟩ | ⟨⟨xs,hq⟩,q⟩⟩:=q1
 . subst e
   cases r1
   obtain ⟨its,rv,p,hz⟩:=I1.list hq;refine iD p.isList ?_;refine ⟨s1.heap.objs.size,[s1.heap.objs.size],_,_,H1,rfl,I1.kept (t':=s1.toks) fun b o e=>A4 _ e,hZ a _,⟨_,AI _ rfl,rfl,rfl⟩,fun b hb=> ?_,q⟩
   cases A5.mp hb
   exact I1.fpOk (AF _) (I1.hok.fresh (AF _))
 . subst e
   cases r1
   obtain ⟨its,rv,p,hz⟩:=I1.tuple hq;refine eB (show s1.heap.IsTuple a its.toArray from p) ?_;refine ⟨s1.heap.objs.size,[s1.heap.objs.size],_,_,H1,rfl,I1.kept (t':=s1.toks) fun b o e=>A4 _ e,aN a _,⟨_,AI _ rfl,rfl,rfl⟩,fun b hb=> ?_,q⟩
   cases A5.mp hb
   exact I1.fpOk (AF _) (I1.hok.fresh (AF _))
end
end Tf
namespace Dm
open PySem PySem.Spec PyProof.Rows L2 Tf
section
variable {K:PySem.W.Frag} {R:Rl} [RelOk K R]
theorem Reps.rev{H:Hp}:∀ {vs:List V} {ds:List PyData},Reps K H vs ds->Reps K H vs.reverse ds.reverse
 | _,_, .nil=> .nil
 | _,_, .cons a t=>by
  rw [NH,NH];exact Reps.append (Reps.rev t) (.cons a .nil)
theorem xV{H0:Hp}{a:Addr}{vs:List V}{ds:List PyData}(h:SqL K H0 a vs)(r:Reps K H0 vs ds):ItR K H0 (Itv K a vs.length) ds.reverse:=fun H0' H' s s' i=>by
 have h':=s'.seq (s.seq h);refine ⟨fun d hd=> ?_,fun hi=>show vs.length<=i by rw [r.length];simpa using hi⟩;obtain ⟨v,e1,e2⟩:=Tf.Reps.get (Reps.rev r) hd;refine ⟨⟨vs,v,rfl,h',e1⟩,fun x H2 y=> ?_⟩;obtain ⟨rfl,y⟩:=y;have:=y vs h';rw [e1] at this
 cases this
 exact ⟨H0',Ext.refl s',Rep.same s e2⟩
def iM(f:En->Option (List PyData)):En->Option (List PyData):=fun ρ=>(f ρ).bind fun a=>match a with
 | [.list xs]=>some xs.reverse
 | _=>none
theorem yH{ta:TA}{f:En->Option (List PyData)}(h:RA K R ta f):RI K R (A48 K ta) (iM f):=fun HB σ ρ H0 H s e ds hd R q=>by
 obtain ⟨a,ha,hd⟩:=A3.mp hd
 split at hd
 . cases hd
   refine h HB σ ρ H0 H s e _ ha _ fun vs H1 J1 x1 p1=> ?_
   cases p1 with | cons p1 t=>
    cases t
    cases p1 with | list a1 a2=>
     exact ⟨_,_,rfl,x1.s1.seq a1,q _ _ _ x1 (xV a1 a2)⟩
 . cases hd
def QW:List Sl->Option Sl
 | [a]=>match a.dat with
  | .list ds=>some (.val (.tuple ds.reverse))
  | _=>none
 | _=>none
theorem fC{ta:TA}{f:En->Option (List Sl)}(h:RQ K R ta f):RE K R (d6 K ta) (mCallP QW f):=fun HB σ ρ H0 H s e z hz Q q=>by
 obtain ⟨ss,hd,hz⟩:=Option.bind_eq_some_iff.mp hz;refine h HB σ ρ H0 H s e ss hd _ fun vs H1 J1 x1 p1=> ?_;unfold QW at hz
 split at hz
 . obtain ⟨v,rfl,pa⟩:=IE p1
   split at hz
   . rename_i ds hds
     cases hz
     obtain ⟨a,vs,rfl,h1,h2⟩:=pa.lst x1.s1 hds;exact ⟨a,vs,rfl,h1,fun p hp=>q _ _ _ (x1.trans (Ext.allocF x1.s1 hp _)) (.tuple BZ (Reps.same (Same.upd (x1.s1.free hp) _) (Reps.rev h2)))⟩
   . cases hz
 . cases hz
def CU(f:En->Option Sl):En->Option (List PyData):=fun ρ=>(f ρ).bind fun a=>match a.dat with
 | .list ds=>some ds
 | .tuple ds=>some ds
 | _=>none
theorem vU{te:TE}{f:En->Option Sl}(h:RE K R te f):RI K R (A20 K te) (CU f):=fun HB σ ρ H0 H s e ds hd R q=>by
 obtain ⟨a,ha,hd⟩:=A3.mp hd
 split at hd
 . rename_i es he
   cases hd
   refine h.rv HB σ ρ H0 H s e a.dat (by unfold mDat;rw [ha];rfl) _ fun v H1 J1 x1 p1=> ?_;rw [he] at p1
   cases p1 with
   | list h1 h2=>exact ⟨_,rfl, .inl ⟨⟨_,x1.s1.seq h1⟩,q _ _ _ x1 (p6 h1 h2)⟩⟩
 . rename_i es he
   cases hd
   refine h.rv HB σ ρ H0 H s e a.dat (by unfold mDat;rw [ha];rfl) _ fun v H1 J1 x1 p1=> ?_;rw [he] at p1
   cases p1 with
   | tuple h1 h2=>exact ⟨_,rfl, .inr ⟨⟨_,x1.s1.seqT (SqT.of h1)⟩,q _ _ _ x1 (vT (SqT.of h1) h2)⟩⟩
 . cases hd
def aD(i:Nat)(f:En->Option Sl):En->Option Out:=fun ρ=>match (ρ[i]?).join with
 | some (.own ds)=>(f ρ).bind fun r=>match r with
  | .own es=>if ds.length+es.length<=sizeLine then some (.nx (ρ.set i (some (.own (ds++es))))) else none
  | _=>none
 | _=>none
theorem wD{te:TE}{f:En->Option Sl}{i:Nat}(hsl:R.slot i)(h:RE K R te f):RS K R (nB (tBM K "list" rExtend (ZH i) (MW te tNil))) (aD i f):=fun HB S0 σ ρ H0 H x e o ho D d=>by
 unfold aD at ho
 split at ho
 . rename_i ds hj;obtain ⟨r,hr,ho⟩:=A3.mp ho
   split at ho
   . rename_i es
     split at ho
     . rename_i hl
       cases ho
       obtain ⟨a,vs,hi,hs,g1,g2,g3,g4⟩:=kX (K:=K) e hsl hj;refine ⟨.ref a,hs, .inl ⟨rfl,vs,SqL.of g3⟩,?_⟩;refine h HB σ ρ H0 H x.s1 e _ hr _ fun v H1 J1 x1 p1=> ?_;obtain ⟨a',vs',rfl,n1,n2,n3,n4⟩:=p1;have l0:=x1.own a _ g3 CM g2;refine ⟨a,a',vs,vs',rfl,rfl,x1.s _ _ g3,n3,by rw [g4.length,n4.length];exact hl,?_⟩;exact d σ H1 _ ((x.chain x1).write g1 l0 _) ⟨RelOk.write (K:=K) (e.ext (K:=K) x1).r hsl hi hs g1 l0 (x1.s _ _ g3) (Reps.append (Reps.same x1.s0 g4) n4)⟩
     . cases ho
   . cases ho
 . cases ho
def A88(K:PySem.W.Frag)(i:Nat)(a:Addr)(ds:List PyData):Rl:=⟨fun HB H0 H σ ρ=>ER K HB H0 H σ ρ/\σ[i]? = some (some (.ref a))/\ρ[i]? = some (some (.own ds)),fun k=>k≠i/\(0:Nat)=0⟩
instance relOk_Pin {i:Nat} {a:Addr} {ds:List PyData}:RelOk K (A88 K i a ds) where
 ext:=fun x e=>⟨ER.ext x e.1,e.2⟩
 get:=fun e _ h=>ER.get e.1 _ _ h
 set:=fun {_ _ _ _ _ _ _ k _ _} e hs x s h=>⟨(relOk_PR (K:=K)).set e.1 trivial x s h,by rw [B4 hs.1];exact e.2.1,by rw [B4 hs.1];exact e.2.2⟩
 write:=fun e hs h1 h2 h3 h4 h5 h6=>⟨(relOk_PR (K:=K)).write e.1 trivial h1 h2 h3 h4 h5 h6,e.2.1,by rw [B4 hs.1];exact e.2.2⟩
 frz:=fun e hs h x=>by
  obtain ⟨H0',h1,h2⟩:=(relOk_PR (K:=K)).frz e.1 trivial h x;exact ⟨H0',h1,h2,e.2.1,by rw [B4 hs.1];exact e.2.2⟩
end
section
variable {X:Cx} {R R':Rl} [RelOk X.K R] [RelOk X.K R'] {a b c e:Expr} {pos p p2 pos2:Pos} {f g fa fb fc:En->Option Sl} {fs:En->Option (List PyData)} {fq:En->Option (List Sl)} {tg:Expr} {x:Str}
theorem xQ (hm:X.mg "reversed" = none) (h:DA X R [a] fs) (hg:Gl X "reversed" :=by rfl) (hs:starEach [a] X.env = [(false,eval a X.env)]:=by rfl):DI X R tg (.Call (.Name "reversed" p) [a] [] pos) (iM fs):=by
 obtain ⟨t,h1,h2⟩:=h;exact ⟨_,vK hg hm h1 hs,yH h2⟩
theorem FZ(h:DE X R e f):DI X R tg e (CU f):=by
 obtain ⟨t,h1,h2⟩:=h;exact ⟨_,x8 h1,vU h2⟩
theorem gM (hm : X.mg "reversed" = none) (hm2 : X.mg "tuple" = none) (h : DQ X R [a] fq) (hc : X.calm = true := by rfl) (hg : Gl X "reversed" := by rfl) (hg2 : Gl X "tuple" := by rfl) (hs : starEach [a] X.env = [(false, eval a X.env)] := by rfl)
 (hs2:starEach [.Call (.Name "reversed" p) [a] [] pos] X.env = [(false,eval (.Call (.Name "reversed" p) [a] [] pos) X.env)]:=by rfl):DE X R (.Call (.Name "tuple" p2) [.Call (.Name "reversed" p) [a] [] pos] [] pos2) (mCallP QW fq):=by
 obtain ⟨t,h1,h2⟩:=h;exact ⟨_,eZ hc hg hm hg2 hm2 h1 hs hs2,fC h2⟩
theorem mM (i : Nat) {apos cpos : Pos} (h : DE X R e f) (hN : X.N[i]? = some x := by rfl) (hv : Vis X.env.scope x := by first | exact KR rfl | exact GN (KR rfl) | exact GN (GN rfl)) (hd : (x == ("__debug__" : Str)) = false := by decide) (hcd : (x == ("__classdict__" : Str)) = false := by decide)
 (hst:starEach [e] X.env=(false,eval e X.env)::starEach [] X.env:=by rfl) (hbase:attributeBase (.Name x p) "extend" X.env (eval (.Name x p) X.env)=eval (.Name x p) X.env:=by rfl)
 (hfew:((backTo cpos (starEach [e] X.env)).all (fun x=> !x.1) && (backToKw cpos (keywordEach [] X.env)).all (fun x=>x.1.isSome) && decide ([e].length+([]:List Keyword).length+(if ([]:List Keyword).isEmpty then 0 else 1)<30))=true:=by rfl)
 (hline:(apos.endLine==cpos.line)=true:=by rfl) (hplain:(backTo cpos (starEach [] X.env)).any (·.1)=false:=by rfl)
 (hs:swapsWith (.Call (.Attribute (.Name x p) "extend" apos) [e] [] cpos) none pos.line X.env=pure false:=by rfl) (hsl:R.slot i:=by first | exact CM | exact ⟨AO rfl,AO rfl⟩):DS X R (.Expr (.Call (.Attribute (.Name x p) "extend" apos) [e] [] cpos) pos) (aD i f):=by
 obtain ⟨t,h1,h2⟩:=h;exact ⟨_,bN (uS sX PySem.F.slot_list_extend PySem.F.type_list_extend h9 (Q3 hN hv hd hcd) (IY h1 M8 hst) hbase hfew hline hst hplain) hs,wD hsl h2⟩
end
theorem j0{i:Nat}{f:En->Option Sl}{ρ:En}{ds es:List PyData}(h:f ρ=some (.own es))(ho:(ρ[i]?).join=some (.own ds))(hl:ds.length+es.length<=sizeLine):aD i f ρ=some (.nx (ρ.set i (some (.own (ds++es))))):=by
 unfold aD;rw [ho];show Option.bind (f ρ) _=_;rw [h];show (if ds.length+es.length<=sizeLine then _ else _)=_;rw [if_pos hl]
end Dm
namespace Tf
open PySem PySem.Spec PyProof.Rows L2
section
variable {prog:Program} {w:World} {A:Around} {E:Value->Shared->Prop} {s:Shared}
theorem VP {j t : Addr} {n : Nat} {us} {u : Value} {Q : Value -> Shared -> Prop} (st : s.heap.IsTupleIter j t n) (tu : s.heap.IsTuple t us) (hu : us[n]? = some u)
 (q:∀h',h'.IsTupleIter j t (n+1)->Heap.SameBut j s.heap h'->Q u {s with heap:=h' }):wpAny (model prog w) A (Builtin.SmallTypes.nextOf (.ref j)) Q E s:=by
 obtain ⟨o1,g1,c1,d1⟩:=id st;obtain ⟨o2,g2,_,n2,d2⟩:=tu;unfold Builtin.SmallTypes.nextOf
 refine A0 (CN (name:=Str.ofString "__next__") st.typeIs G8
  (EI G8 st.typeIs WP ?_ (VI _)))
 show wpAny _ _ (field (.ref j) 0 >>= _) _ _ s;refine A0 (WT g1 d1 (x:= .ref t) rfl ?_);show wpAny _ _ (if (Value.ref t==Value.none)=true then _ else _) _ _ s;rw [AA (show ¬((Value.ref t==Value.none)=true) from CG)];show wpAny _ _ (field (.ref j) 1 >>= _) _ _ s;refine A0 (WT g1 d1 (x:= .int n 0) rfl ?_);show wpAny _ _ (seqItems? (.ref t) >>= _) _ _ s;refine A0 (DH g2 d2 ?_);simp only [DU,hu];refine A0 (L4 g1 d1 (by simp) (A6 ⟨u,rfl,A6 (q _ ?_ (GT ..))⟩));exact ⟨_,VJ _ g1 (VL (HQ d1 _)),(iE ..).trans c1,by rw [HQ d1];simp [rawInt]⟩
theorem TM {j t : Addr} {n : Nat} {us} {Q : Value -> Shared -> Prop} (hh : A.handled = none) (st : s.heap.IsTupleIter j t n) (tu : s.heap.IsTuple t us) (hu : us[n]? = none)
 (q:∀h' e,Heap.ExtBut j s.heap h'->(∃o,h'.get? e=some o/\o.cls = .type "StopIteration")->E (.ref e) {s with heap:=h' }):wpAny (model prog w) A (Builtin.SmallTypes.nextOf (.ref j)) Q E s:=by
 obtain ⟨o1,g1,c1,d1⟩:=id st;obtain ⟨o2,g2,_,n2,d2⟩:=tu;unfold Builtin.SmallTypes.nextOf
 refine A0 (CN (name:=Str.ofString "__next__") st.typeIs G8
  (EI G8 st.typeIs WP ?_ (VI _)))
 show wpAny _ _ (field (.ref j) 0 >>= _) _ _ s;refine A0 (WT g1 d1 (x:= .ref t) rfl ?_);show wpAny _ _ (if (Value.ref t==Value.none)=true then _ else _) _ _ s;rw [AA (show ¬((Value.ref t==Value.none)=true) from CG)];show wpAny _ _ (field (.ref j) 1 >>= _) _ _ s;refine A0 (WT g1 d1 (x:= .int n 0) rfl ?_);show wpAny _ _ (seqItems? (.ref t) >>= _) _ _ s;refine A0 (DH g2 d2 ?_);simp only [DU,hu];refine A0 (KC (A0 (L4 g1 d1 (by simp) ?_)));show wpAny _ _ (newExc (.type "StopIteration") [] >>= _) _ _ _;refine A0 ?_;simp only [newExc,newTuple];refine A0 (CZ ?_ (by size_fits));refine A0 (m:=firstArgMember _ _) (MQ (a:=Value.none) (by first | rfl | (simp only [firstArgMember];rfl)) ?_);refine CZ ?_ (by size_fits);simp only [raiseNew];refine A0 (A78 ?_)
 first | rw [show A.in1.handled=none from hh] | rw [hh]
 refine A0 (A6 (AC2 ?_));exact q _ _ (((GT ..).extBut.push _).push _) ⟨_,AI _ rfl,rfl⟩
theorem E4{h h':Heap}{j t b:Addr}{n:Nat}(st:h.IsTupleIter j t n)(k:∀c o,c≠b->h.get? c=some o->h'.get? c=some o)(hb:j≠b):h'.IsTupleIter j t n:=st.at fun o e=>k j o hb e
theorem JM{h h':Heap}{t b:Addr}{us}(st:h.IsTuple t us)(k:∀c o,c≠b->h.get? c=some o->h'.get? c=some o)(hb:t≠b):h'.IsTuple t us:=by
 obtain ⟨o,e,r⟩:=st;exact ⟨o,k t o hb e,r⟩
theorem g9 {z TI TO j1 j2 t1 t2 : Addr} {n1 n2 : Nat} {xs ys : Array Value} {x y a b : Value} {Q : Value -> Shared -> Prop} (D : ZipApart z TI TO j1 j2 t1 t2)
 (hz:IsZip s.heap z TI TO .none) (hI:IsPair s.heap TI (.ref j1) (.ref j2)) (hO:IsPair s.heap TO a b)
 (s1:s.heap.IsTupleIter j1 t1 n1) (s2:s.heap.IsTupleIter j2 t2 n2) (l1:s.heap.IsTuple t1 xs) (l2:s.heap.IsTuple t2 ys) (hx:xs[n1]? = some x) (hy:ys[n2]? = some y)
 (q:∀h',IsZip h' z TI TO (rawInt s.heap.objs.size)->IsPair h' TO x y->h'.IsTupleIter j1 t1 (n1+1)->h'.IsTupleIter j2 t2 (n2+1)->IsPair h' s.heap.objs.size x y->h'.objs.size=s.heap.objs.size+1 ->
  (∀c o,c≠z->c≠TO->c≠j1->c≠j2->s.heap.get? c=some o->h'.get? c=some o)->Q (.ref s.heap.objs.size) {s with heap:=h' }) :
 wpAny (model prog w) A (Builtin.«zip.__next__» ⟨[.ref z], []⟩) (fun fin s' => ∃ v, fin = .done (.ret v) /\ Q v s') E s := by
 show wpAny _ _ (field (.ref z) 2 >>= _) _ _ _;refine wpAny_bind (wpAny_field hz rfl (x:= .bool false) rfl ?_);show wpAny _ _ (field (.ref z) 3 >>= _) _ _ _;refine wpAny_bind (wpAny_field hz rfl (x:= .ref TI) rfl ?_);refine wpAny_bind (wpAny_seqItems hI rfl ?_);show wpAny _ _ (Builtin.SmallTypes.ownedTupleIsFree (.ref z) >>= _) _ _ _;refine wpAny_bind ?_;unfold Builtin.SmallTypes.ownedTupleIsFree;refine wpAny_bind (wpAny_field hz rfl (x:= .none) rfl (wpAny_pure ?_));simp only [if_true];refine wpAny_bind (wpAny_rule ?_);refine wpAny_bind (wpAny_field hz rfl (x:= .ref TO) rfl ?_);refine wpAny_bind (wpAny_setField_rec hz (by simp) fun H1 z1 k1=> ?_)
 replace z1:IsZip H1 z TI TO .ellipsis:=z1
 refine A0 ?_;simp only [Z3,List.zipIdx_nil,AB4,R6];refine A0 (A0 (aT ?_));show wpAny _ _ (Builtin.SmallTypes.nextOf (.ref j1) >>= _) _ _ _;refine A0 (VP (E4 s1 k1.extBut D.i1z) (JM l1 k1.extBut D.l1z) hx fun H2 i2 k2=>A6 ?_);have O2:IsPair H2 TO a b:=k2.extBut _ _ D.TOi1 (k1.extBut _ _ D.TOz hO);refine A0 (DH O2 rfl ?_);refine A0 (WU O2 fun H3 O3 k3=> ?_)
 replace O3:IsPair H3 TO x b:=O3
 refine A0 (EC (A6 ?_));refine A0 (A0 (aT ?_));show wpAny _ _ (Builtin.SmallTypes.nextOf (.ref j2) >>= _) _ _ _;refine A0 (VP (E4 (E4 (E4 s2 k1.extBut D.i2z) k2.extBut D.i12.symm) k3.extBut D.TOi2.symm) (JM (JM (JM l2 k1.extBut D.l2z) k2.extBut D.l2i1) k3.extBut D.l2TO) hy fun H4 i4 k4=>A6 ?_);have O4:IsPair H4 TO x b:=k4.extBut _ _ D.TOi2 O3;refine A0 (DH O4 rfl ?_);refine A0 (WU O4 fun H5 O5 k5=> ?_)
 replace O5:IsPair H5 TO x y:=O5
 refine A0 (EC (A6 (A6 ?_)));refine A0 (DH O5 rfl ?_);refine A0 (wpAny_newTuple ?_);have sz:H5.objs.size=s.heap.objs.size:=by rw [k5.1,k4.1,k3.1,k2.1,k1.1]
 have z5:IsZip H5 z TI TO .ellipsis:=k5.extBut _ _ D.TOz.symm (k4.extBut _ _ D.i2z.symm (k3.extBut _ _ D.TOz.symm (k2.extBut _ _ D.i1z.symm z1)))
 have keep:∀c o,c≠z->c≠TO->c≠j1->c≠j2->s.heap.get? c=some o->H5.get? c=some o:=fun c o c1 c2 c3 c4 e=>
  k5.extBut _ _ c2 (k4.extBut _ _ c4 (k3.extBut _ _ c2 (k2.extBut _ _ c3 (k1.extBut _ _ c1 e))))
 have i5:H5.IsTupleIter j1 t1 (n1+1):=E4 (E4 (E4 i2 k3.extBut D.TOi1.symm) k4.extBut D.i12) k5.extBut D.TOi1.symm;have i5':H5.IsTupleIter j2 t2 (n2+1):=E4 i4 k5.extBut D.TOi2.symm;have zlt:z<H5.objs.size:=Heap.lt_size z5;show wpAny _ _ (Builtin.SmallTypes.ownedTupleHandOut (.ref z) (.ref H5.objs.size) >>= _) _ _ _;refine wpAny_bind ?_;unfold Builtin.SmallTypes.ownedTupleHandOut;have z6:IsZip (H5.push {cls:= .type "tuple",data:= .seq #[x,y]}) z TI TO .ellipsis:=Heap.get?_push_of_some _ z5;refine wpAny_bind (wpAny_setField_rec z6 (by simp) fun H7 z7 k7=> ?_)
 replace z7:IsZip H7 z TI TO (rawInt H5.objs.size):=z7
 refine eD z7 (by simp) fun H8 z8 k8=> ?_
 replace z8:IsZip H8 z TI TO (rawInt H5.objs.size):=z8
 have up:∀c o,c≠z->H5.get? c=some o->H8.get? c=some o:=fun c o c1 e=>k8.extBut _ _ c1 (k7.extBut _ _ c1 (A4 _ e));have T8:IsPair H8 H5.objs.size x y:=k8.extBut _ _ (PP zlt) (k7.extBut _ _ (PP zlt) (AI _ rfl));have n8:H8.objs.size=H5.objs.size+1:=by rw [k8.1,k7.1,D1]
 rw [sz] at z8 T8 n8
 refine A6 ⟨_,rfl,?_⟩;show Q (.ref H5.objs.size) _;rw [sz];exact q H8 z8 (up _ _ D.TOz O5) (i5.at fun o e=>up _ o D.i1z e) (i5'.at fun o e=>up _ o D.i2z e) T8 n8 fun c o c1 c2 c3 c4 e=>up c o c1 (keep c o c1 c2 c3 c4 e)
theorem jK {z TI TO j1 j2 t1 t2 : Addr} {n1 n2 : Nat} {xs ys : Array Value} {a b : Value} {Q : Fin -> Shared -> Prop} (hh : A.handled = none) (D : ZipApart z TI TO j1 j2 t1 t2)
 (hz:IsZip s.heap z TI TO .none) (hI:IsPair s.heap TI (.ref j1) (.ref j2)) (hO:IsPair s.heap TO a b)
 (s1:s.heap.IsTupleIter j1 t1 n1) (s2:s.heap.IsTupleIter j2 t2 n2) (l1:s.heap.IsTuple t1 xs) (l2:s.heap.IsTuple t2 ys) (fin:xs[n1]? = none\/ys[n2]? = none)
 (q:∀h' e,(∀c o,c≠z->c≠TO->c≠j1->c≠j2->s.heap.get? c=some o->h'.get? c=some o)->(∃o,h'.get? e=some o/\o.cls = .type "StopIteration")->E (.ref e) {s with heap:=h' }) :
 wpAny (model prog w) A (Builtin.«zip.__next__» ⟨[.ref z], []⟩) Q E s := by
 show wpAny _ _ (field (.ref z) 2 >>= _) _ _ _;refine wpAny_bind (wpAny_field hz rfl (x:= .bool false) rfl ?_);show wpAny _ _ (field (.ref z) 3 >>= _) _ _ _;refine wpAny_bind (wpAny_field hz rfl (x:= .ref TI) rfl ?_);refine wpAny_bind (wpAny_seqItems hI rfl ?_);show wpAny _ _ (Builtin.SmallTypes.ownedTupleIsFree (.ref z) >>= _) _ _ _;refine wpAny_bind ?_;unfold Builtin.SmallTypes.ownedTupleIsFree;refine wpAny_bind (wpAny_field hz rfl (x:= .none) rfl (wpAny_pure ?_));simp only [if_true];refine wpAny_bind (wpAny_rule ?_);refine wpAny_bind (wpAny_field hz rfl (x:= .ref TO) rfl ?_);refine wpAny_bind (wpAny_setField_rec hz (by simp) fun H1 z1 k1=> ?_)
 replace z1:IsZip H1 z TI TO .ellipsis:=z1
 refine A0 ?_;simp only [Z3,List.zipIdx_nil,AB4,R6];refine A0 (A0 (aT ?_));show wpAny _ _ (Builtin.SmallTypes.nextOf (.ref j1) >>= _) _ _ _
 cases hx:xs[n1]? with
 | none=>
  refine A0 (TM hh (E4 s1 k1.extBut D.i1z) (JM l1 k1.extBut D.l1z) hx fun H2 e k2 st=> ?_);obtain ⟨oe,ge,ce⟩:=st;have z2:IsZip H2 z TI TO .ellipsis:=k2 _ _ D.i1z.symm z1;have ez:e≠z:=fun x=>by subst x;rw [z2] at ge;cases ge;simp at ce
  refine eD z2 (by simp) fun H3 _ k3=>q H3 e (fun c o c1 _ c3 _ x=>k3.extBut _ _ c1 (k2 _ _ c3 (k1.extBut _ _ c1 x))) ⟨oe,k3.extBut _ _ ez ge,ce⟩
 | some x=>
  have hy:ys[n2]? = none:=by rcases fin with h | h;rw [hx] at h;cases h;exact h
  refine A0 (VP (E4 s1 k1.extBut D.i1z) (JM l1 k1.extBut D.l1z) hx fun H2 i2 k2=>A6 ?_);have O2:IsPair H2 TO a b:=k2.extBut _ _ D.TOi1 (k1.extBut _ _ D.TOz hO);refine A0 (DH O2 rfl ?_);refine A0 (WU O2 fun H3 O3 k3=> ?_);refine A0 (EC (A6 ?_));refine A0 (A0 (aT ?_));show wpAny _ _ (Builtin.SmallTypes.nextOf (.ref j2) >>= _) _ _ _;refine A0 (TM hh (E4 (E4 (E4 s2 k1.extBut D.i2z) k2.extBut D.i12.symm) k3.extBut D.TOi2.symm) (JM (JM (JM l2 k1.extBut D.l2z) k2.extBut D.l2i1) k3.extBut D.l2TO) hy fun H4 e k4 st=> ?_);obtain ⟨oe,ge,ce⟩:=st;have z4:IsZip H4 z TI TO .ellipsis:=k4 _ _ D.i2z.symm (k3.extBut _ _ D.TOz.symm (k2.extBut _ _ D.i1z.symm z1));have ez:e≠z:=fun x=>by subst x;rw [z4] at ge;cases ge;simp at ce
  refine eD z4 (by simp) fun H5 _ k5=>q H5 e (fun c o c1 c2 c3 c4 x=>k5.extBut _ _ c1 (k4 _ _ c4 (k3.extBut _ _ c2 (k2.extBut _ _ c3 (k1.extBut _ _ c1 x))))) ⟨oe,k5.extBut _ _ ez ge,ce⟩
theorem ZU {z TI TO j1 j2 t1 t2 : Addr} {n1 n2 : Nat} {xs ys : Array Value} {x y a b : Value} {Q : Option Value -> Shared -> Prop} (D : ZipApart z TI TO j1 j2 t1 t2)
 (hz:IsZip s.heap z TI TO .none) (hI:IsPair s.heap TI (.ref j1) (.ref j2)) (hO:IsPair s.heap TO a b)
 (s1:s.heap.IsTupleIter j1 t1 n1) (s2:s.heap.IsTupleIter j2 t2 n2) (l1:s.heap.IsTuple t1 xs) (l2:s.heap.IsTuple t2 ys) (hx:xs[n1]? = some x) (hy:ys[n2]? = some y)
 (q:∀h',IsZip h' z TI TO (rawInt s.heap.objs.size)->IsPair h' TO x y->h'.IsTupleIter j1 t1 (n1+1)->h'.IsTupleIter j2 t2 (n2+1)->IsPair h' s.heap.objs.size x y->h'.objs.size=s.heap.objs.size+1 ->
  (∀c o,c≠z->c≠TO->c≠j1->c≠j2->s.heap.get? c=some o->h'.get? c=some o)->Q (some (.ref s.heap.objs.size)) {s with heap:=h' }) :
 wpAny (model prog w) A (pyNext (.ref z)) Q E s:=by
 have ty:s.TypeIs (.ref z) "zip" :=⟨_,hz,rfl⟩;unfold pyNext
 exact A0 (JQ (CN (name:=Str.ofString "__next__") ty KE
  (EI KE ty v7
   (g9 D hz hI hO s1 s2 l1 l2 hx hy fun h' a1 a2 a3 a4 a5 a6 a7=>A6 (q h' a1 a2 a3 a4 a5 a6 a7)) (sZ _))))
theorem fD {z TI TO j1 j2 t1 t2 : Addr} {n1 n2 : Nat} {xs ys : Array Value} {a b : Value} {Q : Option Value -> Shared -> Prop} (hh : A.handled = none) (D : ZipApart z TI TO j1 j2 t1 t2)
 (hz:IsZip s.heap z TI TO .none) (hI:IsPair s.heap TI (.ref j1) (.ref j2)) (hO:IsPair s.heap TO a b)
 (s1:s.heap.IsTupleIter j1 t1 n1) (s2:s.heap.IsTupleIter j2 t2 n2) (l1:s.heap.IsTuple t1 xs) (l2:s.heap.IsTuple t2 ys) (fin:xs[n1]? = none\/ys[n2]? = none)
 (q:∀h',(∀c o,c≠z->c≠TO->c≠j1->c≠j2->s.heap.get? c=some o->h'.get? c=some o)->Q none {s with heap:=h' }):wpAny (model prog w) A (pyNext (.ref z)) Q E s:=by
 have ty:s.TypeIs (.ref z) "zip" :=⟨_,hz,rfl⟩;unfold pyNext
 refine A0 (JQ (CN (name:=Str.ofString "__next__") ty KE
  (EI KE ty v7 (jK hh D hz hI hO s1 s2 l1 l2 fin fun h' e k st=> ?_) (sZ _))))
 obtain ⟨o,g,c⟩:=st;refine A0 (R9 (T:= "StopIteration") (b:=true) ⟨o,g,c⟩ zW ?_);exact A6 (q _ k)
end
abbrev zt1 (h:Heap) (a:Addr):Heap:=h.push {cls:= .type "tuple_iterator",data:= .fields #[.ref a, .int 0 0]}
abbrev zt2 (h:Heap) (a b:Addr):Heap:=(zt1 h a).push {cls:= .type "tuple_iterator",data:= .fields #[.ref b, .int 0 0]}
abbrev zt3 (h:Heap) (a b:Addr):Heap:=(zt2 h a b).push {cls:= .type "tuple",data:= .seq #[.ref h.objs.size, .ref (zt1 h a).objs.size]}
abbrev zt4 (h:Heap) (a b:Addr):Heap:=(zt3 h a b).push {cls:= .type "tuple",data:= .seq #[.none, .none]}
abbrev zt5 (h:Heap) (a b:Addr):Heap:=(zt4 h a b).push {cls:= .type "zip",data:= .fields #[.none, .bool false, .bool false, .ref (zt2 h a b).objs.size, .ref (zt3 h a b).objs.size]}
theorem ZD{h:Heap}{t:Addr}{us}{o:Obj}(x:h.IsTuple t us):(h.push o).IsTuple t us:=by
 obtain ⟨o',e,r⟩:=x;exact ⟨o',A4 _ e,r⟩
theorem aO (a b : Addr) (xs ys : Array Value) :
 Meets (Builtin.«zip.__new__» ⟨[.type "zip", .ref a, .ref b], []⟩) (fun _ R s => s.heap.IsTuple a xs /\ s.heap.IsTuple b ys /\ R (.ok (.ret (.ref (zt4 s.heap a b).objs.size))) { s with heap := zt5 s.heap a b }) :=
 .of_wp fun prog w A R s h=>by
  obtain ⟨hp,g,d,tk,os⟩:=s;obtain ⟨x1,x2,h⟩:=h;have hsub:=sub_zip;have y1:Heap.IsTuple (Shared.heap ⟨hp,g,d,tk,os⟩) a xs:=x1;have y2:Heap.IsTuple (Shared.heap ⟨hp.push {cls:= .type "tuple_iterator",data:= .fields #[.ref a, .int 0 0]},g,d,tk,os⟩) b ys:=ZD x2
  wp_walk using eB y1,eB y2
  exact ⟨_,rfl,h⟩
section
variable {prog:Program} {w:World} {A:Around} {E:Value->Shared->Prop} {s:Shared}
theorem gL {a b : Addr} {xs ys : Array Value} {Q : Value -> Shared -> Prop} (x1 : s.heap.IsTuple a xs) (x2 : s.heap.IsTuple b ys)
 (q:∀h',IsZip h' (s.heap.objs.size+4) (s.heap.objs.size+2) (s.heap.objs.size+3) .none->IsPair h' (s.heap.objs.size+2) (.ref s.heap.objs.size) (.ref (s.heap.objs.size+1)) ->
  IsPair h' (s.heap.objs.size+3) .none .none->h'.IsTupleIter s.heap.objs.size a 0->h'.IsTupleIter (s.heap.objs.size+1) b 0->(∀c o,s.heap.get? c=some o->h'.get? c=some o)->Q (.ref (s.heap.objs.size+4)) {s with heap:=h' }) :
 wpAny (model prog w) A (call (.type "zip") [.ref a, .ref b]) Q E s:=by
 refine callType_new PySem.F.called_zip (by decide) (PySem.F.typeCall_zip_2 _ _) (PySem.F.newCall_zip_2 _ _) (fun obj=>PySem.F.args_object_init_3 obj _ _) PySem.F.entry_zip_new (aO a b xs ys) ⟨x1,x2,?_⟩;have e1:(zt1 s.heap a).objs.size=s.heap.objs.size+1:=D1 ..;have e2:(zt2 s.heap a b).objs.size=s.heap.objs.size+2:=by rw [D1,e1]
 have e3:(zt3 s.heap a b).objs.size=s.heap.objs.size+3:=by rw [D1,e2]
 have e4:(zt4 s.heap a b).objs.size=s.heap.objs.size+4:=by rw [D1,e3]
 have g5:(zt5 s.heap a b).get? (zt4 s.heap a b).objs.size=some _:=AI _ rfl;have g4:(zt5 s.heap a b).get? (zt3 s.heap a b).objs.size=some _:=A4 _ (AI _ rfl);have g3:(zt5 s.heap a b).get? (zt2 s.heap a b).objs.size=some _:=A4 _ (A4 _ (AI _ rfl));have g2:(zt5 s.heap a b).get? (zt1 s.heap a).objs.size=some _:=A4 _ (A4 _ (A4 _ (AI _ rfl)));have g1:(zt5 s.heap a b).get? s.heap.objs.size=some _:=A4 _ (A4 _ (A4 _ (A4 _ (AI _ rfl))));show _/\_;rw [e2,e3,e4] at g5
 rw [e1,e2] at g3
 rw [e3] at g4
 rw [e1] at g2
 rw [e4];refine ⟨⟨_,g5,rfl⟩,q _ g5 g3 g4 ⟨_,g1,rfl,rfl⟩ ⟨_,g2,rfl,rfl⟩ fun c o e=> ?_⟩;exact A4 _ (A4 _ (A4 _ (A4 _ (A4 _ e))))
end
def Ity(K:PySem.W.Frag)(a b:Addr):It:=
 ⟨fun i H=>∃xs ys x y,SqT K H a xs/\SqT K H b ys/\xs[i]? = some x/\ys[i]? = some y,
  fun i H v H'=>∃p x y,H p=none/\v = .ref p/\H'=upd H p (.tup [x,y])/\(∀xs,SqT K H a xs->xs[i]? = some x)/\(∀ys,SqT K H b ys->ys[i]? = some y),
  fun i H=>∃xs ys,SqT K H a xs/\SqT K H b ys/\(xs.length<=i\/ys.length<=i)⟩
def xJ(z TI TO i1 i2 l1 l2:Addr)(i:Nat)(h:Heap):Prop:=IsZip h z TI TO .none/\IsPair h TI (.ref i1) (.ref i2)/\(∃a b,IsPair h TO a b)/\h.IsTupleIter i1 l1 i/\h.IsTupleIter i2 l2 i
theorem eO {P : Program} {w : World} {K : PySem.W.Frag} {elts : List Expr} {k : Nat} {pos : Pos} {z TI TO i1 i2 l1 l2 : Addr} (D : ZipApart z TI TO i1 i2 l1 l2) :
 Turn P w K (.Tuple elts k pos) (Ity K l1 l2) [z,TI,TO,i1,i2] z (xJ z TI TO i1 i2 l1 l2) where
 mem:=by simp
 obj:=fun i h st b hb=>by
  obtain ⟨h1,h2,⟨a,c,h3⟩,⟨o4,h4,_,d4⟩,⟨o5,h5,_,d5⟩⟩:=st;simp only [AN,BN,FJ] at hb
  rcases hb with rfl | rfl | rfl | rfl | rfl
  . exact ⟨_,h1,fun v e=>(nomatch e)⟩
  . exact ⟨_,h2,fun v e=>(nomatch e)⟩
  . exact ⟨_,h3,fun v e=>(nomatch e)⟩
  . exact ⟨_,h4,fun v e=>by rw [d4] at e;cases e⟩
  . exact ⟨_,h5,fun v e=>by rw [d5] at e;cases e⟩
 keep:=fun i h h' st kk=>by
  obtain ⟨h1,h2,⟨a,c,h3⟩,h4,h5⟩:=st;exact ⟨kk z (by simp) _ h1,kk TI (by simp) _ h2,⟨a,c,kk TO (by simp) _ h3⟩,h4.at fun o e=>kk i1 (by simp) o e,h5.at fun o e=>kk i2 (by simp) o e⟩
 item:=by
  intro X hP hw hK hc i pins s σ H E I hf st hg;subst hP hw hK;obtain ⟨h1,h2,⟨a,c,h3⟩,h4,h5⟩:=st;obtain ⟨xs,ys,x,y,q1,q2,hx,hy⟩:=hg;obtain ⟨its,rv,p,hz⟩:=I.tuple q1;obtain ⟨jts,rw',p',hz'⟩:=I.tuple q2;obtain ⟨u,hu,ru⟩:=rv.get hx;obtain ⟨u',hu',ru'⟩:=rw'.get hy;have ltS:∀ {h:Heap} {b:Addr} {o:Obj},h.get? b=some o -> @LT.lt Nat _ b h.objs.size:=fun e=>AU e;refine ZU D h1 h2 h3 h4 h5 p p' (x:=u) (y:=u') (by simpa using hu) (by simpa using hu') fun h' a1 a2 a3 a4 a5 a6 hk=> ?_;refine ⟨_,rfl,A67 a1 fun h'' a1' sb=> ?_⟩;have ch:∀b ∈ [z,TI,TO,i1,i2],H b=none:=fun b hb=>(hf b hb).1
  have kk:∀b o,b ∉ [z,TO,i1,i2]->s.heap.get? b=some o->h''.get? b=some o:=fun b o hb e=>by
   simp only [AN,BN,FJ,not_or] at hb
   exact sb.extBut b o hb.1 (hk b o hb.1 hb.2.1 hb.2.2.1 hb.2.2.2 e)
  have eT:h''.get? s.heap.objs.size=some {cls:= .type "tuple",data:= .seq #[u,u']}:=sb.extBut _ _ (fun e=>by have l:=ltS h1;rw [<-e] at l;omega) a5
  have sub:∀b,b ∈ [z,TO,i1,i2]->b ∈ [z,TI,TO,i1,i2]:=fun b hb=>by
   simp only [AN,BN,FJ] at hb ⊢
   rcases hb with r | r | r | r
   . exact .inl r
   . exact .inr (.inr (.inl r))
   . exact .inr (.inr (.inr (.inl r)))
   . exact .inr (.inr (.inr (.inr r)))
  have nT:H s.heap.objs.size=none:=I.hok.fresh (AF _)
  have hok1 : HOk X.prog X.w H h'' := fun b o e => (I.hok b o e).stay (fun d v hd q => kk d v (fun hm => by
   have n:=ch d (sub d hm);rcases hd with hd | hd
   . rw [hd,e] at n;cases n
   . rw [hd] at n;cases n) q) (fun _ q=>q) fun _ _ q=>q
  have hok2:HOk X.prog X.w (upd H s.heap.objs.size (.tup [x,y])) h'':=W0 hok1 nT ⟨by show 2<=sizeLine;decide,[u,u'], .cons ru (.cons ru' .nil),⟨_,eT,rfl,_,rfl⟩⟩
  have un:Un (frs X.stack) [z,TO,i1,i2] H (upd H s.heap.objs.size (.tup [x,y])) s.heap h'':=by
   refine ⟨fun b o e _ _ hx=>kk b o hx e,fun b o e _ _ hx=>⟨o.slots,kk b o hx e⟩,fun b o e n _=> ?_,fun b o e hx=>⟨o,kk b o hx e⟩,fun b zs e=> ?_,fun b o v e=> ?_,fun b ps e=>⟨#[],?_⟩⟩
   . have l:=ltS e;rw [BE (by intro q;subst q;omega)];exact n
   . rw [BE (BI e nT)];exact e
   . rw [BE (BI e nT)];exact e
   . rw [BE (BI e nT)];simpa using e
  have I2:Inv X pins σ (upd H s.heap.objs.size (.tup [x,y])) {s with heap:=h'' }:=I.call' rfl un hok2 I.bare fun b hb=>by
   obtain ⟨f0,f1,f2,f3,f4,f5⟩:=hf b (sub b hb);exact ⟨f3,f1,f4,f5⟩
  refine ⟨.ref s.heap.objs.size,_,I2,rfl,⟨s.heap.objs.size,x,y,nT,rfl,rfl,fun zs hq=> ?_,fun zs hq=> ?_⟩,⟨a1',?_,⟨_,_,sb.extBut _ _ D.TOz a2⟩,a3.extBut sb.extBut D.i1z,a4.extBut sb.extBut D.i2z⟩,fun b hb=> ?_⟩
  . rw [I.tuple_inj hq q1];exact hx
  . rw [I.tuple_inj hq q2];exact hy
  . exact sb.extBut _ _ D.TIz (hk TI _ D.TIz D.TITO D.TIi1 D.TIi2 h2)
  . have n:=ch b hb
    obtain ⟨o,e⟩:∃o,s.heap.get? b=some o:=by
     simp only [AN,BN,FJ] at hb
     rcases hb with rfl | rfl | rfl | rfl | rfl
     . exact ⟨_,h1⟩
     . exact ⟨_,h2⟩
     . exact ⟨_,h3⟩
     . obtain ⟨o,e,_⟩:=h4;exact ⟨o,e⟩
     . obtain ⟨o,e,_⟩:=h5;exact ⟨o,e⟩
    have l:=ltS e;rw [BE (by intro q;subst q;omega)];exact n
 done:=by
  intro X hP hw hK hc i pins s σ H E I hf st hg;subst hP hw hK;obtain ⟨h1,h2,⟨a,c,h3⟩,h4,h5⟩:=st;obtain ⟨xs,ys,q1,q2,he⟩:=hg;obtain ⟨its,rv,p,hz⟩:=I.tuple q1;obtain ⟨jts,rw',p',hz'⟩:=I.tuple q2;have l1:=rv.length;have l2:=rw'.length;refine fD (I.ok.hd hc) D h1 h2 h3 h4 h5 p p' (by rcases he with e | e;exact .inl (by simp;omega);exact .inr (by simp;omega)) fun h' hk=>⟨rfl,?_⟩;have ch:∀b ∈ [z,TI,TO,i1,i2],H b=none:=fun b hb=>(hf b hb).1
  have sub:∀b,b ∈ [z,TO,i1,i2]->b ∈ [z,TI,TO,i1,i2]:=fun b hb=>by
   simp only [AN,BN,FJ] at hb ⊢
   rcases hb with r | r | r | r
   . exact .inl r
   . exact .inr (.inr (.inl r))
   . exact .inr (.inr (.inr (.inl r)))
   . exact .inr (.inr (.inr (.inr r)))
  have kk:∀b o,b ∉ [z,TO,i1,i2]->s.heap.get? b=some o->h'.get? b=some o:=fun b o hb e=>by
   simp only [AN,BN,FJ,not_or] at hb
   exact hk b o hb.1 hb.2.1 hb.2.2.1 hb.2.2.2 e
  have hok1 : HOk X.prog X.w H h' := fun b o e => (I.hok b o e).stay (fun d v hd q => kk d v (fun hm => by
   have n:=ch d (sub d hm);rcases hd with hd | hd
   . rw [hd,e] at n;cases n
   . rw [hd] at n;cases n) q) (fun _ q=>q) fun _ _ q=>q
  have un:Un (frs X.stack) [z,TO,i1,i2] H H s.heap h' :=
   ⟨fun b o e _ _ hx=>kk b o hx e,fun b o e _ _ hx=>⟨o.slots,kk b o hx e⟩,fun b o e n _=>n,fun b o e hx=>⟨o,kk b o hx e⟩,fun b zs e=>e,fun b o v e=>e,fun b ps e=>⟨#[],by simpa using e⟩⟩
  exact I.call' rfl un hok1 I.bare fun b hb=>by
   obtain ⟨f0,f1,f2,f3,f4,f5⟩:=hf b (sub b hb);exact ⟨f3,f1,f4,f5⟩
 self:=fun _ _ _ _ _ st h=>R7 st.1 h
section
variable {X:Cx}
def tM(K:PySem.W.Frag)(ta:TA):TI:=fun σ H R=>ta σ H fun vs H1=>∃l1 l2,vs = [.ref l1, .ref l2]/\(((∃xs,SqL K H1 l1 xs)/\(∃ys,SqL K H1 l2 ys)/\R (Itz K l1 l2) H1)\/((∃xs,SqT K H1 l1 xs)/\(∃ys,SqT K H1 l2 ys)/\R (Ity K l1 l2) H1))
theorem r0{n b:Nat}(hb:b ∈ [n+4,n+2,n+3,n,n+1]):n<=b:=by
 simp only [AN,BN,FJ] at hb
 omega
theorem rA {a b : Expr} {ta : TA} {elts : List Expr} {k : Nat} {tp p pos : Pos} (hg : Gl X "zip") (hm : X.mg "zip" = none) (ha : PA X [a, b] ta) (hs : starEach [a, b] X.env = [(false, eval a X.env), (false, eval b X.env)] := by rfl) (hs2 : starEach [b] X.env = [(false, eval b X.env)] := by rfl) :
 PI X (.Tuple elts k tp) (.Call (.Name "zip" p) [a,b] [] pos) (tM X.K ta):=by
 intro pins s σ H R I h;refine Call_ (GS I hg hm yJ (CA (thn (ha pos pins s σ H _ I h) fun us s1 ⟨vs,H1,I1,r1,q1⟩ => ?_) (by rw [hs,hs2]) (by rw [hs2];rfl)));obtain ⟨l1,l2,e,q1⟩:=q1;subst e;obtain ⟨u,w',rfl,ru,rw'⟩:=kJ r1
 cases (show u=Value.ref l1 from ru)
 cases (show w'=Value.ref l2 from rw')
 rcases q1 with ⟨⟨xs,q1⟩,⟨ys,q2⟩,q⟩ | ⟨⟨xs,q1⟩,⟨ys,q2⟩,q⟩
 . obtain ⟨its,rv,p1,hz⟩:=I1.list q1;obtain ⟨jts,rv',p2,hz'⟩:=I1.list q2;have lt1:l1<s1.heap.objs.size:=by obtain ⟨o,n,e,_⟩:=p1;exact AU e
   have lt2:l2<s1.heap.objs.size:=by obtain ⟨o,n,e,_⟩:=p2;exact AU e
   refine call_zip_2 p1.isList p2.isList fun h' a1 a2 a3 a4 a5 a6 hk=> ?_;refine R7 (s:={s1 with heap:=h' }) a1 ?_;exact ⟨_,[s1.heap.objs.size+4,s1.heap.objs.size+2,s1.heap.objs.size+3,s1.heap.objs.size,s1.heap.objs.size+1],_,_,H1,rfl,I1.kept (t':=s1.toks) hk,mV (zipApart_new lt1 lt2),⟨a1,a2,⟨_,_,a3⟩,a4,a5⟩,fun b hb=>I1.fpOk (r0 hb) (I1.hok.fresh (r0 hb)),q⟩
 . obtain ⟨its,rv,p1,hz⟩:=I1.tuple q1;obtain ⟨jts,rv',p2,hz'⟩:=I1.tuple q2;have lt1:l1<s1.heap.objs.size:=by obtain ⟨o,e,_⟩:=p1;exact AU e
   have lt2:l2<s1.heap.objs.size:=by obtain ⟨o,e,_⟩:=p2;exact AU e
   refine gL p1 p2 fun h' a1 a2 a3 a4 a5 hk=> ?_;refine R7 (s:={s1 with heap:=h' }) a1 ?_;exact ⟨_,[s1.heap.objs.size+4,s1.heap.objs.size+2,s1.heap.objs.size+3,s1.heap.objs.size,s1.heap.objs.size+1],_,_,H1,rfl,I1.kept (t':=s1.toks) hk,eO (zipApart_new lt1 lt2),⟨a1,a2,⟨_,_,a3⟩,a4,a5⟩,fun b hb=>I1.fpOk (r0 hb) (I1.hok.fresh (r0 hb)),q⟩
end
end Tf
namespace Dm
open PySem PySem.Spec PyProof.Rows L2 Tf
section
variable {K:PySem.W.Frag} {R:Rl} [RelOk K R]
theorem pX{H0:Hp}{a b:Addr}{vs ws:List V}{ds es:List PyData}(h:SqT K H0 a vs)(r:Reps K H0 vs ds)(h2:SqT K H0 b ws)(r2:Reps K H0 ws es):ItR K H0 (Ity K a b) (OA ds es):=fun H0' H' s s' i=>by
 have h':=s'.seqT (s.seqT h);have h2':=s'.seqT (s.seqT h2);refine ⟨fun d hd=> ?_,fun hi=>⟨vs,ws,h',h2',?_⟩⟩
 . unfold OA at hd
   rw [zN] at hd
   cases e1:ds[i]? with
   | none=>rw [e1] at hd;cases hd
   | some x=>
    cases e2:es[i]? with
    | none=>rw [e1,e2] at hd;cases hd
    | some y=>
     rw [e1,e2] at hd
     cases hd
     obtain ⟨v,q1,q2⟩:=Tf.Reps.get r e1;obtain ⟨w,q3,q4⟩:=Tf.Reps.get r2 e2;refine ⟨⟨vs,ws,v,w,h',h2',q1,q3⟩,fun z H2 yl=> ?_⟩;obtain ⟨p,x',y',hp,rfl,rfl,hx,hy⟩:=yl;have:=hx vs h';rw [q1] at this
     cases this
     have:=hy ws h2';rw [q3] at this
     cases this
     refine ⟨_,Ext.allocF s' hp _, .tuple BZ ?_⟩;have s2:=s.trans (Same.upd (s'.free hp) (.tup [v,w]));exact .cons (Rep.same s2 q2) (.cons (Rep.same s2 q4) .nil)
 . rw [r.length,r2.length];unfold OA at hi
   rw [A69] at hi
   omega
def K7(f:En->Option (List PyData)):En->Option (List PyData):=fun ρ=>(f ρ).bind fun a=>match a with
 | [.list xs, .list ys]=>some (OA xs ys)
 | [.tuple xs, .tuple ys]=>some (OA xs ys)
 | _=>none
theorem rX{ta:TA}{f:En->Option (List PyData)}(h:RA K R ta f):RI K R (tM K ta) (K7 f):=fun HB σ ρ H0 H s e ds hd R q=>by
 obtain ⟨a,ha,hd⟩:=A3.mp hd
 split at hd
 . cases hd
   refine h HB σ ρ H0 H s e _ ha _ fun vs H1 J1 x1 p1=> ?_
   cases p1 with | cons p1 t=>cases t with | cons p2 t=>
    cases t
    cases p1 with | list a1 a2=>cases p2 with | list b1 b2=>
     exact ⟨_,_,rfl, .inl ⟨⟨_,x1.s1.seq a1⟩,⟨_,x1.s1.seq b1⟩,q _ _ _ x1 (y8 a1 a2 b1 b2)⟩⟩
 . cases hd
   refine h HB σ ρ H0 H s e _ ha _ fun vs H1 J1 x1 p1=> ?_
   cases p1 with | cons p1 t=>cases t with | cons p2 t=>
    cases t
    cases p1 with | tuple a1 a2=>cases p2 with | tuple b1 b2=>
     exact ⟨_,_,rfl, .inr ⟨⟨_,x1.s1.seqT (SqT.of a1)⟩,⟨_,x1.s1.seqT (SqT.of b1)⟩,q _ _ _ x1 (pX (SqT.of a1) a2 (SqT.of b1) b2)⟩⟩
 . cases hd
end
section
variable {X:Cx} {R:Rl} [RelOk X.K R] {a b:Expr} {pos p:Pos} {fs:En->Option (List PyData)}
theorem QX {elts:List Expr} {k} {tp:Pos} (hm:X.mg "zip" = none) (h:DA X R [a,b] fs) (hg:Gl X "zip" :=by rfl) (hs:starEach [a,b] X.env = [(false,eval a X.env),(false,eval b X.env)]:=by rfl) (hs2:starEach [b] X.env = [(false,eval b X.env)]:=by rfl):DI X R (.Tuple elts k tp) (.Call (.Name "zip" p) [a,b] [] pos) (K7 fs):=by
 obtain ⟨t,h1,h2⟩:=h;exact ⟨_,rA hg hm h1 hs hs2,rX h2⟩
end
end Dm
namespace Dm
open PySem PySem.Spec PyProof.Rows L2 Tf
def ZY:PyData->Option Key
 | .int i=>some (.inl i)
 | .str x=>some (.inr x)
 | _=>none
def Q6:List PyData->Option (List Key)
 | []=>some []
 | d::ds=>(ZY d).bind fun k=>(Q6 ds).map (k :: ·)
def ME:PyData->Option (List Key)
 | .tuple ds=>Q6 ds
 | _=>none
theorem lW{a b:Key}(h:keyD a=keyD b):a=b:=by
 cases a <;> cases b <;> simp [keyD] at h <;> rw [h]
theorem PB{a b:List Key}(h:tupD a=tupD b):a=b:=by
 have h:a.map keyD=b.map keyD:=by
  unfold tupD at h
  exact PyData.tuple.inj h
 exact A79 (fun _ _=>lW) |>.mp h
section
variable {K:PySem.W.Frag}
theorem RZ{H:Hp}:∀ {vs:List V} {ds:List PyData} {k:List Key},Reps K H vs ds->Q6 ds=some k->vs=k.map kV/\ds=k.map keyD
 | _,_,_, .nil,h=>by cases h;exact ⟨rfl,rfl⟩
 | _,_,k, .cons (d:=d) r t,h=>by
  obtain ⟨k1,e1,h⟩:=A3.mp h;obtain ⟨ks,e2,rfl⟩:=AG.mp h;obtain ⟨i1,i2⟩:=RZ t e2;subst i1 i2
  cases r with
  | int i=>cases e1;exact ⟨rfl,rfl⟩
  | str x=>cases e1;exact ⟨rfl,rfl⟩
  | _=>cases e1
theorem DctR.nil{H:Hp}:DctR K H [] []:=⟨[],[],[],rfl,rfl, .nil,rfl⟩
theorem DctR.cons{H:Hp}{k:List Key}{v:V}{d:PyData}{t:List (List Key×V)}{kvs:List (PyData×PyData)}(r:Rep K H v d)(h:DctR K H t kvs):DctR K H ((k,v)::t) ((tupD k,d)::kvs):=by
 obtain ⟨ks,xs,ds,rfl,e2,e3,rfl⟩:=h;exact ⟨k::ks,v::xs,d::ds,rfl,by rw [B7,B7,e2], .cons r e3,rfl⟩
theorem DctR.out{H:Hp}{t:List (List Key×V)}{kvs:List (PyData×PyData)}(h:DctR K H t kvs):(t = []/\kvs = [])\/∃k v d t' kvs',t=(k,v)::t'/\kvs=(tupD k,d)::kvs'/\Rep K H v d/\DctR K H t' kvs':=by
 obtain ⟨ks,xs,ds,rfl,e2,e3,rfl⟩:=h
 cases ks with
 | nil=>exact .inl ⟨rfl,rfl⟩
 | cons k ks=>
  cases e3 with
  | nil=>simp at e2
  | cons r t=>exact .inr ⟨k,_,_,_,_,rfl,rfl,r,ks,_,_,rfl,by simpa using e2,t,rfl⟩
open Classical in
noncomputable def HM:List (PyData×PyData)->List Key->Option PyData
 | [],_=>none
 | (q,d)::r,k=>if q=tupD k then some d else HM r k
open Classical in
noncomputable def QK(k:List Key)(d:PyData):List (PyData×PyData)->List (PyData×PyData)
 | []=> []
 | (q,e)::r=>(if q=tupD k then (q,d) else (q,e))::QK k d r
noncomputable def XT(kvs:List (PyData×PyData))(k:List Key)(d:PyData):List (PyData×PyData):=match HM kvs k with
 | some _=>QK k d kvs
 | none=>kvs ++ [(tupD k,d)]
theorem DctR.val{H:Hp}{k:List Key}:∀ {t:List (List Key×V)} {kvs:List (PyData×PyData)},DctR K H t kvs->(OB t k=none/\HM kvs k=none)\/∃v d,OB t k=some v/\HM kvs k=some d/\Rep K H v d
 | [],kvs,h=>by
  rcases h.out with ⟨_,rfl⟩ | ⟨k',v,d,t',kvs',e,_⟩
  . exact .inl ⟨rfl,rfl⟩
  . cases e
 | p::t,kvs,h=>by
  rcases h.out with ⟨e,_⟩ | ⟨k',v,d,t',kvs',e,rfl,r,h'⟩
  . cases e
  . cases e
    by_cases hk:k'=k
    . subst hk;exact .inr ⟨v,d,P8 rfl,AD rfl,r⟩
    . rw [P9 (p:=(k',v)) hk,show HM ((tupD k',d)::kvs') k=HM kvs' k from AA fun z=>hk (PB z)];exact DctR.val h'
theorem DctR.repl{H:Hp}{k:List Key}{v:V}{d:PyData}(r:Rep K H v d):∀ {t:List (List Key×V)} {kvs:List (PyData×PyData)},DctR K H t kvs->DctR K H (t.map fun kv=>if kv.1=k then (kv.1,v) else kv) (QK k d kvs)
 | [],kvs,h=>by
  rcases h.out with ⟨_,rfl⟩ | ⟨k',v,d,t',kvs',e,_⟩
  . exact .nil
  . cases e
 | p::t,kvs,h=>by
  rcases h.out with ⟨e,_⟩ | ⟨k',v',d',t',kvs',e,rfl,r',h'⟩
  . cases e
  . cases e
    rw [B0];rw [QK]
    by_cases hk:k'=k
    . subst hk;rw [AD rfl,AD rfl];exact .cons r (DctR.repl r h')
    . rw [AA hk,AA fun z=>hk (PB z)];exact .cons r' (DctR.repl r h')
theorem DctR.snoc{H:Hp}{k:List Key}{v:V}{d:PyData}(r:Rep K H v d):∀ {t:List (List Key×V)} {kvs:List (PyData×PyData)},DctR K H t kvs->DctR K H (t ++ [(k,v)]) (kvs ++ [(tupD k,d)])
 | [],kvs,h=>by
  rcases h.out with ⟨_,rfl⟩ | ⟨k',v,d,t',kvs',e,_⟩
  . exact .cons r .nil
  . cases e
 | p::t,kvs,h=>by
  rcases h.out with ⟨e,_⟩ | ⟨k',v',d',t',kvs',e,rfl,r',h'⟩
  . cases e
  . cases e
    exact .cons r' (DctR.snoc r h')
theorem DctR.put{H:Hp}{k:List Key}{v:V}{d:PyData}{t:List (List Key×V)}{kvs:List (PyData×PyData)}(r:Rep K H v d)(h:DctR K H t kvs):DctR K H (QT t k v) (XT kvs k d):=by
 unfold QT XT;rw [SF];rcases h.val (k:=k) with ⟨e1,e2⟩ | ⟨v',d',e1,e2,_⟩
 . rw [e1,e2];show DctR K H (if false=true then _ else t ++ [(k,v)]) (kvs ++ [(tupD k,d)]);rw [AA (by decide)];exact h.snoc r
 . rw [e1,e2];show DctR K H (if true=true then _ else _) (QK k d kvs);rw [AD rfl];exact h.repl r
theorem DctR.length{H:Hp}:∀ {t:List (List Key×V)} {kvs:List (PyData×PyData)},DctR K H t kvs->t.length=kvs.length
 | [],kvs,h=>by
  rcases h.out with ⟨_,rfl⟩ | ⟨k',v,d,t',kvs',e,_⟩
  . rfl
  . cases e
 | p::t,kvs,h=>by
  rcases h.out with ⟨e,_⟩ | ⟨k',v',d',t',kvs',e,rfl,r',h'⟩
  . cases e
  . cases e
    rw [B7,B7,DctR.length h']
def unD:List (PyData×PyData)->List (PyData×PyData)
 | (.none, .none)::r=>r
 | r=>r
theorem vO(r:List (PyData×PyData)):unD (mkD::r)=r:=rfl
theorem kR{H:Hp}{t:List (List Key×V)}{kvs:List (PyData×PyData)}(h:DctR K H t kvs):unD kvs=kvs:=by
 rcases h.out with ⟨_,rfl⟩ | ⟨k',v',d',t',kvs',_,rfl,_⟩ <;> rfl
theorem SlP.dct{H0 H:Hp}{v:V}{kvs:List (PyData×PyData)}(s:Same H0 H):∀ {r:Sl},SlP K H0 H v r->r.dat = .dict kvs->∃a t,v = .ref a/\Rd H a (.dT t)/\DctR K H0 t (unD kvs)
 | .val _,h,e=>by
  cases h with
  | dict h1 h2 h3=>
   cases e
   have r:DctR K H0 _ _:=⟨_,_,_,rfl,h2,h3,rfl⟩;rw [kR r]
   exact ⟨_,_,rfl,Rd.same s h1,r⟩
  | dictF h1 h2 h3=>cases e;rw [vO];exact ⟨_,_,rfl, .inr ⟨_,s _ _ h1⟩,_,_,_,rfl,h2,h3,rfl⟩
  | _=>cases e
 | .own _,_,e=>by cases e
 | .dct _,⟨a,t,e,h2,h3⟩,e2=>by cases e2;rw [kR h3];exact ⟨a,t,e, .inl h2,h3⟩
variable {R:Rl} [RelOk K R]
def mDNew:En->Option Sl:=fun _=>some (.dct [])
theorem qA:RE K R tDNewT mDNew:=fun HB σ ρ H0 H s e r hr Q q=>by
 cases hr
 exact fun p hp=>q _ _ _ (Ext.alloc s hp _) ⟨p,[],rfl,hp,s.free hp,BZ, .nil⟩
def dictOf:Sl->Option (List (PyData×PyData)):=fun s=>match s.dat with
 | .dict kvs=>some (unD kvs)
 | _=>none
theorem O8{H0 H:Hp}{v:V}{r:Sl}{kvs:List (PyData×PyData)}(s:Same H0 H)(p:SlP K H0 H v r)(h:dictOf r=some kvs):∃a t,v = .ref a/\Rd H a (.dT t)/\DctR K H0 t kvs:=by
 unfold dictOf at h
 split at h
 . rename_i e;cases h;exact p.dct s e
 . cases h
theorem OY{H0 H:Hp}{v:V}{s:Sl}{k:List Key}(ss:Same H0 H)(p:SlP K H0 H v s)(h:ME s.dat=some k):∃b,v = .ref b/\H b=some (.tup (k.map kV)):=by
 unfold ME at h
 split at h
 . rename_i ds e;obtain ⟨a,vs,rfl,h1,h2⟩:=p.tup e;obtain ⟨rfl,_⟩:=RZ h2 h;exact ⟨a,rfl,ss _ _ h1⟩
 . cases h
noncomputable def NT:Sl->Sl->Option Sl:=fun a b=>(dictOf a).bind fun kvs=>(ME b.dat).bind fun k=>(HM kvs k).map .val
theorem pA{td ty:TE}{fa fb:En->Option Sl}(ha:RP K R td fa)(hb:RP K R ty fb):RE K R (uD td ty) (mBin NT fa fb):=fun HB σ ρ H0 H s e z hz Q q=>by
 obtain ⟨x,hx,hz⟩:=A3.mp hz;obtain ⟨y,hy,hz⟩:=A3.mp hz;obtain ⟨kvs,h1,hz⟩:=A3.mp hz;obtain ⟨k,h2,hz⟩:=A3.mp hz;obtain ⟨d,h3,rfl⟩:=AG.mp hz;refine ha HB σ ρ H0 H s e x hx _ fun v H1 J1 x1 p1=> ?_;refine hb HB σ ρ H1 J1 x1.s1 (e.ext (K:=K) x1) y hy _ fun u H2 J2 x2 p2=> ?_;obtain ⟨a,t,rfl,g1,g2⟩:=O8 x2.s1 (p1.ext x2) h1;obtain ⟨b,rfl,g3⟩:=OY x2.s1 p2 h2;rcases g2.val (k:=k) with ⟨_,e2⟩ | ⟨w,d',e1,e2,r⟩
 . rw [e2] at h3;cases h3
 . rw [e2] at h3
   cases h3
   exact ⟨a,w,rfl, .inr ⟨t,k,b,g1,rfl,g3,e1.symm⟩,q _ _ _ (x1.trans x2) r⟩
noncomputable def iT(neg:Bool):Sl->Sl->Option Sl:=fun b a=>(dictOf a).bind fun kvs=>(ME b.dat).map fun k=> .val (.bool (xor neg (HM kvs k).isSome))
theorem fL{td ty:TE}{fa fb:En->Option Sl}(hb:RP K R ty fb)(ha:RP K R td fa):RE K R (bD ty td) (mBin (iT true) fb fa):=fun HB σ ρ H0 H s e z hz Q q=>by
 obtain ⟨y,hy,hz⟩:=A3.mp hz;obtain ⟨x,hx,hz⟩:=A3.mp hz;obtain ⟨kvs,h1,hz⟩:=A3.mp hz;obtain ⟨k,h2,rfl⟩:=AG.mp hz;refine hb HB σ ρ H0 H s e y hy _ fun u H1 J1 x1 p1=> ?_;refine ha HB σ ρ H1 J1 x1.s1 (e.ext (K:=K) x1) x hx _ fun v H2 J2 x2 p2=> ?_;obtain ⟨a,t,rfl,g1,g2⟩:=O8 x2.s1 p2 h1;obtain ⟨b,rfl,g3⟩:=OY x2.s1 (p1.ext x2) h2;refine ⟨a,OB t k,rfl, .inr ⟨t,k,b,g1,rfl,g3,rfl⟩,?_⟩
 have e:(!(OB t k).isSome)=xor true (HM kvs k).isSome:=by
  rcases g2.val (k:=k) with ⟨e1,e2⟩ | ⟨w,d',e1,e2,r⟩ <;> rw [e1,e2] <;> rfl
 rw [e];exact q _ _ _ (x1.trans x2) (.bool _)
noncomputable def VX(fa fb fc:En->Option Sl):En->Option Sl:=fun ρ=>(fa ρ).bind fun a=>(fb ρ).bind fun b=>(fc ρ).bind fun c=>(dictOf a).bind fun kvs=>(ME b.dat).map fun k=> .val ((HM kvs k).getD c.dat)
theorem iS{td ty tz:TE}{fa fb fc:En->Option Sl}(ha:RP K R td fa)(hb:RP K R ty fb)(hc:RE K R tz fc):RE K R (kW td ty tz) (VX fa fb fc):=fun HB σ ρ H0 H s e z hz Q q=>by
 obtain ⟨x,hx,hz⟩:=Option.bind_eq_some_iff.mp hz;obtain ⟨y,hy,hz⟩:=Option.bind_eq_some_iff.mp hz;obtain ⟨c,hcc,hz⟩:=Option.bind_eq_some_iff.mp hz;obtain ⟨kvs,h1,hz⟩:=Option.bind_eq_some_iff.mp hz;obtain ⟨k,h2,rfl⟩:=Option.map_eq_some_iff.mp hz;refine ha HB σ ρ H0 H s e x hx _ fun v H1 J1 x1 p1=> ?_;obtain ⟨a,t0,rfl,g0,_⟩:=O8 x1.s1 p1 h1;refine ⟨a,rfl, .inr ⟨t0,g0⟩,?_⟩;refine hb HB σ ρ H1 J1 x1.s1 (e.ext (K:=K) x1) y hy _ fun u H2 J2 x2 p2=> ?_;refine hc.rv HB σ ρ H2 J2 x2.s1 ((e.ext (K:=K) x1).ext (K:=K) x2) c.dat (by unfold mDat;rw [hcc];rfl) _ fun w H3 J3 x3 p3=> ?_;obtain ⟨a',t,e',g1,g2⟩:=O8 x3.s1 ((p1.ext x2).ext x3) h1
 cases e'
 obtain ⟨b,rfl,g3⟩:=OY x3.s1 (p2.ext x3) h2;refine ⟨OB t k, .inr ⟨t,k,b,g1,rfl,g3,rfl⟩,?_⟩;rcases g2.val (k:=k) with ⟨e1,e2⟩ | ⟨w',d',e1,e2,r⟩
 . rw [e1];rw [e2] at q
   exact q _ _ _ ((x1.trans x2).trans x3) p3
 . rw [e1];rw [e2] at q
   exact q _ _ _ ((x1.trans x2).trans x3) r
def lV(i:Nat)(ρ:En):Prop:=∀j kws,j≠i->ρ[j]? ≠ some (some (.dct kws))
theorem ER.writeD {HB H0 H : Hp} {σ : L2.St} {ρ : En} {i : Nat} {a : Addr} {kvs kws : List (PyData × PyData)} {t t' : List (List Key × V)} (e : ER K HB H0 H σ ρ) (hl : lV i ρ) (hi : ρ[i]? = some (some (.dct kvs))) (hs : σ[i]? = some (some (.ref a))) (hb : HB a = none) (h0 : H0 a = none) (ha : H a = some (.dT t)) (hr : DctR K H0 t' kws) :
 ER K HB H0 (upd H a (.dT t')) σ (ρ.set i (some (.dct kws))):=by
 have own:∀(j:Nat),∀ts,(ρ.set i (some (.dct kws)))[j]? = some (some (.own ts))->ρ[j]? = some (some (.own ts)):=by
  intro j ts h
  by_cases hj:i=j
  . subst hj;rw [CK,hi] at h
    cases h
  . rw [B4 hj] at h;exact h
 refine ⟨by rw [GV];exact e.len,fun j s hq=> ?_,fun j k b ts us hjk hj hk h1 h2=> ?_⟩
 . by_cases hj:i=j
   . subst hj;rw [CK,hi] at hq
     cases hq
     exact ⟨.ref a,hs,a,t',rfl,hb,h0,BZ,hr⟩
   . rw [B4 hj] at hq
     obtain ⟨v,h1,h2⟩:=e.get j s hq;refine ⟨v,h1,?_⟩
     cases s with
     | val d=>exact h2
     | own ts=>
      obtain ⟨b,vs,rfl,g1,g2,g3,g4⟩:=h2;refine ⟨b,vs,rfl,g1,g2,?_,g4⟩;rw [BE]
      . exact g3
      . rintro rfl;rw [ha] at g3
        cases g3
     | dct ts=>exact absurd hq (hl j ts fun z=>hj z.symm)
 . exact e.apart j k b ts us hjk (own j ts hj) (own k us hk) h1 h2
def VG:Option Sl->Bool
 | some (.dct _)=>true
 | _=>false
def XG(i:Nat)(ρ:En):Bool:= !((ρ.set i none).any VG)
theorem dL{i:Nat}{ρ:En}(h:XG i ρ=true):lV i ρ:=fun j kws hj e=>by
 have h:(ρ.set i none).any VG=false:=by simpa [XG] using h
 have m:(ρ.set i none)[j]? = some (some (.dct kws)):=by rw [B4 (NG hj)];exact e
 have:=List.any_eq_false.mp h _ (BB m);exact this rfl
noncomputable def cP(i:Nat)(fk f:En->Option Sl):En->Option Out:=fun ρ=>(f ρ).bind fun r=>match (ρ[i]?).join with
 | some (.dct kvs)=>(fk ρ).bind fun b=>(ME b.dat).bind fun k=>if kvs.length<sizeLine/\XG i ρ=true then some (.nx (ρ.set i (some (.dct (XT kvs k r.dat))))) else none
 | _=>none
theorem qF{te tk:TE}{f fk:En->Option Sl}{i:Nat}(h:RE K (PR K) te f)(hk:RP K (PR K) tk fk):RS K (PR K) (uP (ZH i) tk te) (cP i fk f):=fun HB S0 σ ρ H0 H x e o ho D d=>by
 obtain ⟨r,hr,ho⟩:=A3.mp ho
 split at ho
 . rename_i kvs hown;obtain ⟨b,hb,ho⟩:=A3.mp ho;obtain ⟨k,hkk,ho⟩:=A3.mp ho
   split at ho
   . rename_i hc
     cases ho
     refine h.rv HB σ ρ H0 H x.s1 e r.dat (by unfold mDat;rw [hr];rfl) _ fun v H1 J1 x1 p1=> ?_;obtain ⟨v',hs,a,t,rfl,g1,g2,g3,g4⟩:=(e.ext (K:=K) x1).r.get i _ (join_some hown);refine ⟨.ref a,hs,?_⟩;refine hk HB σ ρ H1 J1 x1.s1 (e.ext (K:=K) x1) _ hb _ fun w H2 J2 x2 p2=> ?_;have l0:=x2.own a _ g3 True.intro g2;obtain ⟨c,rfl,g5⟩:=OY x2.s1 p2 hkk;refine ⟨a,_,rfl, .inr ⟨t,k,c,x2.s _ _ g3,rfl,g5,by rw [g4.length];exact hc.1,rfl⟩,?_⟩;exact d σ H2 _ (((x.chain x1).chain x2).write g1 l0 _) ⟨ER.writeD (((e.ext (K:=K) x1).ext (K:=K) x2).r) (dL hc.2) (join_some hown) hs g1 l0 (x2.s _ _ g3) ((g4.same x2.s0).put (Rep.same x2.s0 p1))⟩
   . cases ho
 . cases ho
end
end Dm
namespace Tf
open PySem PySem.Spec PyProof.Rows L2
section
variable {prog:Program} {w:World} {A:Around} {E:Value->Shared->Prop} {s:Shared} {d:Addr} {o:Obj} {es:Array DictEntry} {ep:Nat}
theorem gT (hd : (d == sysModules) = false) : MeetsIn prog w (Builtin.«dict.__len__» ⟨[.ref d], []⟩) (fun _ R s => ∃ o es ep, s.heap.get? d = some o /\ o.data = .dict es ep /\ R (.ok (.ret (.int es.size s.toks))) { s with toks := s.toks + 1 }) :=
 .of_wp fun A R s ⟨o,es,ep,ho,hdat,h⟩=>by
  show wpAny _ _ (dictSize d >>= _) _ _ s;unfold dictSize;refine wpAny_bind (wpAny_bind (wpAny_dictEntries ho hdat (wpAny_pure ?_)));show wpAny _ _ (Builtin.Dict.pendingCount d >>= _) _ _ s;refine wpAny_bind (wpAny_pendingCount_other hd ?_);refine wpAny_ret_mkInt ?_;rw [Nat.add_zero];exact h
theorem pT {Q:Value->Shared->Prop} (hd:(d==sysModules)=false) (ho:s.heap.get? d=some o) (hc:o.cls = .type "dict") (hdat:o.data = .dict es ep) (hfit:(es.size:Int)<2 ^ 63) (h:Q (.int es.size (s.toks+1)) {s with toks:=s.toks+1+1}):wpAny (model prog w) A (call (.builtin "len") [.ref d]) Q E s:=by
 refine Calls.call_function_entry kind_len plain_len entry_len (args_len1 _) ?_;have ty:s.TypeIs (.ref d) "dict" :=⟨o,ho,hc⟩;unfold Builtin.«len»;refine wpAny_bind (m:=oneArg "len" _) (wpAny_pure ?_)
 refine A0 (m:=callSpecial? (.ref d) (Str.ofString "__len__")) (CN (name:=Str.ofString "__len__") ty F.slot_dict_len
  (TR F.slot_dict_len ty F.entry_dict_len (F.args_dict_len_1 _) (gT hd) ⟨o,es,ep,ho,hdat,?_⟩))
 show wpAny _ _ _ _ _ {s with toks:=s.toks+1};refine A0 (CP (A6 ?_));refine A0 (EC ?_);show wpAny _ _ (if ((es.size:Nat):Int)<0 then _ else _) _ _ _;rw [AA (by omega)];show wpAny _ _ (if ((es.size:Nat):Int)≥2 ^ 63 then _ else _) _ _ _;rw [AA (by omega)];exact A0 (wpAny_mkInt (A6 ⟨_,rfl,h⟩))
end
variable {X:Cx}
theorem UR:KN X (.builtin "len") (fun xs H Q=>∃a t,xs = [V.ref a]/\Rd H a (.dT t)/\Q (.int t.length) H):=by
 intro pins s σ H xs us Q I r h;obtain ⟨a,t,rfl,ha,q⟩:=h;obtain ⟨u,rfl,ru⟩:=J7 r
 cases ru
 obtain ⟨z,hd,ps,kt,o,es,ep,h1,h2,h3,h4,_,_⟩:=PN I.hok ha
 have l:es.size=t.length:=by
  have e1:es.toList.length=ps.length:=by rw [h4,AC]
  have e2:t.length=ps.length:=IF kt;rw [e2, <-e1];simp
 refine pT hd h1 h2.1 h3 (by rw [l];rw [MO] at z;omega) ?_;rw [l];exact ⟨.int t.length,H,I.tok _,⟨_,rfl⟩,q⟩
def uI(i:Nat)(ts:TS):TS:=fun D σ H=>∃a t,σ[i]? = some (some (.ref a))/\H a=some (.dT t)/\∀o,ts D σ (upd H a (.frz o (.dT t)))
theorem sE{st:Stmt}{ts:TS}(i:Nat)(h:PS X st ts):PS X st (uI i ts):=by
 intro pins s σ H D I q;obtain ⟨a,t,e1,e2,q⟩:=q;obtain ⟨z,y,xs,r,o,es,ep,h1,h2,h3,h4,h5⟩:=(show ObjOk X.prog X.w H s.heap a (.dT t) from I.hok a _ e2);have kt:∀ {l:List (List Key×V)} {m:List (List Key×Addr×Value)},Paired (fun (p:List Key×V) (q:List Key×Addr×Value)=>p.1=q.1/\H q.2.1=some (.tup (p.1.map kV))/\RelV p.2 q.2.2) l m->Paired (fun (p:List Key×V) (q:List Key×Addr×Value)=>p.1=q.1/\(upd H a (.frz o (.dT t))) q.2.1=some (.tup (p.1.map kV))/\RelV p.2 q.2.2) l m:=fun x=>Paired.mapP x fun _ _ k=>⟨k.1,by rw [BE (tZ k.2.1 e2 (by intro z;cases z))];exact k.2.1,k.2.2⟩;have I2:Inv X pins σ (upd H a (.frz o (.dT t))) s:=VU (h':=s.heap) (t':=s.toks) I (by rw [e2];exact CM) ⟨rfl,fun _ _=>rfl⟩ ⟨o,h1⟩ ⟨h1,z,y,xs,kt r,o,es,ep,h1,h2,h3,h4,h5⟩;exact h pins s σ _ D I2 (q o)
end Tf
namespace Tf
open PySem PySem.Spec PyProof.Rows L2
section
variable {prog:Program} {w:World} {A:Around} {E:Value->Shared->Prop} {s:Shared} {d it v:Addr} {od:Obj} {es:Array DictEntry} {i ep:Nat}
theorem dF {Q : Value -> Shared -> Prop} (hv : s.heap.IsValuesView v d) (hod : s.heap.get? d = some od) (hdd : od.data = .dict es ep)
 (q:Q (.ref s.heap.objs.size) {s with heap:=s.heap.push {cls:= .type "dict_valueiterator",data:= .fields #[.ref d, .int 0 0, .int es.size 0, .int ep 0]} }):wpAny (model prog w) A (pyIter (.ref v)) Q E s:=by
 obtain ⟨ov,hov,hcv,hdv⟩:=id hv;refine wpAny_pyIter_slot hv.typeIs F.slot_dict_values_iter (wpAny_call_entry F.slot_dict_values_iter hv.typeIs F.entry_dict_values_iter ?_ (F.args_dict_values_iter_1 _));unfold Builtin.«dict_values.__iter__»;refine wpAny_bind (wpAny_pure ?_);refine wpAny_bind ?_;unfold Builtin.Dict_items.dictOf;refine wpAny_bind (wpAny_field hov hdv (x:= .ref d) rfl (wpAny_pure ?_));refine wpAny_bind ?_;unfold Builtin.Dict_items.newIterator;refine wpAny_bind (wpAny_dictEntries hod hdd ?_);refine wpAny_bind (wpAny_dictEpoch hod hdd ?_);have hown:Builtin.Dict_items.ownsTuple "dict_valueiterator" = false:=by decide
 simp only [hown,CW,FC];refine CZ (A6 ⟨_,rfl, "dict_valueiterator",_,⟨_,AI _ rfl,rfl⟩,FE.lookup,?_⟩);simpa [rawInt] using q
theorem oJ {u : Value} {Q : Option Value -> Shared -> Prop} (hit : s.heap.IsValIter it d i es.size ep) (hod : s.heap.get? d = some od) (hdd : od.data = .dict es ep) (hlt : i < es.size) (hval : es[i].val = u)
 (q:∀h',h'.IsValIter it d (i+1) es.size ep->Heap.SameBut it s.heap h'->Q (some u) {s with heap:=h' }):wpAny (model prog w) A (pyNext (.ref it)) Q E s:=by
 obtain ⟨o,ho,hc,hd⟩:=id hit;unfold pyNext
 refine A0 (JQ (CN (name:=Str.ofString "__next__") hit.typeIs FE
  (EI FE hit.typeIs nR ?_ (iF _))))
 refine A0 (A6 ?_);refine A0 ?_;refine A0 ?_
 first | refine A0 (HJ hit.typeIs (A6 ?_)) | refine A0 (JR hit.typeIs (A6 ?_))
 refine A0 (WW ho hd ?_);have hown:Builtin.Dict_items.ownsTuple "dict_valueiterator" = false:=by decide
 simp only [hown,CW,FC];show wpAny _ _ (if (Value.ref d==Value.none)=true then _ else _) _ _ s;rw [AA (show ¬((Value.ref d==Value.none)=true) from CG)];refine A0 (A6 ?_);refine A0 (QF hod hdd ?_);rw [AA (by simp)];refine A0 (A6 ?_);refine A0 (U8 hod hdd ?_);rw [AA (by simp)];refine A6 ?_;simp only [show ¬((i:Int)<0) from by omega,FC,DU,IK hlt];refine A0 ?_
 first | refine A0 (HJ hit.typeIs (A6 ?_)) | refine A0 (JR hit.typeIs (A6 ?_))
 refine A0 (VM hit.typeIs ?_);show wpAny _ _ (setField (.ref it) 1 (rawInt ((i:Int)+1)) >>= _) _ _ s;refine A0 (L4 ho hd (by simp) ?_)
 have hit':(s.heap.update it (Obj.mapFields (·.setIfInBounds 1 (rawInt ((i:Int)+1))))).IsValIter it d (i+1) es.size ep:=
  ⟨_,VJ _ ho (VL (HQ hd _)),(iE ..).trans hc,by rw [HQ hd];simp [rawInt]⟩
 refine A0 (CP ?_);refine A0 (VM (s:={s with heap:=s.heap.update it (Obj.mapFields (·.setIfInBounds 1 (rawInt ((i:Int)+1))))}) hit'.typeIs ?_);refine A0 (VM (s:={s with heap:=s.heap.update it (Obj.mapFields (·.setIfInBounds 1 (rawInt ((i:Int)+1))))}) hit'.typeIs ?_);show wpAny _ _ (pure es[i].val) _ _ _;exact A6 (A6 ⟨_,rfl,A6 (hval ▸ q _ hit' (GT ..))⟩)
theorem yO {Q : Option Value -> Shared -> Prop} (hh : A.handled = none) (hit : s.heap.IsValIter it d i es.size ep) (hod : s.heap.get? d = some od) (hdd : od.data = .dict es ep) (hge : es.size <= i)
 (q:∀h',Heap.ExtBut it s.heap h'->Q none {s with heap:=h' }):wpAny (model prog w) A (pyNext (.ref it)) Q E s:=by
 obtain ⟨o,ho,hc,hd⟩:=id hit;unfold pyNext
 refine A0 (JQ (CN (name:=Str.ofString "__next__") hit.typeIs FE
  (EI FE hit.typeIs nR ?_ (iF _))))
 refine A0 (A6 ?_);refine A0 ?_;refine A0 ?_
 first | refine A0 (HJ hit.typeIs (A6 ?_)) | refine A0 (JR hit.typeIs (A6 ?_))
 refine A0 (WW ho hd ?_);have hown:Builtin.Dict_items.ownsTuple "dict_valueiterator" = false:=by decide
 simp only [hown,CW,FC];show wpAny _ _ (if (Value.ref d==Value.none)=true then _ else _) _ _ s;rw [AA (show ¬((Value.ref d==Value.none)=true) from CG)];refine A0 (A6 ?_);refine A0 (QF hod hdd ?_);rw [AA (by simp)];refine A0 (A6 ?_);refine A0 (U8 hod hdd ?_);rw [AA (by simp)];refine A6 ?_;simp only [show ¬((i:Int)<0) from by omega,FC,DU,v8 hge];refine A0 ?_
 first | refine A0 (HJ hit.typeIs (A6 ?_)) | refine A0 (JR hit.typeIs (A6 ?_))
 show wpAny _ _ (setField (.ref it) 0 .none >>= _) _ _ s;refine A0 (L4 ho hd (by simp) ?_);show wpAny _ _ (newExc (.type "StopIteration") [] >>= _) _ _ _;refine A0 ?_;simp only [newExc,newTuple];refine A0 (CZ ?_ (by size_fits));refine A0 (m:=firstArgMember _ _) (MQ (a:=Value.none) (by first | rfl | (simp only [firstArgMember];rfl)) ?_);refine CZ ?_ (by size_fits);simp only [raiseNew];refine A0 (A78 ?_);rw [show A.in1.handled=none from hh];refine A0 (A6 (AC2 ?_));refine A0 (R9 (T:= "StopIteration") (b:=true) ⟨_,AI _ rfl,rfl⟩ zW ?_);exact A6 (q _ (((GT ..).extBut.push _).push _))
end
theorem uG{P:Program}{w:World}{H:Hp}{es:Array DictEntry}{t:List (List Key×V)}{ps:List (List Key×Addr×Value)}(kt:KT H t ps)(h4:es.toList=ps.map (entryOfKey (tupleKind (EU P w)))):es.size=t.length/\∀(i:Nat) p,t[i]? = some p->∃hi:i<es.size,RelV p.2 es[i].val:=by
 have l:es.size=t.length:=by
  have e1:es.toList.length=ps.length:=by rw [h4,AC]
  have e2:t.length=ps.length:=IF kt;rw [e2, <-e1];simp
 refine ⟨l,fun i p hp=> ?_⟩;have hi:i<t.length:=(AS.mp hp).1;have hi':i<es.size:=by omega
 refine ⟨hi',?_⟩
 have gen:∀ {t:List (List Key×V)} {ps:List (List Key×Addr×Value)} (i:Nat) p,KT H t ps->t[i]? = some p->∃q,ps[i]? = some q/\RelV p.2 q.2.2:=by
  intro t ps i p kt
  induction kt generalizing i with
  | nil=>intro h;simp at h
  | cons h _ ih=>
   intro e
   cases i with
   | zero=>simp at e;subst e;exact ⟨_,rfl,h.2.2⟩
   | succ i=>simpa using ih i (by simpa using e)
 obtain ⟨q,h1,h2⟩:=gen i p kt hp;have e3:es.toList[i]? = some (entryOfKey (tupleKind (EU P w)) q):=by rw [h4,AX,h1];rfl
 have e4:es[i]=entryOfKey (tupleKind (EU P w)) q:=by
  have:es[i]? = some (entryOfKey (tupleKind (EU P w)) q):=by rw [<-AJ];exact e3
  rw [IK hi'] at this
  exact BG this
 rw [e4];exact h2
end Tf
namespace Tf
open PySem PySem.Spec PyProof.Rows L2
variable {X:Cx}
def uO(i:Nat)(ts:TS):TS:=fun D σ H=>uI i ts D σ H\/ts D σ H
theorem rQ{st:Stmt}{ts:TS}(i:Nat)(h:PS X st ts):PS X st (uO i ts):=by
 intro pins s σ H D I q;rcases q with q | q
 . exact sE i h pins s σ H D I q
 . exact h pins s σ H D I q
theorem XN {prog : Program} {w : World} {d : Addr} (hd : (d == sysModules) = false) : MeetsIn prog w (Builtin.«dict.values» ⟨[.ref d], []⟩) (fun _ R s => ∃ od, s.heap.get? d = some od /\ od.cls = .type "dict" /\ R (.ok (.ret (.ref s.heap.objs.size))) { s with heap := s.heap.push { cls := .type "dict_values", data := .fields #[.ref d] } }) :=
 .of_wp fun A R s ⟨od,hod,hc,h⟩=>by
  refine wpAny_bind ?_;unfold Builtin.Dict.noArgs;refine wpAny_bind (wpAny_notOrdered_dict (s:=s) ⟨od,hod,hc⟩ ?_);show wpAny _ _ (pure d) _ _ s;refine wpAny_pure ?_;show wpAny _ _ (Builtin.Dict.showsAll d >>= _) _ _ s;unfold Builtin.Dict.showsAll;rw [if_neg (by rw [hd];exact Bool.false_ne_true)];refine wpAny_bind (wpAny_pure ?_);exact wpAny_bind (wpAny_newObj_type (wpAny_pure ⟨_,rfl,h⟩))
end Tf
namespace Dm
open PySem PySem.Spec PyProof.Rows L2 Tf
section
variable {K:PySem.W.Frag}
theorem ER.frzF {S0 HB H0 H : Hp} {σ : L2.St} {ρ : En} {i : Nat} {a : Addr} {t : List (List Key × V)} {kvs : List (PyData × PyData)} (o : Obj) (e : ER K HB H0 H σ ρ) (hl : lV i ρ) (hi : ρ[i]? = some (some (.dct kvs))) (hs : σ[i]? = some (some (.ref a))) (g1 : HB a = none) (g2 : H0 a = none) (g3 : H a = some (.dT t)) (g4 : DctR K H0 t kvs) (x : Ext S0 HB H0 H) :
 Ext S0 HB (upd H0 a (.frz o (.dT t))) (upd H a (.frz o (.dT t)))/\ER K HB (upd H0 a (.frz o (.dT t))) (upd H a (.frz o (.dT t))) σ (ρ.set i (some (.val (.dict (mkD::kvs))))):=by
 have s0:Same H0 (upd H0 a (.frz o (.dT t))):=Same.upd g2 _
 have x':Ext S0 HB (upd H0 a (.frz o (.dT t))) (upd H a (.frz o (.dT t))) :=
  ⟨fun b u q=>by rw [BE (BI q g1)];exact x.s b u q,x.s0.trans s0,UE x.s1,fun b u q m q0=>by rw [BE (BI q g1)];exact x.own b u q m q0⟩
 have own:∀(j:Nat),∀ts,(ρ.set i (some (.val (.dict (mkD::kvs)))))[j]? = some (some (.own ts))->ρ[j]? = some (some (.own ts)):=by
  intro j ts h
  by_cases hj:i=j
  . subst hj;rw [CK,hi] at h
    cases h
  . rw [B4 hj] at h;exact h
 refine ⟨x',⟨by rw [GV];exact e.len,fun j s hq=> ?_,fun j k b ts us hjk h1 h2 h3 h4=>e.apart j k b ts us hjk (own j ts h1) (own k us h2) h3 h4⟩⟩
 by_cases hij:i=j
 . subst hij;rw [CK,hi] at hq
   cases hq
   refine ⟨.ref a,hs,?_⟩;obtain ⟨ks,xs,ds,rfl,e2,e3,rfl⟩:=g4;exact .dictF BZ e2 (Reps.same s0 e3)
 . rw [B4 hij] at hq
   obtain ⟨v,h1,h2⟩:=e.get j s hq;refine ⟨v,h1,?_⟩
   cases s with
   | val d=>exact Rep.same s0 h2
   | own ts=>
    obtain ⟨b,ws,rfl,q1,q2,q3,q4⟩:=h2
    have ne:b≠a:=by
     rintro rfl;rw [g3] at q3
     cases q3
    exact ⟨b,ws,rfl,q1,by rw [BE ne];exact q2,by rw [BE ne];exact q3,Reps.same s0 q4⟩
   | dct ts=>exact absurd hq (hl j ts fun z=>hij z.symm)
def j6(i:Nat)(ρ:En):Option En:=match (ρ[i]?).join with
 | some (.dct kvs)=>if XG i ρ=true then some (ρ.set i (some (.val (.dict (mkD::kvs))))) else none
 | _=>some ρ
def b7(i:Nat)(g:En->Option Out):En->Option Out:=fun ρ=>(j6 i ρ).bind g
theorem rC{ts:TS}{g:En->Option Out}(i:Nat)(h:RS K (PR K) ts g):RS K (PR K) (uO i ts) (b7 i g):=fun HB S0 σ ρ H0 H x e o ho D d=>by
 obtain ⟨ρ1,h1,ho⟩:=Option.bind_eq_some_iff.mp ho;unfold j6 at h1
 split at h1
 . rename_i kvs hj
   split at h1
   . rename_i hl
     cases h1
     obtain ⟨v,hs,a,t,rfl,g1,g2,g3,g4⟩:=e.r.get i _ (join_some hj);refine .inl ⟨a,t,hs,g3,fun ob=> ?_⟩;obtain ⟨x',e'⟩:=ER.frzF ob e.r (dL hl) (join_some hj) hs g1 g2 g3 g4 x;exact h HB S0 σ _ _ _ x' ⟨e'⟩ o ho D d
   . cases h1
 . cases h1
   exact .inr (h HB S0 σ ρ H0 H x e o ho D d)
variable {R:Rl} [RelOk K R]
def AA5:PyData->Option (List PyData)
 | .dict ((.none, .none)::kvs)=>some (kvs.map (·.2))
 | _=>none
def dLenD:List Sl->Option Sl
 | [s]=>(dictOf s).map fun kvs=> .val (.int kvs.length)
 | _=>none
theorem dO:MD K (fun xs H Q=>∃a t,xs = [V.ref a]/\Rd H a (.dT t)/\Q (.int t.length) H) dLenD:=fun H0 H vs ss z s p hz Q q=>by
 unfold dLenD at hz
 split at hz
 . obtain ⟨v,rfl,pa⟩:=IE p;obtain ⟨kvs,hk,rfl⟩:=AG.mp hz;obtain ⟨a,t,rfl,g1,g2⟩:=O8 s pa hk;refine ⟨a,t,rfl,g1,?_⟩;rw [g2.length];exact q _ _ _ (Ext.refl s) (.int _)
 . cases hz
end
section
variable {X:Cx} {R:Rl} [RelOk X.K R] {a b c e tg:Expr} {pos p apos:Pos} {fa fb fc f:En->Option Sl} {st:Stmt} {gs:En->Option Out}
theorem pV:DE X R (.Dict [] [] pos) mDNew:=⟨_,m9,qA⟩
theorem dM(hu:X.A.units+1<cLine)(ha:DP X R a fa)(hb:DP X R b fb)(hs:zE b:=by intro _ _;rfl):DE X R (.Subscript a b pos) (mBin NT fa fb):=by
 obtain ⟨ta,h1,h2⟩:=ha;obtain ⟨tb,h3,h4⟩:=hb;exact ⟨_,sT hu h1 h3 hs,pA h2 h4⟩
theorem kF (hu:X.A.units+1<cLine) (ha:DP X R a fa) (hb:DP X R b fb) (hc:DE X R c fc) (m:M2 X a "get" apos b c pos:=by exact ⟨rfl,rfl,rfl,rfl⟩):DE X R (.Call (.Attribute a "get" apos) [b,c] [] pos) (VX fa fb fc):=by
 obtain ⟨ta,h1,h2⟩:=ha;obtain ⟨tb,h3,h4⟩:=hb;obtain ⟨tc,h5,h6⟩:=hc;exact ⟨_,mS hu h1 h3 h5 m,iS h2 h4 h6⟩
theorem sS(i:Nat)(h:DS X (PR X.K) st gs):DS X (PR X.K) st (b7 i gs):=by
 obtain ⟨t,h1,h2⟩:=h;exact ⟨_,rQ i h1,rC i h2⟩
theorem qE (hu : X.A.units + 1 < cLine) (i : Nat) {x : Str} {px ps : Pos} (hk : DP X (PR X.K) b fb) (h : DE X (PR X.K) e f) (hN : X.N[i]? = some x := by rfl) (hv : Vis X.env.scope x := by first | exact KR rfl | exact GN (KR rfl) | exact GN (GN rfl)) (hd : (x == ("__debug__" : Str)) = false := by decide) (hcd : (x == ("__classdict__" : Str)) = false := by decide)
 (hs:swapsWith e (some (.Subscript (.Name x px) b ps)) pos.line X.env=pure false:=by rfl):DS X (PR X.K) (.Assign [.Subscript (.Name x px) b ps] e pos) (cP i fb f):=by
 obtain ⟨t,h1,h2⟩:=h;obtain ⟨u,h3,h4⟩:=hk;exact ⟨_,pR hu (Q3 hN hv hd hcd) h3 h1 hs,qF h2 h4⟩
end
end Dm
namespace Tf
open PySem PySem.Spec PyProof.Rows L2
theorem LV:∀ {us:List Value} {ns:List Int},Vals (ns.map V.int) us->IntsAre us ns
 | _,[],r=>by cases r;exact .nil
 | _,n::ns,r=>by
  cases r with
  | cons r1 r2=>
   obtain ⟨t,q⟩:=(show ∃t,_=Value.int n t from r1);subst q;exact .cons n t (LV r2)
variable {X:Cx}
theorem YU:KN X (.builtin "sorted") (fun xs H Q=>∃a ns,xs = [V.ref a]/\SqL X.K H a (ns.map V.int)/\ns.length<64/\∀p,H p=none->∀ns':List Int,ns'.Perm ns->ns'.Pairwise (· <= ·)->Q (.ref p) (upd H p (.lst (ns'.map V.int)))):=by
 intro pins s σ H xs us Q I r h;obtain ⟨a,ns,rfl,hq,hl,q⟩:=h;obtain ⟨u,rfl,ru⟩:=J7 r
 cases ru
 obtain ⟨its,rv,p1,hz⟩:=I.list hq;have l:=rv.length;rw [AC] at l
 refine sorted_ints p1.isList (LV rv) (by omega) fun out ns' a1 a2 a3=> ?_;obtain ⟨e,he⟩:=sortedAll_at s.heap its out;refine ⟨.ref (s.heap.objs.size+1),_,I.laid (a:=s.heap.objs.size+1) (o:= .lst (ns'.map V.int)) (t':=s.toks) (fun b o z=>sortedAll_old z) (ET _) ⟨?_,out.toList,e,QA a1,?_⟩,rfl,q _ (I.hok.fresh (ET _)) ns' a2 a3⟩
 . rw [AC,a2.length_eq];exact JO (uZ hl (by decide))
 . rw [he]
end Tf
namespace Dm
open PySem PySem.Spec PyProof.Rows L2 Tf
def srt(ns:List Int):List Int:=ns.mergeSort fun a b=>decide (a<=b)
theorem YC(ns:List Int):(srt ns).Perm ns:=A70 _ _
theorem YV(ns:List Int):(srt ns).Pairwise (· <= ·):=by
 have:=t5 (le:=fun a b:Int=>decide (a<=b)) (fun a b c h1 h2=>by simp at *;omega) (fun a b=>by simp;omega) ns;exact this.imp fun h=>by simpa using h
theorem vX{ns ns':List Int}(h:ns'.Perm ns)(p:ns'.Pairwise (· <= ·)):ns'=srt ns:=
 nY (fun a b _ _ h1 h2=>by omega) p (YV ns) (h.trans (YC ns).symm)
def dSorted:List Sl->Option Sl
 | [s]=>match s.dat with
  | .list ds=>(G0 ds).bind fun ns=>if ns.length<64 then some (.own ((srt ns).map .int)) else none
  | _=>none
 | _=>none
section
variable {K:PySem.W.Frag}
theorem PD{H:Hp}:∀ns:List Int,Reps K H (ns.map V.int) (ns.map PyData.int)
 | []=> .nil
 | n::ns=> .cons (.int n) (PD ns)
theorem fM:MD K (fun xs H Q=>∃a ns,xs = [V.ref a]/\SqL K H a (ns.map V.int)/\ns.length<64/\∀p,H p=none->∀ns':List Int,ns'.Perm ns->ns'.Pairwise (· <= ·)->Q (.ref p) (upd H p (.lst (ns'.map V.int)))) dSorted:=fun H0 H vs ss z s p hz Q q=>by
 unfold dSorted at hz
 split at hz
 . obtain ⟨v,rfl,pa⟩:=IE p
   split at hz
   . rename_i ds hd;obtain ⟨ns,hn,hz⟩:=A3.mp hz
     split at hz
     . rename_i hl
       cases hz
       obtain ⟨a,vs,rfl,h1,h2⟩:=pa.lst s hd;rw [L7 hn] at h2
       cases NA h2
       refine ⟨a,ns,rfl,h1,hl,fun b hb ns' p1 p2=> ?_⟩;rw [vX p1 p2];exact q _ _ _ (Ext.alloc s hb _) ⟨b,_,rfl,hb,s.free hb,BZ,PD _⟩
     . cases hz
   . cases hz
 . cases hz
end
end Dm
namespace Tf
open PySem PySem.Spec PyProof.Rows L2
section
variable {prog:Program} {w:World} {A:Around} {E:Value->Shared->Prop} {s:Shared} {d it:Addr} {od:Obj} {es:Array DictEntry} {i ep:Nat}
theorem cX {Q : Value -> Shared -> Prop} (hd : (d == sysModules) = false) (hod : s.heap.get? d = some od) (hc : od.cls = .type "dict") (hdd : od.data = .dict es ep)
 (q:Q (.ref s.heap.objs.size) {s with heap:=s.heap.push {cls:= .type "dict_keyiterator",data:= .fields #[.ref d, .int 0 0, .int es.size 0, .int ep 0]} }):wpAny (model prog w) A (pyIter (.ref d)) Q E s:=by
 have ty:s.TypeIs (.ref d) "dict" :=⟨od,hod,hc⟩;refine wpAny_pyIter_slot ty F.slot_dict_iter (wpAny_call_entry F.slot_dict_iter ty F.entry_dict_iter ?_ (F.args_dict_iter_1 _));unfold Builtin.«dict.__iter__»;refine wpAny_bind ?_;unfold Builtin.Dict.dictSlotNone;refine wpAny_bind (wpAny_notOrdered_dict ty ?_);show wpAny _ _ (pure (Value.ref d)) _ _ s;refine wpAny_pure ?_;show wpAny _ _ (Builtin.Dict.showsAll d >>= _) _ _ s;unfold Builtin.Dict.showsAll;rw [if_neg (by rw [hd];exact Bool.false_ne_true)];refine wpAny_bind (wpAny_pure ?_);refine wpAny_bind (wpAny_dictEntries hod hdd ?_);refine wpAny_bind (wpAny_dictEpoch hod hdd ?_);refine wpAny_bind (wpAny_newObj_type (wpAny_pure ⟨_,rfl, "dict_keyiterator",_,⟨_,Heap.get?_push_size _ rfl,rfl⟩,F.slot_dict_keyiterator_next.lookup,?_⟩));simpa [rawInt] using q
theorem oV {u : Value} {Q : Option Value -> Shared -> Prop} (hit : s.heap.IsKeyIter it d i es.size ep) (hod : s.heap.get? d = some od) (hdd : od.data = .dict es ep) (hlt : i < es.size) (hkey : es[i].key = u)
 (q:∀h',h'.IsKeyIter it d (i+1) es.size ep->Heap.SameBut it s.heap h'->Q (some u) {s with heap:=h' }):wpAny (model prog w) A (pyNext (.ref it)) Q E s:=by
 obtain ⟨o,ho,hc,hd⟩:=id hit;unfold pyNext
 refine A0 (JQ (CN (name:=Str.ofString "__next__") hit.typeIs HS
  (EI HS hit.typeIs t6 ?_ (nZ _))))
 refine A0 (A6 ?_);refine A0 ?_;refine A0 ?_
 first | refine A0 (HK hit.typeIs (A6 ?_)) | refine A0 (JS hit.typeIs (A6 ?_))
 refine A0 (WW ho hd ?_);have hown:Builtin.Dict_items.ownsTuple "dict_keyiterator" = false:=by decide
 simp only [hown,CW,FC];show wpAny _ _ (if (Value.ref d==Value.none)=true then _ else _) _ _ s;rw [AA (show ¬((Value.ref d==Value.none)=true) from CG)];refine A0 (A6 ?_);refine A0 (QF hod hdd ?_);rw [AA (by simp)];refine A0 (A6 ?_);refine A0 (U8 hod hdd ?_);rw [AA (by simp)];refine A6 ?_;simp only [show ¬((i:Int)<0) from by omega,FC,DU,IK hlt];refine A0 ?_
 first | refine A0 (HK hit.typeIs (A6 ?_)) | refine A0 (JS hit.typeIs (A6 ?_))
 refine A0 (AB5 hit.typeIs ?_);show wpAny _ _ (setField (.ref it) 1 (rawInt ((i:Int)+1)) >>= _) _ _ s;refine A0 (L4 ho hd (by simp) ?_)
 have hit':(s.heap.update it (Obj.mapFields (·.setIfInBounds 1 (rawInt ((i:Int)+1))))).IsKeyIter it d (i+1) es.size ep:=
  ⟨_,VJ _ ho (VL (HQ hd _)),(iE ..).trans hc,by rw [HQ hd];simp [rawInt]⟩
 refine A0 (CP ?_);refine A0 (AB5 (s:={s with heap:=s.heap.update it (Obj.mapFields (·.setIfInBounds 1 (rawInt ((i:Int)+1))))}) hit'.typeIs ?_);show wpAny _ _ (pure es[i].key) _ _ _;exact A6 (A6 ⟨_,rfl,A6 (hkey ▸ q _ hit' (GT ..))⟩)
theorem vP {Q : Option Value -> Shared -> Prop} (hh : A.handled = none) (hit : s.heap.IsKeyIter it d i es.size ep) (hod : s.heap.get? d = some od) (hdd : od.data = .dict es ep) (hge : es.size <= i)
 (q:∀h',Heap.ExtBut it s.heap h'->Q none {s with heap:=h' }):wpAny (model prog w) A (pyNext (.ref it)) Q E s:=by
 obtain ⟨o,ho,hc,hd⟩:=id hit;unfold pyNext
 refine A0 (JQ (CN (name:=Str.ofString "__next__") hit.typeIs HS
  (EI HS hit.typeIs t6 ?_ (nZ _))))
 refine A0 (A6 ?_);refine A0 ?_;refine A0 ?_
 first | refine A0 (HK hit.typeIs (A6 ?_)) | refine A0 (JS hit.typeIs (A6 ?_))
 refine A0 (WW ho hd ?_);have hown:Builtin.Dict_items.ownsTuple "dict_keyiterator" = false:=by decide
 simp only [hown,CW,FC];show wpAny _ _ (if (Value.ref d==Value.none)=true then _ else _) _ _ s;rw [AA (show ¬((Value.ref d==Value.none)=true) from CG)];refine A0 (A6 ?_);refine A0 (QF hod hdd ?_);rw [AA (by simp)];refine A0 (A6 ?_);refine A0 (U8 hod hdd ?_);rw [AA (by simp)];refine A6 ?_;simp only [show ¬((i:Int)<0) from by omega,FC,DU,v8 hge];refine A0 ?_
 first | refine A0 (HK hit.typeIs (A6 ?_)) | refine A0 (JS hit.typeIs (A6 ?_))
 show wpAny _ _ (setField (.ref it) 0 .none >>= _) _ _ s;refine A0 (L4 ho hd (by simp) ?_);show wpAny _ _ (newExc (.type "StopIteration") [] >>= _) _ _ _;refine A0 ?_;simp only [newExc,newTuple];refine A0 (CZ ?_ (by size_fits));refine A0 (m:=firstArgMember _ _) (MQ (a:=Value.none) (by first | rfl | (simp only [firstArgMember];rfl)) ?_);refine CZ ?_ (by size_fits);simp only [raiseNew];refine A0 (A78 ?_);rw [show A.in1.handled=none from hh];refine A0 (A6 (AC2 ?_));refine A0 (R9 (T:= "StopIteration") (b:=true) ⟨_,AI _ rfl,rfl⟩ zW ?_);exact A6 (q _ (((GT ..).extBut.push _).push _))
theorem QY (hh : A.handled = none) (I d : Addr) (hne : d ≠ I) (od : Obj) (es : Array DictEntry) (ep : Nat) (hdd : od.data = .dict es ep) :
 Walks prog w A I [I,d] [I] es.size (fun i v=>∃hi:i<es.size,es[i].key=v) (fun i h=>h.IsKeyIter I d i es.size ep/\h.get? d=some od) where
 sub:=fun b hb=>by simp at hb;simp [hb]
 frame:=fun _ _ _ st hk=>⟨st.1.at fun o e=>hk I (by simp) o e,hk d (by simp) _ st.2⟩
 item:=fun i s Q E hi st hQ=>by
  refine oV st.1 st.2 hdd hi rfl fun h' hit' hs' => ?_;exact hQ es[i].key h' s.toks ⟨hi,rfl⟩ ⟨hit',hs'.extBut d _ hne st.2⟩ fun b o hb e=>hs'.extBut b o (fun h=>hb (by simp [h])) e
 done:=fun s Q E st hQ=>vP hh st.1 st.2 hdd (AF _) fun h' he'=>hQ h' s.toks fun b o hb e=>he' b o (fun h=>hb (by simp [h])) e
 self:=fun _ _ _ _ st hQ=>wpAny_pyIter_keyiter st.1 hQ
end
section
variable {X:Cx}
def iW(H:Hp)(t:List (List Key×V))(bs:List Addr):Prop:=bs.length=t.length/\∀(i:Nat) b p,bs[i]? = some b->t[i]? = some p->H b=some (.tup (p.1.map kV))
theorem cF{H:Hp}:∀ {t:List (List Key×V)} {ps:List (List Key×Addr×Value)},KT H t ps->iW H t (ps.map fun q=>q.2.1):=by
 intro t ps kt
 induction kt with
 | nil=>exact ⟨rfl,fun i b p h=>by simp at h⟩
 | cons h _ ih=>
  refine ⟨by rw [B0,B7,B7,ih.1],fun i b p h1 h2=> ?_⟩
  cases i with
  | zero=>
   simp at h1 h2
   subst h1 h2
   exact h.2.1
  | succ i=>exact ih.2 i b p (by simpa using h1) (by simpa using h2)
end
end Tf
namespace Dm
open PySem PySem.Spec PyProof.Rows L2 Tf
section
variable {K:PySem.W.Frag}
def VY(H0 H:Hp)(bs:List Addr):Hp:=fun b=>if b ∈ bs then H b else H0 b
theorem n5{H0 H:Hp}{bs:List Addr}(s:Same H0 H)(h:∀b ∈ bs,∃vs,H b=some (.tup vs)):Ext H0 H (VY H0 H bs) H:=by
 refine ⟨Same.refl _,fun b u e=> ?_,fun b u e=> ?_,fun b o hb m h0=> ?_⟩
 . unfold VY
   split
   . exact s b u e
   . exact e
 . unfold VY at e
   split at e
   . exact e
   . exact s b u e
 . unfold VY
   split
   . rename_i hm;obtain ⟨vs,hv⟩:=h b hm;rw [hb] at hv
     cases hv
     exact m.elim
   . exact h0
theorem TJ{H:Hp}:∀k:List Key,Reps K H (k.map kV) (k.map keyD)
 | []=> .nil
 | .inl i::k=> .cons (.int i) (TJ k)
 | .inr x::k=> .cons (.str x) (TJ k)
end
end Dm
namespace Dm
open PySem PySem.Spec PyProof.Rows L2 Tf
section
variable {X:Cx} {a:Expr} {ta:TE} {p1 p2 pos pos2:Pos}
def SW(n:Nat):List V:=(List.range n).map fun k:Nat=>V.int (k:Int)
def tLR(ta:TE):TE:=fun σ H Q=>ta σ H fun x H1=>∃n:Nat,x = .int (n:Int)/\n<=1000/\∀p,H1 p=none->Q (.ref p) (upd H1 p (.lst (SW n)))
theorem cY:∀ {xs:List V} {us:List Value},xs.length=us.length->(∀(j:Nat) x u,xs[j]? = some x->us[j]? = some u->RelV x u)->Vals xs us
 | [],[],_,_=> .nil
 | x::xs,u::us,hl,h=> .cons (h 0 x u rfl rfl) (cY (by simpa using hl) fun j y v h1 h2=>h (j+1) y v (by simpa using h1) (by simpa using h2))
theorem WA (hml : X.mg "list" = none) (hmr : X.mg "range" = none) (ha : PE X a ta) (hgl : Gl X "list" := by rfl) (hgr : Gl X "range" := by rfl) (hc : X.calm = true := by rfl)
 (hs1:starEach [.Call (.Name "range" p2) [a] [] pos2] X.env=(false,eval (.Call (.Name "range" p2) [a] [] pos2) X.env)::starEach [] X.env:=by rfl) (hs0:(backTo pos (starEach [] X.env)).any (·.1)=false:=by rfl) (hs2:backTo pos (starEach [] X.env) = []:=by rfl)
 (hsa:starEach [a] X.env=(false,eval a X.env)::starEach [] X.env:=by rfl) (hs3:(backTo pos2 (starEach [] X.env)).any (·.1)=false:=by rfl):PE X (.Call (.Name "list" p1) [.Call (.Name "range" p2) [a] [] pos2] [] pos) (tLR ta):=by
 intro pins s σ H Q I h;refine Call_ (GS I hgl hml cG (CA ?_ hs1 hs0));rw [hs1];show wpAny _ _ (spliced ((false,eval (.Call (.Name "range" p2) [a] [] pos2) X.env)::backTo pos (starEach [] X.env))) _ _ s;rw [hs2];refine G5 ?_;refine Call_ (GS I hgr hmr n0 (CA (thn (IY ha M8 hsa pos2 pins s σ H (fun vs H1=>∃n:Nat,vs = [.int (n:Int)]/\n<=1000/\∀p,H1 p=none->Q (.ref p) (upd H1 p (.lst (SW n)))) I ?_) fun us s1 ⟨vs,H1,I1,r1,q1⟩ => ?_) hsa hs3))
 . have h:ta σ H fun x H1=>∃n:Nat,x = .int (n:Int)/\n<=1000/\∀p,H1 p=none->Q (.ref p) (upd H1 p (.lst (SW n))):=h;refine (show ta σ H (fun x H1=>∃n:Nat,[x] = [V.int (n:Int)]/\n<=1000/\∀p,H1 p=none->Q (.ref p) (upd H1 p (.lst (SW n)))) from ?_)
   have e:(fun (x:V) (H1:Hp)=>∃n:Nat,[x] = [V.int (n:Int)]/\n<=1000/\∀p,H1 p=none->Q (.ref p) (upd H1 p (.lst (SW n))))=fun x H1=>∃n:Nat,x = .int (n:Int)/\n<=1000/\∀p,H1 p=none->Q (.ref p) (upd H1 p (.lst (SW n))):=by
    funext x H1;simp only [List.cons.injEq,and_true]
   rw [e];exact h
 obtain ⟨n,e,hn,q⟩:=q1;subst e
 cases r1 with
 | cons r rr=>
  cases rr
  obtain ⟨t,rfl⟩:=r;refine call_range_1 ?_;refine IJ ?_
  let s2:Shared:={s1 with heap:=s1.heap.push {cls:= .type "range",data:= .fields #[.int 0 s1.toks, .int (n:Int) t, .int 1 (s1.toks+1)]},toks:=s1.toks+1+1}
  have I2:Inv X pins σ H1 s2:=I1.kept fun b o e=>Heap.get?_push_of_some _ e;refine call_list_range (s:=s2) (n:=n) (I1.ok.hd hc) (IsRange.new ..) (small_one (by decide) (by decide) (by omega) (by omega)) (by rw [rangeSize_one];split <;> omega) (by omega) fun h' tk acc' c' hk hS' hacc=> ?_;have hs:=hacc.1;refine ⟨.ref s2.heap.objs.size,_,I2.laid (t':=tk) (o:= .lst (SW n)) hk (Nat.le_refl _) ?_,rfl,q _ (I2.hok.fresh (Nat.le_refl _))⟩;refine ⟨by unfold SW;rw [List.length_map,List.length_range];exact Nat.le_trans hn (by decide),acc'.toList,c',cY (by unfold SW;rw [List.length_map,List.length_range,Array.length_toList,hs]) fun j x u h1 h2=> ?_,by simpa using hS'⟩;unfold SW at h1
  rw [AX] at h1
  obtain ⟨k,hk1,hk2⟩:=AG.mp h1;obtain ⟨hj,ej⟩:=AS.mp hk1;rw [List.getElem_range] at ej
  subst ej hk2;obtain ⟨tk',e⟩:=hacc.2 j u (by simpa using h2);subst e;exact ⟨tk',by simp⟩
end
def S6:Sl->Option Int
 | .val (.int n)=>some n
 | _=>none
theorem OD{s:Sl}{n:Int}(h:S6 s=some n):s = .val (.int n):=by
 unfold S6 at h
 split at h
 . cases h;rfl
 . cases h
section
variable {K:PySem.W.Frag} {R:Rl} [RelOk K R]
def mLR(fa:En->Option Sl):En->Option Sl:=fun ρ=>((fa ρ).bind S6).bind fun n=>if 0<=n/\n<=1000 then some (.own ((List.range n.toNat).map fun k:Nat=> .int (k:Int))) else none
theorem XX{H:Hp}:∀ks:List Nat,Reps K H (ks.map fun k:Nat=>V.int (k:Int)) (ks.map fun k:Nat=> .int (k:Int))
 | []=> .nil
 | k::ks=> .cons (.int _) (XX ks)
theorem A32{ta:TE}{fa:En->Option Sl}(hA:RP K R ta fa):RE K R (tLR ta) (mLR fa):=fun HB σ ρ H0 H s e z hz Q q=>by
 obtain ⟨n,hn,hz⟩:=A3.mp hz;obtain ⟨s1,e1,hn⟩:=A3.mp hn;have hn:=OD hn;subst hn
 split at hz
 . rename_i h0
   cases hz
   refine hA HB σ ρ H0 H s e _ e1 _ fun w H1 J1 x1 p1=>⟨n.toNat,by rw [IM h0.1];exact p1.int,by omega,fun l hp=> ?_⟩;have xp:=Ext.alloc x1.s1 hp (.lst (SW n.toNat));exact q _ _ _ (x1.trans xp) ⟨l,_,rfl,x1.s.free hp,x1.s1.free hp,BZ,XX _⟩
 . cases hz
end
section
variable {X:Cx} {R:Rl} [RelOk X.K R] {a:Expr} {p1 p2 pos pos2:Pos} {fa:En->Option Sl}
theorem A28 (hml : X.mg "list" = none) (hmr : X.mg "range" = none) (ha : DP X R a fa) (hgl : Gl X "list" := by rfl) (hgr : Gl X "range" := by rfl) (hc : X.calm = true := by rfl)
 (hs1:starEach [.Call (.Name "range" p2) [a] [] pos2] X.env=(false,eval (.Call (.Name "range" p2) [a] [] pos2) X.env)::starEach [] X.env:=by rfl) (hs0:(backTo pos (starEach [] X.env)).any (·.1)=false:=by rfl) (hs2:backTo pos (starEach [] X.env) = []:=by rfl)
 (hsa:starEach [a] X.env=(false,eval a X.env)::starEach [] X.env:=by rfl) (hs3:(backTo pos2 (starEach [] X.env)).any (·.1)=false:=by rfl):DE X R (.Call (.Name "list" p1) [.Call (.Name "range" p2) [a] [] pos2] [] pos) (mLR fa):=by
 obtain ⟨t,h1,h2⟩:=ha;exact ⟨_,WA hml hmr h1 hgl hgr hc hs1 hs0 hs2 hsa hs3,A32 h2⟩
end
end Dm
namespace Dm
open PySem PySem.Spec PyProof.Rows L2 Tf
section
variable {X:Cx} {e:Expr} {te:TE}
def tO(te:TE):TT:=fun σ H Q=>te σ H fun x H1=>∃(p:Addr) (xs:List V),x = .ref p/\H1 p=some (.lst xs)/\Q (!xs.isEmpty) H1
theorem rP(h:PE X e te)(he:∀whole,isTrue e X.env whole=(do let v <-whole;standAt e.pos;holding [v] (truthy v)):=by intro _;rfl):PT X e (tO te):=by
 intro pins s σ H Q I hw;refine isTrue_plain (thn (h pins s σ H _ I hw) fun v s1 ⟨x,H1,I1,r1,q1⟩ => ?_) (he _);obtain ⟨p,xs,rfl,hx,q⟩:=q1;exact jI pins s1 σ H1 (.ref p) v Q I1 r1 ⟨_, .inl ⟨xs,SqL.of hx,rfl⟩,q⟩
end
section
variable {K:PySem.W.Frag} {R:Rl} [RelOk K R]
def bK(f:En->Option Sl):En->Option Bool:=fun ρ=>(f ρ).bind fun a=>match a with
 | .own ds=>some (!ds.isEmpty)
 | _=>none
theorem oK{te:TE}{f:En->Option Sl}(h:RP K R te f):RT K R (tO te) (bK f):=fun HB σ ρ H0 H s e b hb Q q=>by
 obtain ⟨a,ha,hb⟩:=A3.mp hb;refine h HB σ ρ H0 H s e a ha _ fun v H1 J1 x1 p1=> ?_
 cases a with
 | val d=>cases hb
 | dct d=>cases hb
 | own ds=>
  cases hb
  obtain ⟨p,vs,rfl,h1,h2⟩:=p1;have e2:ds.isEmpty=vs.isEmpty:=by cases h2 <;> rfl
  refine ⟨p,vs,rfl,h1,?_⟩;rw [<-e2];exact q _ _ x1
end
section
variable {X:Cx} {R:Rl} [RelOk X.K R] {e:Expr} {f:En->Option Sl}
theorem rL(h:DP X R e f)(he:∀whole,isTrue e X.env whole=(do let v <-whole;standAt e.pos;holding [v] (truthy v)):=by intro _;rfl):DT X R e (bK f):=by
 obtain ⟨t,h1,h2⟩:=h;exact ⟨_,rP h1 he,oK h2⟩
end
end Dm
namespace Tf
open PySem PySem.Spec PyProof.Rows L2
theorem Q2:fillsNumberSlot (.type "tuple") "mul" = pure false:=
 PySem.fillsNumberSlot_seq (id:= "tuple.__mul__") (r:=some (.builtin "tuple.__rmul__")) PySem.F.slot_tuple_mul.lookup (by decide +kernel) PySem.F.slot_tuple_rmul.lookup (by decide +kernel)
theorem WJ:seqRepeat? (.type "tuple")=pure (some (.builtin "tuple.__mul__")):=by
 unfold seqRepeat?;rw [PySem.seqSlot_of (T:= "tuple") (name:= "__mul__") (id:= "tuple.__mul__") PySem.F.slot_tuple_mul.lookup (by decide +kernel),PySem.seqSlot_of (T:= "tuple") (name:= "__rmul__") (id:= "tuple.__rmul__") PySem.F.slot_tuple_rmul.lookup (by decide +kernel)];rfl
theorem iU (a : Int) (t : Tok) (l : Addr) (items : Array Value) (n : Nat) (dd : Option Addr) (sl : Array (Option Value)) :
 Meets (Builtin.«int.__rmul__» ⟨[.int a t, .ref l], []⟩) (fun _ R s => s.heap.get? l = some { cls := .type "tuple", dict := dd, data := .seq items n, slots := sl } /\ R (.ok (.ret Value.notImplemented)) s) :=
 .of_wp fun prog w A R s h=>by obtain ⟨hp,g,d,tk,os⟩:=s;obtain ⟨hl,h⟩:=h;wp_walk;exact ⟨_,rfl,h⟩
theorem jW (l : Addr) (items : Array Value) (n : Nat) (dd : Option Addr) (sl : Array (Option Value)) (u : Tok) :
 Meets (Builtin.«tuple.__mul__» ⟨[.ref l, .int 1 u], []⟩) (fun _ R s => s.heap.get? l = some { cls := .type "tuple", dict := dd, data := .seq items n, slots := sl } /\ R (.ok (.ret (Value.ref l))) { s with heap := s.heap, toks := s.toks }) :=
 .of_wp fun prog w A R s h=>by
  obtain ⟨hp,g,d,tk,os⟩:=s;obtain ⟨hl,h⟩:=h;have f1:=AutoSeq1.idx_int
  wp_walk using v9 hl
  exact ⟨_,rfl,h⟩
theorem iO (l : Addr) (items : Array Value) (n : Nat) (dd : Option Addr) (sl : Array (Option Value)) (k : Int) (u : Tok) (h0 : ¬ (decide (k < -(2 ^ 63)) || decide (k ≥ 2 ^ 63)) = true) (h1 : ¬ (items.isEmpty || k == 1) = true) (h2 : ¬ (decide (k <= 0) || items.isEmpty) = true) (h3 : ¬ ((items.size : Int) * k > (2 ^ 63 - 1) / 8)) (h4 : ¬ Builtin.Tuple.tupleTooMany ((items.size : Int) * k) = true) (h5 : ¬ (List.foldl (fun x1 x2 => x1 ++ x2) #[] (List.replicate k.toNat items)).size > sizeLine) :
 Meets (Builtin.«tuple.__mul__» ⟨[.ref l, .int k u], []⟩) (fun _ R s => s.heap.get? l = some { cls := .type "tuple", dict := dd, data := .seq items n, slots := sl } /\ R (.ok (.ret (Value.ref s.heap.objs.size))) { s with heap := s.heap.push { cls := Value.type "tuple", data := Data.seq (List.foldl (fun x1 x2 => x1 ++ x2) #[] (List.replicate k.toNat items)) }, toks := s.toks }) :=
 .of_wp fun prog w A R s h=>by
  obtain ⟨hp,g,d,tk,os⟩:=s;obtain ⟨hl,h⟩:=h;have f1:=AutoSeq1.idx_int
  wp_walk using v9 hl
  rw [AA h0];refine A0 (wpAny_tupleItemsOf hl rfl ?_)
  dsimp only
  rw [AA h1,AA h2,AA h3,AA h4]
  wp_walk using v9 hl
  exact ⟨_,rfl,h⟩
theorem VE{α:Type}(xs:List α):∀(k:Nat) (acc:Array α),List.foldl (fun x1 x2=>x1++x2) acc (List.replicate k xs.toArray)=(acc.toList++(List.replicate k xs).flatten).toArray
 | 0,acc=>by simp
 | k+1,acc=>by
  rw [BW,QE,VE xs k,BW,EJ];simp
theorem Z2{α:Type}(xs:List α)(k:Nat):(List.replicate k xs).flatten.length=xs.length*k:=by
 rw [bA,MN]
section
variable {prog:Program} {w:World} {A:Around} {E:Value->Shared->Prop} {s:Shared}
theorem pN {t : Addr} {vs : List Value} {k : Nat} {u : Tok} {Q : Value -> Shared -> Prop} (ht : IsTup s.heap t vs.toArray) (hv : vs ≠ []) (hk : 1 <= k) (hk2 : k <= 1000) (hz : vs.length * k <= 100000)
 (h1:k=1->Q (.ref t) s) (h2:k≠1->Q (.ref s.heap.objs.size) {s with heap:=s.heap.push {cls:= .type "tuple",data:= .seq (List.replicate k vs).flatten.toArray} }):wpAny (model prog w) A (binaryOp .Mult (.ref t) (.int (k:Int) u)) Q E s:=by
 obtain ⟨⟨cls,dd,data,sl⟩,ho,hc,n,hd⟩:=id ht;simp only at hc hd
 subst hc hd;have hsl:100000<=sizeLine:=by decide
 refine A66 (T:= "tuple") (U:= "int") (by decide) ⟨_,ho,rfl⟩ (fun s'=>e9 s' k u) Q2 F.fills_int_mul U7 WJ F.slot_int_index.lookup
  (MM U7 (e9 s k u) F.entry_int_rmul (F.args_int_rmul_2 _ _) (iU k u t vs.toArray n dd sl) ⟨ho,rfl,⟨_,ho,rfl⟩,?_⟩)
 by_cases h:k=1
 . subst h;exact MM F.slot_tuple_mul ⟨_,ho,rfl⟩ F.entry_tuple_mul (F.args_tuple_mul_2 _ _) (jW t vs.toArray n dd sl u) ⟨ho,h1 rfl⟩
 . have he : vs.toArray.isEmpty = false := by
    cases vs with
    | nil=>exact absurd rfl hv
    | cons a r=>rfl
   have ef:List.foldl (fun x1 x2=>x1++x2) #[] (List.replicate ((k:Int).toNat) vs.toArray)=(List.replicate k vs).flatten.toArray:=by
    rw [DU,VE];simp
   have hm:(vs.toArray.size:Int)*(k:Int)<=100000:=by
    rw [AT, <-LL];omega
   refine MM F.slot_tuple_mul ⟨_,ho,rfl⟩ F.entry_tuple_mul (F.args_tuple_mul_2 _ _) (iO t vs.toArray n dd sl k u ?_ ?_ ?_ ?_ ?_ ?_) ⟨ho,?_⟩
   . simp only [Bool.or_eq_true,JP];omega
   . rw [he];simp only [Bool.false_or,KQ];omega
   . rw [he];simp only [Bool.or_false,JP];omega
   . omega
   . unfold Builtin.Tuple.tupleTooMany;simp only [decide_eq_true_eq];omega
   . rw [ef,AT,Z2];omega
   . rw [ef];exact h2 h
end
variable {X:Cx}
def tX(K:PySem.W.Frag):R2:=fun x y H Q=>∃(l:Addr) (k:Nat) (xs:List V),x = .ref l/\y = .int (k:Int)/\SqT K H l xs/\xs ≠ []/\1<=k/\k<=1000/\xs.length*k<=1000/\(k=1->Q (.ref l) H)/\(k≠1->∀p,H p=none->Q (.ref p) (upd H p (.tup (List.replicate k xs).flatten)))
theorem sJ:OpR X (binaryOp .Mult) (tX X.K):=by
 intro pins s σ H x y v u Q I rx ry h;obtain ⟨l,k,xs,rfl,rfl,hH,hx,k1,k2,hz,q1,q2⟩:=h
 cases rx
 obtain ⟨t,rfl⟩:=ry;obtain ⟨its,r,p1,_⟩:=I.tuple hH;have hl:=r.length;have hsl:100000<=sizeLine:=by decide
 refine pN p1 (fun e=>hx (by subst e;exact (r.nil_iff).mp rfl)) k1 k2 (by rw [<-hl];omega) (fun h=>⟨.ref l,H,I,rfl,q1 h⟩) fun h=> ?_;exact ⟨.ref _,_,I.laid (a:=s.heap.objs.size) (o:= .tup (List.replicate k xs).flatten) (t':=s.toks) (fun _ _ q=>A4 _ q) (AF _) ⟨by rw [Z2];omega,_,r.rep k,⟨_,AI _ rfl,rfl,0,rfl⟩⟩,rfl,q2 h _ I.fresh⟩
end Tf
namespace Dm
open PySem PySem.Spec PyProof.Rows L2 Tf
def dRepT(a b:Sl):Option Sl:=match a.dat,b.dat with
 | .tuple xs, .int k=>if xs ≠ []/\1<=k/\k<=1000/\xs.length*k.toNat<=1000 then some (.val (.tuple (List.replicate k.toNat xs).flatten)) else none
 | _,_=>none
theorem mB{K:PySem.W.Frag}:OpD K (tX K) dRepT:=fun H0 H x y sx sy z s px py hz Q q=>by
 unfold dRepT at hz
 split at hz
 . rename_i xs k e1 e2
   split at hz
   . rename_i hl;obtain ⟨h0,h1,h2,h3⟩:=hl
     cases hz
     obtain ⟨a,vs,rfl,g1,g2⟩:=px.tup e1
     cases py.atom e2 (fun _ h=>nomatch h)
     obtain ⟨n,rfl⟩:∃n:Nat,k=(n:Int):=⟨k.toNat,by omega⟩;rw [DU] at h3 q
     refine ⟨a,n,vs,rfl,rfl,s.seqT (SqT.of g1),fun e=>h0 (by subst e;cases g2;rfl),by omega,by omega,by rw [g2.length];exact h3,fun e=> ?_,fun e p hp=> ?_⟩
     . subst e;refine q _ _ _ (Ext.refl s) ?_;have er:(List.replicate 1 xs).flatten=xs:=by simp
       rw [er];exact .tuple g1 g2
     . exact q _ _ _ (Ext.allocF s hp _) (.tuple BZ (Reps.same (Same.upd (s.free hp) _) (Reps.rep g2 n)))
   . cases hz
 . cases hz
section
variable {X:Cx} {R:Rl} [RelOk X.K R] {a b:Expr} {fa fb:En->Option Sl} {pos:Pos}
theorem sP(ha:DP X R a fa)(hb:DP X R b fb):DE X R (.BinOp a .Mult b pos) (mBin dRepT fa fb):=UM sJ mB ha hb
end
end Dm
namespace Dm
open PySem PySem.Spec PyProof.Rows L2 Tf
mutual
def noL:PyData->Bool
 | .list _=>false
 | .dict _=>false
 | .tuple ds=>pQ ds
 | _=>true
def pQ:List PyData->Bool
 | []=>true
 | d::ds=>noL d && pQ ds
end
section
variable {K:PySem.W.Frag}
mutual
theorem Rep.dropL{H H':Hp}(e:∀a xs,H a=some (.tup xs)->H' a=some (.tup xs)):∀ {v:V} {d:PyData},Rep K H v d->noL d=true->Rep K H' v d
 | _,_, .none,_=> .none
 | _,_, .bool b,_=> .bool b
 | _,_, .int i,_=> .int i
 | _,_, .str x,_=> .str x
 | _,_, .list _ _,n=>by simp [noL] at n
 | _,_, .tuple h hs,n=> .tuple (e _ _ h) (Reps.dropL e hs (by simpa [noL] using n))
 | _,_, .dict _ _ _,n=>by simp [noL] at n
 | _,_, .dictF _ _ _,n=>by simp [noL] at n
theorem Reps.dropL{H H':Hp}(e:∀a xs,H a=some (.tup xs)->H' a=some (.tup xs)):∀ {vs:List V} {ds:List PyData},Reps K H vs ds->pQ ds=true->Reps K H' vs ds
 | _,_, .nil,_=> .nil
 | _,_, .cons h hs,n=>by
  have n:=zV.mp (show (_ && _)=true by rw [<-pQ];exact n);exact .cons (Rep.dropL e h n.1) (Reps.dropL e hs n.2)
end
end
section
variable {X:Cx} {e:Expr} {f:En->Option Sl}
end
end Dm
namespace Ts
open PySem PyProof.Rows
def gal:Bool->Keyed->Array Keyed->Nat->Nat->Nat->StateT SortSt Sem (Option Nat):=sortPriv% PySem.Builtin.gallop
def mLo:Array Keyed->Array Keyed->StateT SortSt Sem (Array Keyed):=sortPriv% PySem.Builtin.mergeLo
def mHi:Array Keyed->Array Keyed->StateT SortSt Sem (Array Keyed):=sortPriv% PySem.Builtin.mergeHi
def OL(prog:Program)(w:World)(A:Around)(E:Value->Shared->Prop)(s:Shared)(kd:SortKind)(D:Keyed->Prop)(κ:Keyed->Int):Prop:=∀(x y:Keyed) (st:SortSt) (Q:Option Bool->SortSt->Prop),kindOf st=kd->D x->D y->Q (some (decide (κ x<κ y))) st->wpS (model prog w) A E s (lt' x y) Q st
def bey(κ:Keyed->Int)(left:Bool)(key x:Keyed):Bool:=if left then decide (κ x<κ key) else !(decide (κ key<κ x))
section
variable {prog:Program} {w:World} {A:Around} {E:Value->Shared->Prop} {s:Shared} {kd:SortKind} {D:Keyed->Prop} {κ:Keyed->Int}
theorem B8{arr:Array Keyed}{i:Nat}{p:Keyed}{Q:Keyed->SortSt->Prop}{st:SortSt}(h:arr[i]? = some p)(q:Q p st):wpS (model prog w) A E s (elem' arr i) Q st:=by
 rw [elem'_eq,h];exact A9 q
theorem OZ (H : OL prog w A E s kd D κ) {left : Bool} {key x : Keyed} {arr : Array Keyed} {i : Nat} {st : SortSt} {Q : Option Bool -> SortSt -> Prop} (hk : kindOf st = kd) (hx : arr[i]? = some x) (dx : D x) (dk : D key) (q : Q (some (bey κ left key x)) st) : wpS (model prog w) A E s (do
 let x <-elem' arr i
 if left=true then lt' x key else do
  let r <-lt' key x
  pure (r.map fun b=> !b)) Q st:=by
 refine wpS_bind (B8 hx ?_);unfold bey at q
 cases left
 . simp only [CW,FC] at q ⊢
   exact A7 (H _ _ _ _ hk dk dx (A9 q))
 . simp only [G6] at q ⊢
   exact H _ _ _ _ hk dx dk q
theorem rW (H : OL prog w A E s kd D κ) {left : Bool} {key : Keyed} {arr : Array Keyed} {base n hint : Nat} {st : SortSt} {Q : Option Nat -> SortSt -> Prop} {b : Nat -> Bool} (hk : kindOf st = kd) (dk : D key) (hh : hint < n)
 (hb:∀i,i<n->∃x,arr[base+i]? = some x/\D x/\bey κ left key x=b i) (mono:∀i j,i<=j->j<n->b j=true->b i=true)
 (q:∀k,k<=n->(∀i,i<k->b i=true)->(∀i,k<=i->i<n->b i=false)->Q (some k) st):wpS (model prog w) A E s (gal left key arr base n hint) Q st:=by
 have monf:∀i j,i<=j->j<n->b i=false->b j=false:=fun i j hij hj h=>by
  cases e:b j
  . rfl
  . rw [mono i j hij hj e] at h;exact h
 refine A7 ?_;obtain ⟨x0,hx0,dx0,e0⟩:=hb hint hh;refine OZ H hk hx0 dx0 dk ?_;rw [e0]
 cases hr:b hint
 . dsimp only
   rw [AA (by simp)]
   refine A7 (ES (D7 (I:=fun x c st'=>st'=st/\∃lo of,c=(none,lo,of)/\lo<of/\x+1<=of/\lo<=hint/\b (hint - lo)=false)
    (Q:=fun c st'=>st'=st/\∃lo of,c=(none,lo,of)/\lo<of/\lo<=hint/\b (hint - lo)=false/\(hint+1<=of\/(of<=hint/\b (hint - of)=true))) ?s1 ?f1 ?i1) ?p1)
   case i1=>exact ⟨rfl,0,1,rfl,by omega,by omega,by omega,hr⟩
   case f1=>
    rintro c st' ⟨rfl,lo,of,rfl,h1,h2,h3,h4⟩;exact ⟨rfl,lo,of,rfl,h1,h3,h4, .inl (by omega)⟩
   case s1=>
    rintro i c st' _ hi ⟨rfl,lo,of,rfl,h1,h2,h3,h4⟩
    dsimp only
    by_cases hge:of≥hint+1
    . rw [AD hge];exact A9 ⟨rfl,lo,of,rfl,h1,h3,h4, .inl hge⟩
    . rw [AA hge];obtain ⟨x1,hx1,dx1,e1⟩:=hb (hint - of) (by omega);refine A7 (OZ H hk hx1 dx1 dk ?_);rw [e1]
      cases hm:b (hint - of)
      . dsimp only
        rw [AA (by simp)];exact A9 ⟨rfl,of,2*of+1,rfl,by omega,by omega,by omega,hm⟩
      . dsimp only
        rw [AD rfl];exact A9 ⟨rfl,lo,of,rfl,h1,h3,h4, .inr ⟨by omega,hm⟩⟩
   case p1=>
    rintro c st' ⟨rfl,lo,of,rfl,h1,h3,h4,h5⟩
    dsimp only
    refine A7 (ES (D7 (I:=fun x c st2=>st2=st'/\∃l h,c=(none,l,h)/\l<=h/\h<=n/\h - l<=n - x/\(∀i,i<l->b i=true)/\(∀i,h<=i->i<n->b i=false))
     (Q:=fun c st2=>st2=st'/\∃l,c=(none,l,l)/\l<=n/\(∀i,i<l->b i=true)/\(∀i,l<=i->i<n->b i=false)) ?s2 ?f2 ?i2) ?p2)
    case i2=>
     refine ⟨rfl,_,_,rfl,by omega,by omega,by omega,fun i hi=> ?_,fun i h6 h7=>monf _ i h6 h7 h4⟩;rcases h5 with h5 | ⟨h5,h6⟩
     . omega
     . exact mono i (hint - of) (by omega) (by omega) h6
    case f2=>
     rintro c st' ⟨rfl,l,h,rfl,g1,g2,g3,g4,g5⟩;have:l=h:=by omega
     subst this;exact ⟨rfl,l,rfl,g2,g4,g5⟩
    case s2=>
     rintro i c st' _ hi ⟨rfl,l,h,rfl,g1,g2,g3,g4,g5⟩
     dsimp only
     by_cases hge:l≥h
     . rw [AD hge];have:l=h:=by omega
       subst this;exact A9 ⟨rfl,l,rfl,g2,g4,g5⟩
     . rw [AA hge];obtain ⟨x1,hx1,dx1,e1⟩:=hb (l+(h - l) / 2) (by omega);refine A7 (OZ H hk hx1 dx1 dk ?_);rw [e1]
       cases hm:b (l+(h - l) / 2)
       . dsimp only
         rw [AA (by simp)];exact A9 ⟨rfl,l,_,rfl,by omega,by omega,by omega,g4,fun i h6 h7=>monf _ i h6 h7 hm⟩
       . dsimp only
         rw [AD rfl];exact A9 ⟨rfl,_,h,rfl,by omega,by omega,by omega,fun i h6=>mono i _ (by omega) (by omega) hm,g5⟩
    case p2=>
     rintro c st' ⟨rfl,l,rfl,g2,g4,g5⟩;exact A9 (q l g2 g4 g5)
 . dsimp only
   rw [AD rfl]
   refine A7 (ES (D7 (I:=fun x c st'=>st'=st/\∃lo of,c=(none,lo,of)/\lo<of/\x+1<=of/\hint+lo<n/\b (hint+lo)=true)
    (Q:=fun c st'=>st'=st/\∃lo of,c=(none,lo,of)/\lo<of/\hint+lo<n/\b (hint+lo)=true/\(n - hint<=of\/(hint+of<n/\b (hint+of)=false))) ?s1 ?f1 ?i1) ?p1)
   case i1=>exact ⟨rfl,0,1,rfl,by omega,by omega,by omega,hr⟩
   case f1=>
    rintro c st' ⟨rfl,lo,of,rfl,h1,h2,h3,h4⟩;exact ⟨rfl,lo,of,rfl,h1,h3,h4, .inl (by omega)⟩
   case s1=>
    rintro i c st' _ hi ⟨rfl,lo,of,rfl,h1,h2,h3,h4⟩
    dsimp only
    by_cases hge:of≥n - hint
    . rw [AD hge];exact A9 ⟨rfl,lo,of,rfl,h1,h3,h4, .inl hge⟩
    . rw [AA hge];obtain ⟨x1,hx1,dx1,e1⟩:=hb (hint+of) (by omega);refine A7 (OZ H hk hx1 dx1 dk ?_);rw [e1]
      cases hm:b (hint+of)
      . dsimp only
        rw [AD (show (!false)=true from rfl)];exact A9 ⟨rfl,lo,of,rfl,h1,h3,h4, .inr ⟨by omega,hm⟩⟩
      . dsimp only
        rw [AA (by simp)];exact A9 ⟨rfl,of,2*of+1,rfl,by omega,by omega,by omega,hm⟩
   case p1=>
    rintro c st' ⟨rfl,lo,of,rfl,h1,h3,h4,h5⟩
    dsimp only
    refine A7 (ES (D7 (I:=fun x c st2=>st2=st'/\∃l h,c=(none,l,h)/\l<=h/\h<=n/\h - l<=n - x/\(∀i,i<l->b i=true)/\(∀i,h<=i->i<n->b i=false))
     (Q:=fun c st2=>st2=st'/\∃l,c=(none,l,l)/\l<=n/\(∀i,i<l->b i=true)/\(∀i,l<=i->i<n->b i=false)) ?s2 ?f2 ?i2) ?p2)
    case i2=>
     refine ⟨rfl,_,_,rfl,by omega,by omega,by omega,fun i hi=>mono i (hint+lo) (by omega) h3 h4,fun i h6 h7=> ?_⟩;rcases h5 with h5 | ⟨h5,h8⟩
     . omega
     . exact monf (hint+of) i (by omega) h7 h8
    case f2=>
     rintro c st' ⟨rfl,l,h,rfl,g1,g2,g3,g4,g5⟩;have:l=h:=by omega
     subst this;exact ⟨rfl,l,rfl,g2,g4,g5⟩
    case s2=>
     rintro i c st' _ hi ⟨rfl,l,h,rfl,g1,g2,g3,g4,g5⟩
     dsimp only
     by_cases hge:l≥h
     . rw [AD hge];have:l=h:=by omega
       subst this;exact A9 ⟨rfl,l,rfl,g2,g4,g5⟩
     . rw [AA hge];obtain ⟨x1,hx1,dx1,e1⟩:=hb (l+(h - l) / 2) (by omega);refine A7 (OZ H hk hx1 dx1 dk ?_);rw [e1]
       cases hm:b (l+(h - l) / 2)
       . dsimp only
         rw [AA (by simp)];exact A9 ⟨rfl,l,_,rfl,by omega,by omega,by omega,g4,fun i h6 h7=>monf _ i h6 h7 hm⟩
       . dsimp only
         rw [AD rfl];exact A9 ⟨rfl,_,h,rfl,by omega,by omega,by omega,fun i h6=>mono i _ (by omega) (by omega) hm,g5⟩
    case p2=>
     rintro c st' ⟨rfl,l,rfl,g2,g4,g5⟩;exact A9 (q l g2 g4 g5)
end
end Ts
namespace Ts
open PySem PyProof.Rows
def Srt(κ:Keyed->Int)(l:List Keyed):Prop:=l.Pairwise fun x y=>κ x<=κ y
structure MI (κ:Keyed->Int) (al bl ol:List Keyed) (i j:Nat):Prop where
 hi:i<=al.length
 hj:j<=bl.length
 perm:ol.Perm (al.take i++bl.take j)
 srt:Srt κ ol
 la:∀x ∈ ol,∀y ∈ al.drop i,κ x<=κ y
 lb:∀x ∈ ol,∀y ∈ bl.drop j,κ x<=κ y
section
variable {κ:Keyed->Int} {al bl ol:List Keyed} {i j k:Nat} {x:Keyed}
theorem MI.symm(h:MI κ al bl ol i j):MI κ bl al ol j i:=⟨h.hj,h.hi,h.perm.trans EY,h.srt,h.lb,h.la⟩
theorem Srt.drop(h:Srt κ al):Srt κ (al.drop i):=zP (List.drop_sublist _ _) h
theorem Srt.take(h:Srt κ al):Srt κ (al.take i):=zP (WQ _ _) h
theorem Srt.head(h:Srt κ al)(hx:al[i]? = some x):∀y ∈ al.drop i,κ x<=κ y:=by
 have hi:i<al.length:=(AS.mp hx).1;rw [E3 hi];have e:=(AS.mp hx).2;have h2:=h.drop (i:=i);rw [E3 hi,e] at h2
 rw [e];intro y hy;rcases AN.mp hy with rfl | hy
 . exact FS _
 . exact (List.pairwise_cons.mp h2).1 y hy
theorem Srt.app(h1:Srt κ al)(h2:Srt κ bl)(h:∀x ∈ al,∀y ∈ bl,κ x<=κ y):Srt κ (al++bl):=HU.mpr ⟨h1,h2,h⟩
theorem Srt.get(h:Srt κ al){x y:Keyed}(hij:i<=j)(hx:al[i]? = some x)(hy:al[j]? = some y):κ x<=κ y:=by
 refine h.head hx y ?_;refine E7.mpr ⟨j - i,?_⟩;rw [JD,show i+(j - i)=j by omega];exact hy
theorem GH(h:x ∈ (al.drop i).take k):∃t,t<k/\al[i+t]? = some x:=by
 obtain ⟨t,ht⟩:=E7.mp h;rw [JE] at ht
 split at ht
 . rename_i hlt;rw [JD] at ht
   exact ⟨t,hlt,ht⟩
 . cases ht
theorem aI{y:Keyed}(h:Srt κ al)(hx:x ∈ (al.drop i).take k)(hy:y ∈ al.drop (i+k)):κ x<=κ y:=by
 obtain ⟨t,ht,e⟩:=GH hx;obtain ⟨u,hu⟩:=E7.mp hy;rw [JD] at hu
 exact h.get (by omega) e hu
theorem MI.stepA(h:MI κ al bl ol i j)(sa:Srt κ al)(hk:i+k<=al.length)(hle:∀x ∈ (al.drop i).take k,∀y ∈ bl.drop j,κ x<=κ y):MI κ al bl (ol++(al.drop i).take k) (i+k) j:=by
 have hm:∀y,y ∈ (al.drop i).take k->y ∈ al.drop i:=fun y hy=>G9 hy;refine ⟨hk,h.hj,?_,h.srt.app sa.drop.take fun x hx y hy=>h.la x hx y (hm y hy),?_,?_⟩
 . rw [List.take_add];refine (h.perm.append_right _).trans ?_;rw [BU,BU];exact EY.append_left _
 . intro x hx y hy;rcases AV.mp hx with hx | hx
   . refine h.la x hx y ?_;rw [<-RC] at hy
     exact zX hy
   . exact aI sa hx hy
 . intro x hx y hy;rcases AV.mp hx with hx | hx
   . exact h.lb x hx y hy
   . exact hle x hx y hy
theorem MI.fin(h:MI κ al bl ol i j){t:List Keyed}(ht:t.Perm (al.drop i++bl.drop j))(st:Srt κ t):(ol++t).Perm (al++bl)/\Srt κ (ol++t):=by
 constructor
 . refine (h.perm.append ht).trans ?_;have e1:(al++bl)=(al.take i++al.drop i)++(bl.take j++bl.drop j):=by rw [E8,E8]
   rw [e1,BU,BU];refine zQ _ ?_;rw [<-BU, <-BU];exact EY.append_right _
 . refine h.srt.app st fun x hx y hy=> ?_;rcases AV.mp (ht.mem_iff.mp hy) with hy | hy
   . exact h.la x hx y hy
   . exact h.lb x hx y hy
theorem N6(hx:al[i]? = some x):(al.drop i).take 1 = [x]:=by
 have hi:i<al.length:=(AS.mp hx).1;rw [E3 hi,(AS.mp hx).2];rfl
theorem MI.one(h:MI κ al bl ol i j)(sa:Srt κ al)(hx:al[i]? = some x)(hle:∀y ∈ bl.drop j,κ x<=κ y):MI κ al bl (ol ++ [x]) (i+1) j:=by
 have hi:i<al.length:=(AS.mp hx).1;have:=h.stepA sa (k:=1) hi (by rw [N6 hx];intro y hy;rw [A5.mp hy];exact hle)
 rwa [N6 hx] at this
end
def Mia(κ:Keyed->Int)(a b out:Array Keyed)(i j:Nat):Prop:=MI κ a.toList b.toList out.toList i j
def Mr(κ:Keyed->Int)(a b r:Array Keyed):Prop:=r.toList.Perm (a.toList++b.toList)/\Srt κ r.toList
section
variable {κ:Keyed->Int} {a b out:Array Keyed} {i j k:Nat} {x:Keyed}
theorem Mia.pushA(h:Mia κ a b out i j)(sa:Srt κ a.toList)(hx:a[i]? = some x)(hle:∀y ∈ b.toList.drop j,κ x<=κ y):Mia κ a b (out.push x) (i+1) j:=by
 unfold Mia at h ⊢
 rw [NK];exact h.one sa (by rw [AJ];exact hx) hle
theorem Mia.pushB(h:Mia κ a b out i j)(sb:Srt κ b.toList)(hx:b[j]? = some x)(hle:∀y ∈ a.toList.drop i,κ x<=κ y):Mia κ a b (out.push x) i (j+1):=by
 unfold Mia at h ⊢
 rw [NK];exact (h.symm.one sb (by rw [AJ];exact hx) hle).symm
theorem EZ{lo hi:Nat}:(a.extract lo hi).toList=(a.toList.drop lo).take (hi - lo):=by
 rw [Array.toList_extract,List.extract_eq_drop_take]
theorem R4{lo:Nat}:(a.extract lo a.size).toList=a.toList.drop lo:=by
 rw [EZ,BX];simp
theorem Mia.chunkA(h:Mia κ a b out i j)(sa:Srt κ a.toList)(hk:i+k<=a.size)(hle:∀t,t<k->∀x,a[i+t]? = some x->∀y ∈ b.toList.drop j,κ x<=κ y):Mia κ a b (out++a.extract i (i+k)) (i+k) j:=by
 unfold Mia at h ⊢
 rw [GD,EZ,show i+k - i=k by omega];refine h.stepA sa (by simpa using hk) fun x hx y hy=> ?_;obtain ⟨t,ht,e⟩:=GH hx;exact hle t ht x (by rw [<-AJ];exact e) y hy
theorem Mia.chunkB(h:Mia κ a b out i j)(sb:Srt κ b.toList)(hk:j+k<=b.size)(hle:∀t,t<k->∀x,b[j+t]? = some x->∀y ∈ a.toList.drop i,κ x<=κ y):Mia κ a b (out++b.extract j (j+k)) i (j+k):=by
 unfold Mia at h ⊢
 rw [GD,EZ,show j+k - j=k by omega];refine (h.symm.stepA sb (by simpa using hk) fun x hx y hy=> ?_).symm;obtain ⟨t,ht,e⟩:=GH hx;exact hle t ht x (by rw [<-AJ];exact e) y hy
theorem Mia.done(h:Mia κ a b out i j)(sa:Srt κ a.toList)(sb:Srt κ b.toList)(he:i=a.size\/j=b.size):Mr κ a b (out++a.extract i a.size++b.extract j b.size):=by
 unfold Mia at h
 unfold Mr;rw [Array.toList_append,Array.toList_append,R4,R4,List.append_assoc];refine h.fin (List.Perm.refl _) ?_;rcases he with he | he
 . rw [EK (by simp [he]),LK];exact sb.drop
 . rw [EK (i:=j) (by simp [he]),EA];exact sa.drop
theorem Mia.last(h:Mia κ a b out i j)(sb:Srt κ b.toList)(he:i+1=a.size)(hl:∀x,a[a.size - 1]? = some x->∀y ∈ b.toList,κ y<=κ x):Mr κ a b (out++b.extract j b.size++a.extract i a.size):=by
 unfold Mia at h
 unfold Mr;rw [Array.toList_append,Array.toList_append,R4,R4,List.append_assoc];have hi:i<a.toList.length:=by simp;omega
 have e:a.toList.drop i = [a.toList[i]]:=by rw [E3 hi,EK (by simp;omega)]
 refine h.fin EY ?_;refine sb.drop.app ?_ ?_
 . rw [e];exact EE _ _
 . rw [e];intro y hy z hz;rw [A5.mp hz];refine hl _ ?_ y (zX hy);rw [show a.size - 1=i by omega];simp
end
end Ts
namespace Ts
open PySem PyProof.Rows
def Sm(st st':SortSt):Prop:=kindOf st'=kindOf st/\arrOf st'=arrOf st/\pendingOf st'=pendingOf st/\failedOf st'=failedOf st
section
variable {prog:Program} {w:World} {A:Around} {E:Value->Shared->Prop} {s:Shared} {kd:SortKind} {D:Keyed->Prop} {κ:Keyed->Int}
theorem QC{key x:Keyed}:bey κ false key x=decide (κ x<=κ key):=by
 unfold bey;simp only [Bool.false_eq_true,if_false]
 by_cases h:κ key<κ x
 . rw [AR h,AZ (by omega)];rfl
 . rw [AZ h,AR (by omega)];rfl
theorem SC{key x:Keyed}:bey κ true key x=decide (κ x<κ key):=rfl
def atB(f:Keyed->Bool)(arr:Array Keyed)(i:Nat):Bool:=match arr[i]? with | some x=>f x | none=>false
theorem N0{f:Keyed->Bool}{arr:Array Keyed}{i:Nat}{x:Keyed}(h:arr[i]? = some x):atB f arr i=f x:=by unfold atB;rw [h]
theorem aZ (H : OL prog w A E s kd D κ) {left : Bool} {key : Keyed} {arr : Array Keyed} {base n hint : Nat} {st : SortSt} {Q : Option Nat -> SortSt -> Prop} (hk : kindOf st = kd) (dk : D key) (hh : hint < n) (hn : base + n <= arr.size)
 (da:∀(i:Nat) x,arr[i]? = some x->D x) (sa:∀(i j:Nat) x y,base<=i->i<=j->j<base+n->arr[i]? = some x->arr[j]? = some y->κ x<=κ y)
 (q:∀k,k<=n->(∀t,t<k->∀x,arr[base+t]? = some x->bey κ left key x=true)->(∀t,k<=t->t<n->∀x,arr[base+t]? = some x->bey κ left key x=false)->Q (some k) st):wpS (model prog w) A E s (gal left key arr base n hint) Q st:=by
 refine rW H (b:=fun i=>atB (bey κ left key) arr (base+i)) hk dk hh (fun i hi=> ?_) (fun i j hij hj hb=> ?_) fun k h1 h2 h3=>q k h1 (fun t ht x hx=> ?_) fun t h4 h5 x hx=> ?_
 . have h1:arr[base+i]? = some arr[base+i]:=BS arr (base+i) (by omega);exact ⟨_,h1,da _ _ h1,(N0 h1).symm⟩
 . have h1:arr[base+i]? = some arr[base+i]:=BS arr (base+i) (by omega);have h2:arr[base+j]? = some arr[base+j]:=BS arr (base+j) (by omega);have h3:=sa _ _ _ _ (by omega) (by omega) (by omega) h1 h2;rw [N0 h2] at hb
   rw [N0 h1]
   cases left
   . rw [QC] at hb ⊢
     have:=AO hb;exact AR (by omega)
   . rw [SC] at hb ⊢
     have:=AO hb;exact AR (by omega)
 . have:=h2 t ht;rwa [N0 hx] at this
 . have:=h3 t h4 h5;rwa [N0 hx] at this
theorem LI (H : OL prog w A E s kd D κ) {key : Keyed} {arr : Array Keyed} {base n hint : Nat} {st : SortSt} {Q : Option Nat -> SortSt -> Prop} (hk : kindOf st = kd) (dk : D key) (hh : hint < n) (hn : base + n <= arr.size)
 (da:∀(i:Nat) x,arr[i]? = some x->D x) (sa:∀(i j:Nat) x y,base<=i->i<=j->j<base+n->arr[i]? = some x->arr[j]? = some y->κ x<=κ y)
 (q:∀k,k<=n->(∀t,t<k->∀x,arr[base+t]? = some x->κ x<=κ key)->(∀t,k<=t->t<n->∀x,arr[base+t]? = some x->κ key<κ x)->Q (some k) st):wpS (model prog w) A E s (gal false key arr base n hint) Q st:=
 aZ H hk dk hh hn da sa fun k h1 h2 h3=>q k h1 (fun t ht x hx=>by have:=h2 t ht x hx;rw [QC] at this;exact AO this) fun t h4 h5 x hx=>by have:=h3 t h4 h5 x hx;rw [QC] at this;have:=A80 this;omega
theorem HZ (H : OL prog w A E s kd D κ) {key : Keyed} {arr : Array Keyed} {base n hint : Nat} {st : SortSt} {Q : Option Nat -> SortSt -> Prop} (hk : kindOf st = kd) (dk : D key) (hh : hint < n) (hn : base + n <= arr.size)
 (da:∀(i:Nat) x,arr[i]? = some x->D x) (sa:∀(i j:Nat) x y,base<=i->i<=j->j<base+n->arr[i]? = some x->arr[j]? = some y->κ x<=κ y)
 (q:∀k,k<=n->(∀t,t<k->∀x,arr[base+t]? = some x->κ x<κ key)->(∀t,k<=t->t<n->∀x,arr[base+t]? = some x->κ key<=κ x)->Q (some k) st):wpS (model prog w) A E s (gal true key arr base n hint) Q st:=
 aZ H hk dk hh hn da sa fun k h1 h2 h3=>q k h1 (fun t ht x hx=>by have:=h2 t ht x hx;rw [SC] at this;exact AO this) fun t h4 h5 x hx=>by have:=h3 t h4 h5 x hx;rw [SC] at this;have:=A80 this;omega
theorem Mia.nil{a b:Array Keyed}:Mia κ a b #[] 0 0:=⟨CJ _,CJ _,by simp,HI,fun x hx=>by simp at hx,fun x hx=>by simp at hx⟩
theorem Srt.at{a:Array Keyed}(h:Srt κ a.toList){i j:Nat}{x y:Keyed}(hij:i<=j)(hx:a[i]? = some x)(hy:a[j]? = some y):κ x<=κ y:=h.get hij (by rw [AJ];exact hx) (by rw [AJ];exact hy)
theorem Srt.hd{a:Array Keyed}(h:Srt κ a.toList){i:Nat}{x:Keyed}(hx:a[i]? = some x):∀y ∈ a.toList.drop i,κ x<=κ y:=h.head (by rw [AJ];exact hx)
theorem LD{a:Array Keyed}{i:Nat}{y:Keyed}(h:y ∈ a.toList.drop i):∃t,a[i+t]? = some y/\i+t<a.size:=by
 obtain ⟨t,ht⟩:=E7.mp h;rw [JD,AJ] at ht
 exact ⟨t,ht,(EL.mp ht).1⟩
end
end Ts
namespace Ts
open PySem PyProof.Rows
section
variable {prog:Program} {w:World} {A:Around} {E:Value->Shared->Prop} {s:Shared} {kd:SortKind} {D:Keyed->Prop} {κ:Keyed->Int}
theorem qY      (H : OL prog w A E s kd D κ) {a b : Array Keyed} {st : SortSt} {Q : Array Keyed -> SortSt -> Prop} (hk : kindOf st = kd) (da : ∀ (i : Nat) x, a[i]? = some x -> D x) (db : ∀ (i : Nat) x, b[i]? = some x -> D x) (ha : 0 < a.size) (hb : 0 < b.size) (sa : Srt κ a.toList) (sb : Srt κ b.toList)
 (hf:∀x y,a[0]? = some x->b[0]? = some y->κ y<=κ x) (hl:∀x,a[a.size - 1]? = some x->∀y ∈ b.toList,κ y<=κ x) (q:∀r st',Sm st st'->Mr κ a b r->Q r st'):wpS (model prog w) A E s (mLo a b) Q st:=by
 refine A7 (TN (KC ⟨rfl,?_⟩));obtain ⟨b0,eb0⟩:∃x,b[0]? = some x:=⟨_,BS b 0 hb⟩;obtain ⟨a0,ea0⟩:∃x,a[0]? = some x:=⟨_,BS a 0 ha⟩;refine A7 (B8 eb0 ?_)
 dsimp only
 have M0:Mia κ a b #[b0] 0 1:=Mia.nil.pushB sb eb0 fun y hy=>CC (hf _ _ ea0 eb0) (sa.hd ea0 y hy);have Srf:Sm st st:=⟨rfl,rfl,rfl,rfl⟩
 by_cases e1:1=b.size
 . rw [AD (by simpa using e1)];exact A9 (q _ _ Srf (M0.done sa sb (.inr e1)))
 rw [AA (by simpa using e1)]
 by_cases e2:0+1=a.size
 . rw [AD (by simpa using e2)];exact A9 (q _ _ Srf (M0.last sb e2 hl))
 rw [AA (by simpa using e2)];refine A7 (JI ?_)
 refine A7 (ES (D7
  (I:=fun x c st'=>Sm st st'/\∃out ia ib g,c=(none,out,ia,ib,g)/\Mia κ a b out ia ib/\ia+1<a.size/\ib<b.size/\x+1<=ia+ib)
  (Q:=fun c st'=>Sm st st'/\∃r v,c=(some r,v)/\Mr κ a b r) ?s1 ?f1 ?i1) ?p1)
 case p1=>
  rintro c st' ⟨hs,r,v,rfl,hr⟩;exact A9 (q r st' hs hr)
 case i1=>exact ⟨Srf,_,_,_,_,rfl,M0,by omega,by omega,by omega⟩
 case f1=>
  rintro c st' ⟨hs,out,ia,ib,g,rfl,hM,hia,hib,hpr⟩;omega
 case s1=>
  rintro x c st1 _ hx ⟨hs,out,ia,ib,g,rfl,hM,hia,hib,hpr⟩
  dsimp only
  refine A7 (ES (D7
   (I:=fun y c st'=>st'=st1/\∃out ia ib ac bc,c=(none,out,ia,ib,ac,bc)/\Mia κ a b out ia ib/\ia+1<a.size/\ib<b.size/\x+1+y<=ia+ib)
   (Q:=fun c st'=>st'=st1/\((∃r v,c=(some r,v)/\Mr κ a b r)\/∃out ia ib ac bc,c=(none,out,ia,ib,ac,bc)/\Mia κ a b out ia ib/\ia+1<a.size/\ib<b.size/\x+2<=ia+ib)) ?s2 ?f2 ?i2) ?p2)
  case i2=>exact ⟨rfl,_,_,_,_,_,rfl,hM,hia,hib,by omega⟩
  case f2=>
   rintro c st' ⟨rfl,out,ia,ib,ac,bc,rfl,hM,hia,hib,hpr⟩;omega
  case s2=>
   rintro y c st2 _ hy ⟨rfl,out,ia,ib,ac,bc,rfl,hM,hia,hib,hpr⟩;obtain ⟨xb,eb⟩:∃x,b[ib]? = some x:=⟨_,BS b ib hib⟩;obtain ⟨xa,ea⟩:∃x,a[ia]? = some x:=⟨_,BS a ia (by omega)⟩
   dsimp only
   refine A7 (B8 eb (A7 (B8 ea (A7 (H _ _ _ _ (hs.1.trans hk) (db _ _ eb) (da _ _ ea) ?_)))))
   by_cases hlt:κ xb<κ xa
   . rw [AR hlt]
     dsimp only
     rw [AD rfl];refine A7 (B8 eb ?_);have M2:=hM.pushB sb eb (fun y hy=>CC (DK hlt) (sa.hd ea y hy))
     by_cases e1:ib+1=b.size
     . rw [AD (by simpa using e1)];exact A9 ⟨rfl, .inl ⟨_,_,rfl,M2.done sa sb (.inr e1)⟩⟩
     rw [AA (by simpa using e1)]
     split
     . exact A9 ⟨rfl, .inr ⟨_,_,_,_,_,rfl,M2,hia,by omega,by omega⟩⟩
     . exact A9 ⟨rfl,_,_,_,_,_,rfl,M2,hia,by omega,by omega⟩
   . rw [AZ hlt]
     dsimp only
     rw [AA (by simp)];refine A7 (B8 ea ?_);have M2:=hM.pushA sa ea (fun y hy=>CC (Int.not_lt.mp hlt) (sb.hd eb y hy))
     by_cases e1:ia+1+1=a.size
     . rw [AD (by simpa using e1)];exact A9 ⟨rfl, .inl ⟨_,_,rfl,M2.last sb e1 hl⟩⟩
     rw [AA (by simpa using e1)]
     split
     . exact A9 ⟨rfl, .inr ⟨_,_,_,_,_,rfl,M2,by omega,by omega,by omega⟩⟩
     . exact A9 ⟨rfl,_,_,_,_,_,rfl,M2,by omega,by omega,by omega⟩
  case p2=>
   rintro c st2 ⟨rfl,(⟨r,v,rfl,hr⟩ | ⟨out,ia,ib,ac,bc,rfl,hM,hia,hib,hpr⟩)⟩
   . exact A9 ⟨hs,_,_,rfl,hr⟩
   . dsimp only
     refine A7 (TN (KC ⟨rfl,?_⟩))
     refine A7 (ES (D7
      (I:=fun y c st'=>Sm st st'/\∃out ia ib g ac bc,c=(none,out,ia,ib,g,ac,bc)/\Mia κ a b out ia ib/\ia+1<a.size/\ib<b.size/\x+2<=ia+ib)
      (Q:=fun c st'=>Sm st st'/\((∃r v,c=(some r,v)/\Mr κ a b r)\/∃out ia ib g ac bc,c=(none,out,ia,ib,g,ac,bc)/\Mia κ a b out ia ib/\ia+1<a.size/\ib<b.size/\x+2<=ia+ib)) ?s3 ?f3 ?i3) ?p3)
     case i3=>exact ⟨hs,_,_,_,_,_,_,rfl,hM,hia,hib,hpr⟩
     case f3=>
      rintro c st' ⟨hs',h⟩;exact ⟨hs', .inr h⟩
     case p3=>
      rintro c st3 ⟨hs3,(⟨r,v,rfl,hr⟩ | ⟨out,ia,ib,g,ac,bc,rfl,hM,hia,hib,hpr⟩)⟩
      . exact A9 ⟨hs3,_,_,rfl,hr⟩
      . dsimp only
        exact A7 (FT (A9 ⟨⟨hs3.1,hs3.2.1,hs3.2.2.1,hs3.2.2.2⟩,_,_,_,_,rfl,hM,hia,hib,by omega⟩))
     case s3=>
      rintro y c st3 _ hy ⟨hs3,out,ia,ib,g,ac,bc,rfl,hM,hia,hib,hpr⟩;obtain ⟨xb,eb⟩:∃x,b[ib]? = some x:=⟨_,BS b ib hib⟩
      dsimp only
      by_cases hg:g>1
      . rw [AD hg];refine A7 (FT ?_);have hs4:Sm st _:=⟨hs3.1,hs3.2.1,hs3.2.2.1,hs3.2.2.2⟩;refine A7 (B8 eb ?_);refine A7 (LI H (hs3.1.trans hk) (db _ _ eb) (by omega) (by omega) da (fun i j x y _ hij _ hx hy=>sa.at hij hx hy) fun k k1 k2 k3' => ?_)
        dsimp only
        have k3:∀t x,a[ia+k+t]? = some x->κ xb<κ x:=fun t x hx=>k3' (k+t) (by omega) (by have:=(EL.mp hx).1;omega) x (by rw [<-IZ];exact hx)
        by_cases hk0:k>0
        . rw [AD hk0];have M1:=hM.chunkA (k:=k) sa (by omega) (fun t ht x hx y hy=>CC (k2 t ht x hx) (sb.hd eb y hy))
          by_cases e1:ia+k+1=a.size
          . rw [AD (by simpa using e1)];exact A9 ⟨hs4, .inl ⟨_,_,rfl,M1.last sb e1 hl⟩⟩
          rw [AA (by simpa using e1)]
          by_cases e2:ia+k=a.size
          . rw [AD (by simpa using e2)];exact A9 ⟨hs4, .inl ⟨_,_,rfl,M1.done sa sb (.inl e2)⟩⟩
          rw [AA (by simpa using e2)]
          replace k3:∀x,a[ia+k]? = some x->κ xb<κ x:=fun x hx=>k3 0 x hx
          obtain ⟨xa,ea⟩:∃x,a[(ia+k)]? = some x:=⟨_,BS a _ (by omega)⟩;have R1:κ xb<κ xa:=k3 _ ea;refine A7 (B8 eb ?_);have M2:=M1.pushB sb eb (fun y hy=>CC (DK R1) (sa.hd ea y hy))
          by_cases e3:ib+1=b.size
          . rw [AD (by simpa using e3)];exact A9 ⟨hs4, .inl ⟨_,_,rfl,M2.done sa sb (.inr e3)⟩⟩
          rw [AA (by simpa using e3)];refine A7 (B8 ea ?_);refine A7 (HZ H (hs4.1.trans hk) (da _ _ ea) (by omega) (by omega) db (fun i j x y _ hij _ hx hy=>sb.at hij hx hy) fun k2 l1 l2 l3=> ?_)
          dsimp only
          have R2:∀y ∈ b.toList.drop (ib+1+k2),κ xa<=κ y:=fun y hy=>by
           obtain ⟨t,ht,ht2⟩:=LD hy;exact l3 (k2+t) (by omega) (by omega) y (by rw [<-IZ];exact ht)
          by_cases hk2:k2>0
          . rw [AD hk2];have M3:=M2.chunkB (k:=k2) sb (by omega) (fun t ht x hx y hy=>CC (DK (l2 t ht x hx)) (sa.hd ea y hy))
            by_cases e5:ib+1+k2=b.size
            . rw [AD (by simpa using e5)];exact A9 ⟨hs4, .inl ⟨_,_,rfl,M3.done sa sb (.inr e5)⟩⟩
            . rw [AA (by simpa using e5)];refine A7 (B8 ea ?_);have M4:=M3.pushA sa ea R2
              by_cases e4:(ia+k)+1+1=a.size
              . rw [AD (by simpa using e4)];exact A9 ⟨hs4, .inl ⟨_,_,rfl,M4.last sb e4 hl⟩⟩
              . rw [AA (by simpa using e4)]
                split
                . exact A9 ⟨hs4, .inr ⟨_,_,_,_,_,_,rfl,M4,by omega,by omega,by omega⟩⟩
                . exact A9 ⟨hs4,_,_,_,_,_,_,rfl,M4,by omega,by omega,by omega⟩
          . rw [AA hk2];have hz2:k2=0:=by omega
            subst hz2;refine A7 (B8 ea ?_);have M4:=M2.pushA sa ea R2
            by_cases e4:(ia+k)+1+1=a.size
            . rw [AD (by simpa using e4)];exact A9 ⟨hs4, .inl ⟨_,_,rfl,M4.last sb e4 hl⟩⟩
            . rw [AA (by simpa using e4)]
              split
              . exact A9 ⟨hs4, .inr ⟨_,_,_,_,_,_,rfl,M4,by omega,by omega,by omega⟩⟩
              . exact A9 ⟨hs4,_,_,_,_,_,_,rfl,M4,by omega,by omega,by omega⟩
        . rw [AA hk0];have hz:k=0:=by omega
          subst hz
          replace k3:∀x,a[ia]? = some x->κ xb<κ x:=fun x hx=>k3 0 x hx
          obtain ⟨xa,ea⟩:∃x,a[ia]? = some x:=⟨_,BS a _ (by omega)⟩;have R1:κ xb<κ xa:=k3 _ ea;refine A7 (B8 eb ?_);have M2:=hM.pushB sb eb (fun y hy=>CC (DK R1) (sa.hd ea y hy))
          by_cases e3:ib+1=b.size
          . rw [AD (by simpa using e3)];exact A9 ⟨hs4, .inl ⟨_,_,rfl,M2.done sa sb (.inr e3)⟩⟩
          rw [AA (by simpa using e3)];refine A7 (B8 ea ?_);refine A7 (HZ H (hs4.1.trans hk) (da _ _ ea) (by omega) (by omega) db (fun i j x y _ hij _ hx hy=>sb.at hij hx hy) fun k2 l1 l2 l3=> ?_)
          dsimp only
          have R2:∀y ∈ b.toList.drop (ib+1+k2),κ xa<=κ y:=fun y hy=>by
           obtain ⟨t,ht,ht2⟩:=LD hy;exact l3 (k2+t) (by omega) (by omega) y (by rw [<-IZ];exact ht)
          by_cases hk2:k2>0
          . rw [AD hk2];have M3:=M2.chunkB (k:=k2) sb (by omega) (fun t ht x hx y hy=>CC (DK (l2 t ht x hx)) (sa.hd ea y hy))
            by_cases e5:ib+1+k2=b.size
            . rw [AD (by simpa using e5)];exact A9 ⟨hs4, .inl ⟨_,_,rfl,M3.done sa sb (.inr e5)⟩⟩
            . rw [AA (by simpa using e5)];refine A7 (B8 ea ?_);have M4:=M3.pushA sa ea R2
              by_cases e4:ia+1+1=a.size
              . rw [AD (by simpa using e4)];exact A9 ⟨hs4, .inl ⟨_,_,rfl,M4.last sb e4 hl⟩⟩
              . rw [AA (by simpa using e4)]
                split
                . exact A9 ⟨hs4, .inr ⟨_,_,_,_,_,_,rfl,M4,by omega,by omega,by omega⟩⟩
                . exact A9 ⟨hs4,_,_,_,_,_,_,rfl,M4,by omega,by omega,by omega⟩
          . rw [AA hk2];have hz2:k2=0:=by omega
            subst hz2;refine A7 (B8 ea ?_);have M4:=M2.pushA sa ea R2
            by_cases e4:ia+1+1=a.size
            . rw [AD (by simpa using e4)];exact A9 ⟨hs4, .inl ⟨_,_,rfl,M4.last sb e4 hl⟩⟩
            . rw [AA (by simpa using e4)]
              split
              . exact A9 ⟨hs4, .inr ⟨_,_,_,_,_,_,rfl,M4,by omega,by omega,by omega⟩⟩
              . exact A9 ⟨hs4,_,_,_,_,_,_,rfl,M4,by omega,by omega,by omega⟩
      . rw [AA hg];refine A7 (FT ?_);have hs4:Sm st _:=⟨hs3.1,hs3.2.1,hs3.2.2.1,hs3.2.2.2⟩;refine A7 (B8 eb ?_);refine A7 (LI H (hs3.1.trans hk) (db _ _ eb) (by omega) (by omega) da (fun i j x y _ hij _ hx hy=>sa.at hij hx hy) fun k k1 k2 k3' => ?_)
        dsimp only
        have k3:∀t x,a[ia+k+t]? = some x->κ xb<κ x:=fun t x hx=>k3' (k+t) (by omega) (by have:=(EL.mp hx).1;omega) x (by rw [<-IZ];exact hx)
        by_cases hk0:k>0
        . rw [AD hk0];have M1:=hM.chunkA (k:=k) sa (by omega) (fun t ht x hx y hy=>CC (k2 t ht x hx) (sb.hd eb y hy))
          by_cases e1:ia+k+1=a.size
          . rw [AD (by simpa using e1)];exact A9 ⟨hs4, .inl ⟨_,_,rfl,M1.last sb e1 hl⟩⟩
          rw [AA (by simpa using e1)]
          by_cases e2:ia+k=a.size
          . rw [AD (by simpa using e2)];exact A9 ⟨hs4, .inl ⟨_,_,rfl,M1.done sa sb (.inl e2)⟩⟩
          rw [AA (by simpa using e2)]
          replace k3:∀x,a[ia+k]? = some x->κ xb<κ x:=fun x hx=>k3 0 x hx
          obtain ⟨xa,ea⟩:∃x,a[(ia+k)]? = some x:=⟨_,BS a _ (by omega)⟩;have R1:κ xb<κ xa:=k3 _ ea;refine A7 (B8 eb ?_);have M2:=M1.pushB sb eb (fun y hy=>CC (DK R1) (sa.hd ea y hy))
          by_cases e3:ib+1=b.size
          . rw [AD (by simpa using e3)];exact A9 ⟨hs4, .inl ⟨_,_,rfl,M2.done sa sb (.inr e3)⟩⟩
          rw [AA (by simpa using e3)];refine A7 (B8 ea ?_);refine A7 (HZ H (hs4.1.trans hk) (da _ _ ea) (by omega) (by omega) db (fun i j x y _ hij _ hx hy=>sb.at hij hx hy) fun k2 l1 l2 l3=> ?_)
          dsimp only
          have R2:∀y ∈ b.toList.drop (ib+1+k2),κ xa<=κ y:=fun y hy=>by
           obtain ⟨t,ht,ht2⟩:=LD hy;exact l3 (k2+t) (by omega) (by omega) y (by rw [<-IZ];exact ht)
          by_cases hk2:k2>0
          . rw [AD hk2];have M3:=M2.chunkB (k:=k2) sb (by omega) (fun t ht x hx y hy=>CC (DK (l2 t ht x hx)) (sa.hd ea y hy))
            by_cases e5:ib+1+k2=b.size
            . rw [AD (by simpa using e5)];exact A9 ⟨hs4, .inl ⟨_,_,rfl,M3.done sa sb (.inr e5)⟩⟩
            . rw [AA (by simpa using e5)];refine A7 (B8 ea ?_);have M4:=M3.pushA sa ea R2
              by_cases e4:(ia+k)+1+1=a.size
              . rw [AD (by simpa using e4)];exact A9 ⟨hs4, .inl ⟨_,_,rfl,M4.last sb e4 hl⟩⟩
              . rw [AA (by simpa using e4)]
                split
                . exact A9 ⟨hs4, .inr ⟨_,_,_,_,_,_,rfl,M4,by omega,by omega,by omega⟩⟩
                . exact A9 ⟨hs4,_,_,_,_,_,_,rfl,M4,by omega,by omega,by omega⟩
          . rw [AA hk2];have hz2:k2=0:=by omega
            subst hz2;refine A7 (B8 ea ?_);have M4:=M2.pushA sa ea R2
            by_cases e4:(ia+k)+1+1=a.size
            . rw [AD (by simpa using e4)];exact A9 ⟨hs4, .inl ⟨_,_,rfl,M4.last sb e4 hl⟩⟩
            . rw [AA (by simpa using e4)]
              split
              . exact A9 ⟨hs4, .inr ⟨_,_,_,_,_,_,rfl,M4,by omega,by omega,by omega⟩⟩
              . exact A9 ⟨hs4,_,_,_,_,_,_,rfl,M4,by omega,by omega,by omega⟩
        . rw [AA hk0];have hz:k=0:=by omega
          subst hz
          replace k3:∀x,a[ia]? = some x->κ xb<κ x:=fun x hx=>k3 0 x hx
          obtain ⟨xa,ea⟩:∃x,a[ia]? = some x:=⟨_,BS a _ (by omega)⟩;have R1:κ xb<κ xa:=k3 _ ea;refine A7 (B8 eb ?_);have M2:=hM.pushB sb eb (fun y hy=>CC (DK R1) (sa.hd ea y hy))
          by_cases e3:ib+1=b.size
          . rw [AD (by simpa using e3)];exact A9 ⟨hs4, .inl ⟨_,_,rfl,M2.done sa sb (.inr e3)⟩⟩
          rw [AA (by simpa using e3)];refine A7 (B8 ea ?_);refine A7 (HZ H (hs4.1.trans hk) (da _ _ ea) (by omega) (by omega) db (fun i j x y _ hij _ hx hy=>sb.at hij hx hy) fun k2 l1 l2 l3=> ?_)
          dsimp only
          have R2:∀y ∈ b.toList.drop (ib+1+k2),κ xa<=κ y:=fun y hy=>by
           obtain ⟨t,ht,ht2⟩:=LD hy;exact l3 (k2+t) (by omega) (by omega) y (by rw [<-IZ];exact ht)
          by_cases hk2:k2>0
          . rw [AD hk2];have M3:=M2.chunkB (k:=k2) sb (by omega) (fun t ht x hx y hy=>CC (DK (l2 t ht x hx)) (sa.hd ea y hy))
            by_cases e5:ib+1+k2=b.size
            . rw [AD (by simpa using e5)];exact A9 ⟨hs4, .inl ⟨_,_,rfl,M3.done sa sb (.inr e5)⟩⟩
            . rw [AA (by simpa using e5)];refine A7 (B8 ea ?_);have M4:=M3.pushA sa ea R2
              by_cases e4:ia+1+1=a.size
              . rw [AD (by simpa using e4)];exact A9 ⟨hs4, .inl ⟨_,_,rfl,M4.last sb e4 hl⟩⟩
              . rw [AA (by simpa using e4)]
                split
                . exact A9 ⟨hs4, .inr ⟨_,_,_,_,_,_,rfl,M4,by omega,by omega,by omega⟩⟩
                . exact A9 ⟨hs4,_,_,_,_,_,_,rfl,M4,by omega,by omega,by omega⟩
          . rw [AA hk2];have hz2:k2=0:=by omega
            subst hz2;refine A7 (B8 ea ?_);have M4:=M2.pushA sa ea R2
            by_cases e4:ia+1+1=a.size
            . rw [AD (by simpa using e4)];exact A9 ⟨hs4, .inl ⟨_,_,rfl,M4.last sb e4 hl⟩⟩
            . rw [AA (by simpa using e4)]
              split
              . exact A9 ⟨hs4, .inr ⟨_,_,_,_,_,_,rfl,M4,by omega,by omega,by omega⟩⟩
              . exact A9 ⟨hs4,_,_,_,_,_,_,rfl,M4,by omega,by omega,by omega⟩
end
end Ts
namespace Ts
open PySem PyProof.Rows
structure MH (κ:Keyed->Int) (al bl ol:List Keyed) (i j:Nat):Prop where
 hi:i<=al.length
 hj:j<=bl.length
 perm:ol.Perm (al.drop i++bl.drop j)
 srt:ol.Pairwise fun x y=>κ y<=κ x
 la:∀x ∈ ol,∀y ∈ al.take i,κ y<=κ x
 lb:∀x ∈ ol,∀y ∈ bl.take j,κ y<=κ x
section
variable {κ:Keyed->Int} {al bl ol:List Keyed} {i j k:Nat} {x:Keyed}
theorem MH.symm(h:MH κ al bl ol i j):MH κ bl al ol j i:=⟨h.hj,h.hi,h.perm.trans EY,h.srt,h.lb,h.la⟩
theorem UU{y:Keyed}(h:y ∈ al.take i):∃t,t<i/\al[t]? = some y:=by
 obtain ⟨t,ht⟩:=E7.mp h;rw [JE] at ht
 split at ht
 . exact ⟨t,by assumption,ht⟩
 . cases ht
theorem MH.stepA(h:MH κ al bl ol i j)(sa:Srt κ al)(hk:k<=i)(hle:∀x ∈ (al.drop k).take (i - k),∀y ∈ bl.take j,κ y<=κ x):MH κ al bl (ol++((al.drop k).take (i - k)).reverse) k j:=by
 have hc:∀y,y ∈ (al.drop k).take (i - k)->y ∈ al.take i:=fun y hy=>by
  obtain ⟨t,ht,e⟩:=GH hy;refine E7.mpr ⟨k+t,?_⟩;rw [JE,AD (by omega)];exact e
 have hd:(al.drop k).take (i - k)++al.drop i=al.drop k:=by
  have e:=E8 (i - k) (al.drop k)
  rwa [RC,show k+(i - k)=i by omega] at e
 refine ⟨BQ hk h.hi,h.hj,?_,HU.mpr ⟨h.srt,zR.mpr sa.drop.take,fun x hx y hy=>h.la x hx y (hc y (IG.mp hy))⟩,?_,?_⟩
 . refine (h.perm.append (A99 _)).trans ?_;refine EY.trans ?_;rw [<-BU,hd]
 . intro x hx y hy;obtain ⟨u,hu,eu⟩:=UU hy;rcases AV.mp hx with hx | hx
   . refine h.la x hx y (E7.mpr ⟨u,?_⟩);rw [JE,AD (by omega)];exact eu
   . obtain ⟨t,ht,e⟩:=GH (IG.mp hx);exact sa.get (by omega) eu e
 . intro x hx y hy;rcases AV.mp hx with hx | hx
   . exact h.lb x hx y hy
   . exact hle x (IG.mp hx) y hy
theorem MH.fin(h:MH κ al bl ol i j){t:List Keyed}(ht:t.Perm (al.take i++bl.take j))(st:Srt κ t):(t++ol.reverse).Perm (al++bl)/\Srt κ (t++ol.reverse):=by
 constructor
 . refine (ht.append ((A99 _).trans h.perm)).trans ?_;have e1:(al++bl)=(al.take i++al.drop i)++(bl.take j++bl.drop j):=by rw [E8,E8]
   rw [e1,BU,BU];refine zQ _ ?_;rw [<-BU, <-BU];exact EY.append_right _
 . refine st.app (zR.mpr h.srt) fun x hx y hy=> ?_;rcases AV.mp (ht.mem_iff.mp hx) with hx | hx
   . exact h.la y (IG.mp hy) x hx
   . exact h.lb y (IG.mp hy) x hx
theorem MH.one(h:MH κ al bl ol i j)(sa:Srt κ al)(hi:0<i)(hx:al[i - 1]? = some x)(hle:∀y ∈ bl.take j,κ y<=κ x):MH κ al bl (ol ++ [x]) (i - 1) j:=by
 have e:(al.drop (i - 1)).take (i - (i - 1)) = [x]:=by rw [show i - (i - 1)=1 by omega];exact N6 hx
 have:=h.stepA sa (k:=i - 1) (by omega) (by rw [e];intro y hy;rw [A5.mp hy];exact hle)
 rwa [e] at this
end
def Mha(κ:Keyed->Int)(a b out:Array Keyed)(i j:Nat):Prop:=MH κ a.toList b.toList out.toList i j
section
variable {κ:Keyed->Int} {a b out:Array Keyed} {i j k:Nat} {x:Keyed}
theorem Mha.pushA(h:Mha κ a b out i j)(sa:Srt κ a.toList)(hi:0<i)(hx:a[i - 1]? = some x)(hle:∀y ∈ b.toList.take j,κ y<=κ x):Mha κ a b (out.push x) (i - 1) j:=by
 unfold Mha at h ⊢
 rw [NK];exact h.one sa hi (by rw [AJ];exact hx) hle
theorem Mha.pushB(h:Mha κ a b out i j)(sb:Srt κ b.toList)(hj:0<j)(hx:b[j - 1]? = some x)(hle:∀y ∈ a.toList.take i,κ y<=κ x):Mha κ a b (out.push x) i (j - 1):=by
 unfold Mha at h ⊢
 rw [NK];exact (h.symm.one sb hj (by rw [AJ];exact hx) hle).symm
theorem Mha.chunkA(h:Mha κ a b out i j)(sa:Srt κ a.toList)(hk:k<=i)(hle:∀t,k<=t->t<i->∀x,a[t]? = some x->∀y ∈ b.toList.take j,κ y<=κ x):Mha κ a b (out++(a.extract k i).reverse) k j:=by
 unfold Mha at h ⊢
 rw [GD,zY,EZ];refine h.stepA sa hk fun x hx y hy=> ?_;obtain ⟨t,ht,e⟩:=GH hx;exact hle (k+t) (by omega) (by omega) x (by rw [<-AJ];exact e) y hy
theorem Mha.chunkB(h:Mha κ a b out i j)(sb:Srt κ b.toList)(hk:k<=j)(hle:∀t,k<=t->t<j->∀x,b[t]? = some x->∀y ∈ a.toList.take i,κ y<=κ x):Mha κ a b (out++(b.extract k j).reverse) i k:=by
 unfold Mha at h ⊢
 rw [GD,zY,EZ];refine (h.symm.stepA sb hk fun x hx y hy=> ?_).symm;obtain ⟨t,ht,e⟩:=GH hx;exact hle (k+t) (by omega) (by omega) x (by rw [<-AJ];exact e) y hy
theorem OV:(a.extract 0 i).toList=a.toList.take i:=by rw [EZ];rfl
theorem Mha.done(h:Mha κ a b out i j)(sa:Srt κ a.toList)(sb:Srt κ b.toList)(he:i=0\/j=0):Mr κ a b (a.extract 0 i++b.extract 0 j++out.reverse):=by
 unfold Mha at h
 unfold Mr;rw [Array.toList_append,Array.toList_append,OV,OV,Array.toList_reverse];refine h.fin (List.Perm.refl _) ?_;rcases he with rfl | rfl
 . rw [List.take_zero,LK];exact sb.take
 . rw [List.take_zero,EA];exact sa.take
theorem Mha.first(h:Mha κ a b out i j)(sa:Srt κ a.toList)(he:j=1)(hf:∀y,b[0]? = some y->∀x ∈ a.toList,κ y<=κ x):Mr κ a b (b.extract 0 j++a.extract 0 i++out.reverse):=by
 unfold Mha at h
 unfold Mr;subst he;rw [Array.toList_append,Array.toList_append,OV,OV,Array.toList_reverse];refine h.fin List.perm_append_comm ?_;have hb:0<b.size:=by have:=h.hj;rw [Array.length_toList] at this;omega
 have e:b.toList.take 1 = [b[0]]:=by
  have:=N6 (al:=b.toList) (i:=0) (x:=b[0]) (by simp)
  rwa [AC3] at this
 rw [e];refine Srt.app (EE _ _) sa.take fun y hy x hx=> ?_;rw [A5.mp hy];exact hf _ (BS b 0 hb) x (G9 hx)
theorem Mha.nil:Mha κ a b #[] a.size b.size:=⟨by simp,by simp,by simp,HI,fun x hx=>by simp at hx,fun x hx=>by simp at hx⟩
theorem HP{y:Keyed}(h:y ∈ a.toList.take i):∃t,t<i/\a[t]? = some y:=by
 obtain ⟨t,ht,e⟩:=UU h;exact ⟨t,ht,by rw [<-AJ];exact e⟩
theorem Srt.tl(h:Srt κ a.toList)(hx:a[i - 1]? = some x):∀y ∈ a.toList.take i,κ y<=κ x:=fun y hy=>by
 obtain ⟨t,ht,e⟩:=HP hy;exact h.at (by omega) e hx
end
end Ts
namespace Ts
open PySem PyProof.Rows
section
variable {prog:Program} {w:World} {A:Around} {E:Value->Shared->Prop} {s:Shared} {kd:SortKind} {D:Keyed->Prop} {κ:Keyed->Int}
theorem sH (H : OL prog w A E s kd D κ) {a b : Array Keyed} {st : SortSt} {Q : Array Keyed -> SortSt -> Prop} (hk : kindOf st = kd) (da : ∀ (i : Nat) x, a[i]? = some x -> D x) (db : ∀ (i : Nat) x, b[i]? = some x -> D x) (ha : 0 < a.size) (hb : 0 < b.size) (sa : Srt κ a.toList) (sb : Srt κ b.toList)
 (hf:∀y,b[0]? = some y->∀x ∈ a.toList,κ y<=κ x) (hl:∀x,a[a.size - 1]? = some x->∀y ∈ b.toList,κ y<=κ x) (q:∀r st',Sm st st'->Mr κ a b r->Q r st'):wpS (model prog w) A E s (mHi a b) Q st:=by
 refine A7 (TN (KC ⟨rfl,?_⟩));obtain ⟨a0,ea0⟩:∃x,a[a.size - 1]? = some x:=⟨_,BS a (a.size - 1) (by omega)⟩;refine A7 (B8 ea0 ?_)
 dsimp only
 have M0:Mha κ a b #[a0] (a.size - 1) b.size:=Mha.nil.pushA sa ha ea0 fun y hy=>hl _ ea0 y (G9 hy);have Srf:Sm st st:=⟨rfl,rfl,rfl,rfl⟩
 by_cases e1:a.size - 1=0
 . rw [AD (by simpa using e1)];exact A9 (q _ _ Srf (M0.done sa sb (.inl e1)))
 rw [AA (by simpa using e1)]
 by_cases e2:b.size=1
 . rw [AD (by simpa using e2)];exact A9 (q _ _ Srf (M0.first sa e2 hf))
 rw [AA (by simpa using e2)];refine A7 (JI ?_)
 refine A7 (ES (D7
  (I:=fun x c st'=>Sm st st'/\∃na nb out g,c=(none,na,nb,out,g)/\Mha κ a b out na nb/\0<na/\1<nb/\x+1+na+nb<=a.size+b.size)
  (Q:=fun c st'=>Sm st st'/\∃r v,c=(some r,v)/\Mr κ a b r) ?s1 ?f1 ?i1) ?p1)
 case p1=>
  rintro c st' ⟨hs,r,v,rfl,hr⟩;exact A9 (q r st' hs hr)
 case i1=>exact ⟨Srf,_,_,_,_,rfl,M0,by omega,by omega,by omega⟩
 case f1=>
  rintro c st' ⟨hs,na,nb,out,g,rfl,hM,hna,hnb,hpr⟩;omega
 case s1=>
  rintro x c st1 _ hx ⟨hs,na,nb,out,g,rfl,hM,hna,hnb,hpr⟩
  dsimp only
  refine A7 (ES (D7
   (I:=fun y c st'=>st'=st1/\∃na nb out ac bc,c=(none,na,nb,out,ac,bc)/\Mha κ a b out na nb/\0<na/\1<nb/\x+1+y+na+nb<=a.size+b.size)
   (Q:=fun c st'=>st'=st1/\((∃r v,c=(some r,v)/\Mr κ a b r)\/∃na nb out ac bc,c=(none,na,nb,out,ac,bc)/\Mha κ a b out na nb/\0<na/\1<nb/\x+2+na+nb<=a.size+b.size)) ?s2 ?f2 ?i2) ?p2)
  case i2=>exact ⟨rfl,_,_,_,_,_,rfl,hM,hna,hnb,by omega⟩
  case f2=>
   rintro c st' ⟨rfl,na,nb,out,ac,bc,rfl,hM,hna,hnb,hpr⟩;omega
  case s2=>
   rintro y c st2 _ hy ⟨rfl,na,nb,out,ac,bc,rfl,hM,hna,hnb,hpr⟩;have hi1:na<=a.size:=by have:=hM.hi;rwa [BJ] at this
   have hj1:nb<=b.size:=by have:=hM.hj;rwa [BJ] at this
   obtain ⟨xb,eb⟩:∃x,b[nb - 1]? = some x:=⟨_,BS b _ (by omega)⟩;obtain ⟨xa,ea⟩:∃x,a[na - 1]? = some x:=⟨_,BS a _ (by omega)⟩
   dsimp only
   refine A7 (B8 eb (A7 (B8 ea (A7 (H _ _ _ _ (hs.1.trans hk) (db _ _ eb) (da _ _ ea) ?_)))))
   by_cases hlt:κ xb<κ xa
   . rw [AR hlt]
     dsimp only
     rw [AD rfl];refine A7 (B8 ea ?_);have M2:=hM.pushA sa hna ea (fun y hy=>CC (sb.tl eb y hy) (DK hlt))
     by_cases e1:na - 1=0
     . rw [AD (by simpa using e1)];exact A9 ⟨rfl, .inl ⟨_,_,rfl,M2.done sa sb (.inl e1)⟩⟩
     rw [AA (by simpa using e1)]
     split
     . exact A9 ⟨rfl, .inr ⟨_,_,_,_,_,rfl,M2,by omega,by omega,by omega⟩⟩
     . exact A9 ⟨rfl,_,_,_,_,_,rfl,M2,by omega,by omega,by omega⟩
   . rw [AZ hlt]
     dsimp only
     rw [AA (by simp)];refine A7 (B8 eb ?_);have M2:=hM.pushB sb (by omega) eb (fun y hy=>CC (sa.tl ea y hy) (Int.not_lt.mp hlt))
     by_cases e1:nb - 1=1
     . rw [AD (by simpa using e1)];exact A9 ⟨rfl, .inl ⟨_,_,rfl,M2.first sa e1 hf⟩⟩
     rw [AA (by simpa using e1)]
     split
     . exact A9 ⟨rfl, .inr ⟨_,_,_,_,_,rfl,M2,by omega,by omega,by omega⟩⟩
     . exact A9 ⟨rfl,_,_,_,_,_,rfl,M2,by omega,by omega,by omega⟩
  case p2=>
   rintro c st2 ⟨rfl,(⟨r,v,rfl,hr⟩ | ⟨na,nb,out,ac,bc,rfl,hM,hna,hnb,hpr⟩)⟩
   . exact A9 ⟨hs,_,_,rfl,hr⟩
   . dsimp only
     refine A7 (TN (KC ⟨rfl,?_⟩))
     refine A7 (ES (D7
      (I:=fun y c st'=>Sm st st'/\∃na nb out g ac bc,c=(none,na,nb,out,g,ac,bc)/\Mha κ a b out na nb/\0<na/\1<nb/\x+2+na+nb<=a.size+b.size)
      (Q:=fun c st'=>Sm st st'/\((∃r v,c=(some r,v)/\Mr κ a b r)\/∃na nb out g ac bc,c=(none,na,nb,out,g,ac,bc)/\Mha κ a b out na nb/\0<na/\1<nb/\x+2+na+nb<=a.size+b.size)) ?s3 ?f3 ?i3) ?p3)
     case i3=>exact ⟨hs,_,_,_,_,_,_,rfl,hM,hna,hnb,hpr⟩
     case f3=>
      rintro c st' ⟨hs',h⟩;exact ⟨hs', .inr h⟩
     case p3=>
      rintro c st3 ⟨hs3,(⟨r,v,rfl,hr⟩ | ⟨na,nb,out,g,ac,bc,rfl,hM,hna,hnb,hpr⟩)⟩
      . exact A9 ⟨hs3,_,_,rfl,hr⟩
      . dsimp only
        exact A7 (FT (A9 ⟨⟨hs3.1,hs3.2.1,hs3.2.2.1,hs3.2.2.2⟩,_,_,_,_,rfl,hM,hna,hnb,by omega⟩))
     case s3=>
      rintro y c st3 _ hy ⟨hs3,na,nb,out,g,ac,bc,rfl,hM,hna,hnb,hpr⟩;have hi1:na<=a.size:=by have:=hM.hi;rwa [BJ] at this
      have hj1:nb<=b.size:=by have:=hM.hj;rwa [BJ] at this
      obtain ⟨xb,eb⟩:∃x,b[nb - 1]? = some x:=⟨_,BS b _ (by omega)⟩
      dsimp only
      by_cases hg:g>1
      . rw [AD hg];refine A7 (FT ?_);have hs4:Sm st _:=⟨hs3.1,hs3.2.1,hs3.2.2.1,hs3.2.2.2⟩;refine A7 (B8 eb ?_);refine A7 (LI H (hs3.1.trans hk) (db _ _ eb) (by omega) (by omega) da (fun i j x y _ hij _ hx hy=>sa.at hij hx hy) fun k k1 k2 k3' => ?_)
        dsimp only
        have k3:∀y ∈ a.toList.take k,κ y<=κ xb:=fun y hy=>by
         obtain ⟨t,ht,ht2⟩:=HP hy;exact k2 t ht y (by rw [BT];exact ht2)
        by_cases hk0:na - k>0
        . rw [AD hk0];have M1:=hM.chunkA (k:=k) sa (by omega) (fun t ht ht2 x hx y hy=>CC (sb.tl eb y hy) (DK (k3' t ht ht2 x (by rw [BT];exact hx))))
          by_cases e1:k=0
          . rw [AD (by simpa using e1)];exact A9 ⟨hs4, .inl ⟨_,_,rfl,M1.done sa sb (.inl e1)⟩⟩
          rw [AA (by simpa using e1)];obtain ⟨xa,ea⟩:∃x,a[k - 1]? = some x:=⟨_,BS a _ (by omega)⟩;refine A7 (B8 eb ?_);have M2:=M1.pushB sb (by omega) eb k3
          by_cases e3:nb - 1=1
          . rw [AD (by simpa using e3)];exact A9 ⟨hs4, .inl ⟨_,_,rfl,M2.first sa e3 hf⟩⟩
          rw [AA (by simpa using e3)];refine A7 (B8 ea ?_);refine A7 (HZ H (hs4.1.trans hk) (da _ _ ea) (by omega) (by omega) db (fun i j x y _ hij _ hx hy=>sb.at hij hx hy) fun k2 l1 l2 l3=> ?_)
          dsimp only
          have R2:∀y ∈ b.toList.take k2,κ y<=κ xa:=fun y hy=>by
           obtain ⟨t,ht,ht2⟩:=HP hy;exact DK (l2 t ht y (by rw [BT];exact ht2))
          by_cases hk2:nb - 1 - k2>0
          . rw [AD hk2];have M3:=M2.chunkB (k:=k2) sb (by omega) (fun t ht ht2 x hx y hy=>CC (sa.tl ea y hy) (l3 t ht ht2 x (by rw [BT];exact hx)))
            by_cases e5:k2=1
            . rw [AD (by simpa using e5)];exact A9 ⟨hs4, .inl ⟨_,_,rfl,M3.first sa e5 hf⟩⟩
            rw [AA (by simpa using e5)]
            by_cases e6:k2=0
            . rw [AD (by simpa using e6)];exact A9 ⟨hs4, .inl ⟨_,_,rfl,M3.done sa sb (.inr e6)⟩⟩
            rw [AA (by simpa using e6)];refine A7 (B8 ea ?_);have M4:=M3.pushA sa (by omega) ea R2
            by_cases e4:k - 1=0
            . rw [AD (by simpa using e4)];exact A9 ⟨hs4, .inl ⟨_,_,rfl,M4.done sa sb (.inl e4)⟩⟩
            . rw [AA (by simpa using e4)]
              split
              . exact A9 ⟨hs4, .inr ⟨_,_,_,_,_,_,rfl,M4,by omega,by omega,by omega⟩⟩
              . exact A9 ⟨hs4,_,_,_,_,_,_,rfl,M4,by omega,by omega,by omega⟩
          . rw [AA hk2];have hz2:k2=nb - 1:=by omega
            subst hz2;refine A7 (B8 ea ?_);have M4:=M2.pushA sa (by omega) ea R2
            by_cases e4:k - 1=0
            . rw [AD (by simpa using e4)];exact A9 ⟨hs4, .inl ⟨_,_,rfl,M4.done sa sb (.inl e4)⟩⟩
            . rw [AA (by simpa using e4)]
              split
              . exact A9 ⟨hs4, .inr ⟨_,_,_,_,_,_,rfl,M4,by omega,by omega,by omega⟩⟩
              . exact A9 ⟨hs4,_,_,_,_,_,_,rfl,M4,by omega,by omega,by omega⟩
        . rw [AA hk0];have hz:k=na:=by omega
          subst hz;obtain ⟨xa,ea⟩:∃x,a[k - 1]? = some x:=⟨_,BS a _ (by omega)⟩;refine A7 (B8 eb ?_);have M2:=hM.pushB sb (by omega) eb k3
          by_cases e3:nb - 1=1
          . rw [AD (by simpa using e3)];exact A9 ⟨hs4, .inl ⟨_,_,rfl,M2.first sa e3 hf⟩⟩
          rw [AA (by simpa using e3)];refine A7 (B8 ea ?_);refine A7 (HZ H (hs4.1.trans hk) (da _ _ ea) (by omega) (by omega) db (fun i j x y _ hij _ hx hy=>sb.at hij hx hy) fun k2 l1 l2 l3=> ?_)
          dsimp only
          have R2:∀y ∈ b.toList.take k2,κ y<=κ xa:=fun y hy=>by
           obtain ⟨t,ht,ht2⟩:=HP hy;exact DK (l2 t ht y (by rw [BT];exact ht2))
          by_cases hk2:nb - 1 - k2>0
          . rw [AD hk2];have M3:=M2.chunkB (k:=k2) sb (by omega) (fun t ht ht2 x hx y hy=>CC (sa.tl ea y hy) (l3 t ht ht2 x (by rw [BT];exact hx)))
            by_cases e5:k2=1
            . rw [AD (by simpa using e5)];exact A9 ⟨hs4, .inl ⟨_,_,rfl,M3.first sa e5 hf⟩⟩
            rw [AA (by simpa using e5)]
            by_cases e6:k2=0
            . rw [AD (by simpa using e6)];exact A9 ⟨hs4, .inl ⟨_,_,rfl,M3.done sa sb (.inr e6)⟩⟩
            rw [AA (by simpa using e6)];refine A7 (B8 ea ?_);have M4:=M3.pushA sa (by omega) ea R2
            by_cases e4:k - 1=0
            . rw [AD (by simpa using e4)];exact A9 ⟨hs4, .inl ⟨_,_,rfl,M4.done sa sb (.inl e4)⟩⟩
            . rw [AA (by simpa using e4)]
              split
              . exact A9 ⟨hs4, .inr ⟨_,_,_,_,_,_,rfl,M4,by omega,by omega,by omega⟩⟩
              . exact A9 ⟨hs4,_,_,_,_,_,_,rfl,M4,by omega,by omega,by omega⟩
          . rw [AA hk2];have hz2:k2=nb - 1:=by omega
            subst hz2;refine A7 (B8 ea ?_);have M4:=M2.pushA sa (by omega) ea R2
            by_cases e4:k - 1=0
            . rw [AD (by simpa using e4)];exact A9 ⟨hs4, .inl ⟨_,_,rfl,M4.done sa sb (.inl e4)⟩⟩
            . rw [AA (by simpa using e4)]
              split
              . exact A9 ⟨hs4, .inr ⟨_,_,_,_,_,_,rfl,M4,by omega,by omega,by omega⟩⟩
              . exact A9 ⟨hs4,_,_,_,_,_,_,rfl,M4,by omega,by omega,by omega⟩
      . rw [AA hg];refine A7 (FT ?_);have hs4:Sm st _:=⟨hs3.1,hs3.2.1,hs3.2.2.1,hs3.2.2.2⟩;refine A7 (B8 eb ?_);refine A7 (LI H (hs3.1.trans hk) (db _ _ eb) (by omega) (by omega) da (fun i j x y _ hij _ hx hy=>sa.at hij hx hy) fun k k1 k2 k3' => ?_)
        dsimp only
        have k3:∀y ∈ a.toList.take k,κ y<=κ xb:=fun y hy=>by
         obtain ⟨t,ht,ht2⟩:=HP hy;exact k2 t ht y (by rw [BT];exact ht2)
        by_cases hk0:na - k>0
        . rw [AD hk0];have M1:=hM.chunkA (k:=k) sa (by omega) (fun t ht ht2 x hx y hy=>CC (sb.tl eb y hy) (DK (k3' t ht ht2 x (by rw [BT];exact hx))))
          by_cases e1:k=0
          . rw [AD (by simpa using e1)];exact A9 ⟨hs4, .inl ⟨_,_,rfl,M1.done sa sb (.inl e1)⟩⟩
          rw [AA (by simpa using e1)];obtain ⟨xa,ea⟩:∃x,a[k - 1]? = some x:=⟨_,BS a _ (by omega)⟩;refine A7 (B8 eb ?_);have M2:=M1.pushB sb (by omega) eb k3
          by_cases e3:nb - 1=1
          . rw [AD (by simpa using e3)];exact A9 ⟨hs4, .inl ⟨_,_,rfl,M2.first sa e3 hf⟩⟩
          rw [AA (by simpa using e3)];refine A7 (B8 ea ?_);refine A7 (HZ H (hs4.1.trans hk) (da _ _ ea) (by omega) (by omega) db (fun i j x y _ hij _ hx hy=>sb.at hij hx hy) fun k2 l1 l2 l3=> ?_)
          dsimp only
          have R2:∀y ∈ b.toList.take k2,κ y<=κ xa:=fun y hy=>by
           obtain ⟨t,ht,ht2⟩:=HP hy;exact DK (l2 t ht y (by rw [BT];exact ht2))
          by_cases hk2:nb - 1 - k2>0
          . rw [AD hk2];have M3:=M2.chunkB (k:=k2) sb (by omega) (fun t ht ht2 x hx y hy=>CC (sa.tl ea y hy) (l3 t ht ht2 x (by rw [BT];exact hx)))
            by_cases e5:k2=1
            . rw [AD (by simpa using e5)];exact A9 ⟨hs4, .inl ⟨_,_,rfl,M3.first sa e5 hf⟩⟩
            rw [AA (by simpa using e5)]
            by_cases e6:k2=0
            . rw [AD (by simpa using e6)];exact A9 ⟨hs4, .inl ⟨_,_,rfl,M3.done sa sb (.inr e6)⟩⟩
            rw [AA (by simpa using e6)];refine A7 (B8 ea ?_);have M4:=M3.pushA sa (by omega) ea R2
            by_cases e4:k - 1=0
            . rw [AD (by simpa using e4)];exact A9 ⟨hs4, .inl ⟨_,_,rfl,M4.done sa sb (.inl e4)⟩⟩
            . rw [AA (by simpa using e4)]
              split
              . exact A9 ⟨hs4, .inr ⟨_,_,_,_,_,_,rfl,M4,by omega,by omega,by omega⟩⟩
              . exact A9 ⟨hs4,_,_,_,_,_,_,rfl,M4,by omega,by omega,by omega⟩
          . rw [AA hk2];have hz2:k2=nb - 1:=by omega
            subst hz2;refine A7 (B8 ea ?_);have M4:=M2.pushA sa (by omega) ea R2
            by_cases e4:k - 1=0
            . rw [AD (by simpa using e4)];exact A9 ⟨hs4, .inl ⟨_,_,rfl,M4.done sa sb (.inl e4)⟩⟩
            . rw [AA (by simpa using e4)]
              split
              . exact A9 ⟨hs4, .inr ⟨_,_,_,_,_,_,rfl,M4,by omega,by omega,by omega⟩⟩
              . exact A9 ⟨hs4,_,_,_,_,_,_,rfl,M4,by omega,by omega,by omega⟩
        . rw [AA hk0];have hz:k=na:=by omega
          subst hz;obtain ⟨xa,ea⟩:∃x,a[k - 1]? = some x:=⟨_,BS a _ (by omega)⟩;refine A7 (B8 eb ?_);have M2:=hM.pushB sb (by omega) eb k3
          by_cases e3:nb - 1=1
          . rw [AD (by simpa using e3)];exact A9 ⟨hs4, .inl ⟨_,_,rfl,M2.first sa e3 hf⟩⟩
          rw [AA (by simpa using e3)];refine A7 (B8 ea ?_);refine A7 (HZ H (hs4.1.trans hk) (da _ _ ea) (by omega) (by omega) db (fun i j x y _ hij _ hx hy=>sb.at hij hx hy) fun k2 l1 l2 l3=> ?_)
          dsimp only
          have R2:∀y ∈ b.toList.take k2,κ y<=κ xa:=fun y hy=>by
           obtain ⟨t,ht,ht2⟩:=HP hy;exact DK (l2 t ht y (by rw [BT];exact ht2))
          by_cases hk2:nb - 1 - k2>0
          . rw [AD hk2];have M3:=M2.chunkB (k:=k2) sb (by omega) (fun t ht ht2 x hx y hy=>CC (sa.tl ea y hy) (l3 t ht ht2 x (by rw [BT];exact hx)))
            by_cases e5:k2=1
            . rw [AD (by simpa using e5)];exact A9 ⟨hs4, .inl ⟨_,_,rfl,M3.first sa e5 hf⟩⟩
            rw [AA (by simpa using e5)]
            by_cases e6:k2=0
            . rw [AD (by simpa using e6)];exact A9 ⟨hs4, .inl ⟨_,_,rfl,M3.done sa sb (.inr e6)⟩⟩
            rw [AA (by simpa using e6)];refine A7 (B8 ea ?_);have M4:=M3.pushA sa (by omega) ea R2
            by_cases e4:k - 1=0
            . rw [AD (by simpa using e4)];exact A9 ⟨hs4, .inl ⟨_,_,rfl,M4.done sa sb (.inl e4)⟩⟩
            . rw [AA (by simpa using e4)]
              split
              . exact A9 ⟨hs4, .inr ⟨_,_,_,_,_,_,rfl,M4,by omega,by omega,by omega⟩⟩
              . exact A9 ⟨hs4,_,_,_,_,_,_,rfl,M4,by omega,by omega,by omega⟩
          . rw [AA hk2];have hz2:k2=nb - 1:=by omega
            subst hz2;refine A7 (B8 ea ?_);have M4:=M2.pushA sa (by omega) ea R2
            by_cases e4:k - 1=0
            . rw [AD (by simpa using e4)];exact A9 ⟨hs4, .inl ⟨_,_,rfl,M4.done sa sb (.inl e4)⟩⟩
            . rw [AA (by simpa using e4)]
              split
              . exact A9 ⟨hs4, .inr ⟨_,_,_,_,_,_,rfl,M4,by omega,by omega,by omega⟩⟩
              . exact A9 ⟨hs4,_,_,_,_,_,_,rfl,M4,by omega,by omega,by omega⟩
end
end Ts
namespace Ts
open PySem PyProof.Rows
def kk(κ:Keyed->Int)(xs:Array Keyed)(i:Nat):Int:=match xs[i]? with | some x=>κ x | none=>0
def Ou(xs ys:Array Keyed)(lo n:Nat):Prop:=∀k:Nat,(k<lo\/lo+n<=k)->ys[k]? = xs[k]?
def Sg(κ:Keyed->Int)(xs:Array Keyed)(lo n:Nat):Prop:=∀i j:Nat,lo<=i->i<=j->j<lo+n->kk κ xs i<=kk κ xs j
def Ni(κ:Keyed->Int)(xs:Array Keyed)(lo n:Nat):Prop:=∀i j:Nat,lo<=i->i<=j->j<lo+n->kk κ xs j<=kk κ xs i
structure SE (st0 st:SortSt) (lo n:Nat):Prop where
 kind:kindOf st=kindOf st0
 fail:failedOf st=failedOf st0
 pend:pendingOf st=pendingOf st0
 perm:(arrOf st).Perm (arrOf st0)
 out:Ou (arrOf st0) (arrOf st) lo n
section
variable {κ:Keyed->Int} {xs ys:Array Keyed} {i j lo n:Nat}
theorem R3{x:Keyed}(h:xs[i]? = some x):kk κ xs i=κ x:=by unfold kk;rw [h]
theorem JZ(h:xs[i]? = ys[j]?):kk κ xs i=kk κ ys j:=by unfold kk;rw [h]
theorem UO{src d:Nat}(hs:src<xs.size)(hd:d<=src)(k:Nat):kk κ (bubble xs src d) k=if k=src - d then kk κ xs src else if src - d<k/\k<=src then kk κ xs (k - 1) else kk κ xs k:=by
 have e:=getElem?_bubble hs d hd k
 split
 . rw [AD (by assumption)] at e;exact JZ e
 . rw [AA (by assumption)] at e
   split
   . rw [AD (by assumption)] at e;exact JZ e
   . rw [AA (by assumption)] at e;exact JZ e
theorem GL(hj:j<=xs.size)(k:Nat):kk κ (mirror xs i j ((j - i) / 2)) k=if i<=k/\k<j then kk κ xs (i+j - 1 - k) else kk κ xs k:=by
 have e:=getElem?_mirror_all (i:=i) hj k
 split
 . rw [AD (by assumption)] at e;exact JZ e
 . rw [AA (by assumption)] at e;exact JZ e
theorem FL(hj:j<=xs.size)(he:∀k,i<=k->k<j->kk κ xs k=kk κ xs (j - 1))(k:Nat):kk κ (mirror xs i j ((j - i) / 2)) k=kk κ xs k:=by
 rw [GL hj]
 split
 . rw [he _ (by omega) (by omega),he k (by omega) (by omega)]
 . rfl
theorem GJ(hj:j<=xs.size)(h1:lo<=i)(h2:j<=lo+n):Ou xs (mirror xs i j ((j - i) / 2)) lo n:=fun k hk=>by
 rw [getElem?_mirror_all hj,AA (by omega)]
theorem fH{src d:Nat}(hs:src<xs.size)(hd:d<=src)(h1:lo<=src - d)(h2:src<lo+n):Ou xs (bubble xs src d) lo n:=fun k hk=>by
 rw [getElem?_bubble hs d hd,AA (by omega),AA (by omega)]
theorem SE.rfl'{st:SortSt}:SE st st lo n:=⟨rfl,rfl,rfl,LM _,fun _ _=>rfl⟩
theorem SE.set{st0 st:SortSt}(h:SE st0 st lo n)(hp:xs.Perm (arrOf st))(ho:Ou (arrOf st) xs lo n):SE st0 (setArr st xs) lo n:=⟨h.kind,h.fail,h.pend,hp.trans h.perm,fun k hk=>(ho k hk).trans (h.out k hk)⟩
theorem SE.size{st0 st:SortSt}(h:SE st0 st lo n):(arrOf st).size=(arrOf st0).size:=h.perm.size_eq
end
section
variable {prog:Program} {w:World} {A:Around} {E:Value->Shared->Prop} {s:Shared} {kd:SortKind} {D:Keyed->Prop} {κ:Keyed->Int} {st0:SortSt}
theorem SE.dom{st:SortSt}{lo n:Nat}(h:SE st0 st lo n)(hD:∀x ∈ (arrOf st0).toList,D x){i:Nat}(hi:i<(arrOf st0).size):∃x,(arrOf st)[i]? = some x/\D x:=by
 have hi':i<(arrOf st).size:=by rw [h.size];exact hi
 exact ⟨_,BS _ i hi',hD _ ((EM.mp h.perm).mem_iff.mp (by simp))⟩
theorem LU(H:OL prog w A E s kd D κ){st:SortSt}{lo n i j:Nat}{Q:Option Bool->SortSt->Prop}(h:SE st0 st lo n)(hk:kindOf st0=kd)(hD:∀x ∈ (arrOf st0).toList,D x)(hi:i<(arrOf st0).size)(hj:j<(arrOf st0).size)(q:Q (some (decide (kk κ (arrOf st) i<kk κ (arrOf st) j))) st):wpS (model prog w) A E s (ltAt' i j) Q st:=by
 obtain ⟨x,ex,dx⟩:=h.dom hD hi;obtain ⟨y,ey,dy⟩:=h.dom hD hj;rw [R3 ex,R3 ey] at q
 rw [ltAt'_eq];exact A7 (JI (A7 (B8 ex (A7 (B8 ey (H _ _ _ _ (h.kind.trans hk) dx dy q))))))
theorem cK (H : OL prog w A E s kd D κ) {st : SortSt} {lo n ok : Nat} {Q : Bool -> SortSt -> Prop} (hk : kindOf st0 = kd) (hD : ∀ x ∈ (arrOf st0).toList, D x) (hn : lo + n <= (arrOf st0).size) (hok : ok <= n) (hS : SE st0 st lo n) (hs : Sg κ (arrOf st) lo ok)
 (q:∀st',SE st0 st' lo n->Sg κ (arrOf st') lo n->Q true st'):wpS (model prog w) A E s (binarySort' lo n ok) Q st:=by
 refine A7 (ES (D7 (I:=fun k c st'=>c=(none,())/\SE st0 st' lo n/\Sg κ (arrOf st') lo (min k n))
  (Q:=fun c st'=>c=(none,())/\SE st0 st' lo n/\Sg κ (arrOf st') lo n) ?s1 ?f1 ?i1) ?p1)
 case p1=>
  rintro c st' ⟨rfl,h1,h2⟩;exact A9 (q st' h1 h2)
 case i1=>
  refine ⟨rfl,hS,fun i j h1 h2 h3=> ?_⟩
  by_cases h0:ok=0
  . have:i=j:=by omega
    subst this;exact FS _
  . exact hs i j h1 h2 (by omega)
 case f1=>
  rintro c st' ⟨hc,h1,h2⟩;refine ⟨hc,h1,?_⟩
  rwa [show min (max (max ok 1) n) n=n by omega] at h2
 case s1=>
  rintro k c st1 hk1 hkn ⟨rfl,h1,h2⟩;rw [show min k n=k by omega] at h2
  dsimp only
  refine A7 (ES (D7 (I := fun x c st' => st' = st1 /\ ∃ l r, c = (none, l, r) /\ l <= r /\ r <= k /\ r - l <= k - x /\
   (∀i,lo<=i->i<lo+l->kk κ (arrOf st1) i<=kk κ (arrOf st1) (lo+k))/\(∀i,lo+r<=i->i<lo+k->kk κ (arrOf st1) (lo+k)<kk κ (arrOf st1) i))
   (Q:=fun c st'=>st'=st1/\∃l,c=(none,l,l)/\l<=k /\
    (∀i,lo<=i->i<lo+l->kk κ (arrOf st1) i<=kk κ (arrOf st1) (lo+k))/\(∀i,lo+l<=i->i<lo+k->kk κ (arrOf st1) (lo+k)<kk κ (arrOf st1) i)) ?s2 ?f2 ?i2) ?p2)
  case i2=>exact ⟨rfl,0,k,rfl,by omega,by omega,by omega,fun i _ hi=>by omega,fun i h1 h2=>by omega⟩
  case f2=>
   rintro c st' ⟨rfl,l,r,rfl,g1,g2,g3,g4,g5⟩;have:l=r:=by omega
   subst this;exact ⟨rfl,l,rfl,g2,g4,g5⟩
  case s2=>
   rintro x c st' _ hx ⟨rfl,l,r,rfl,g1,g2,g3,g4,g5⟩
   dsimp only
   by_cases hge:l≥r
   . rw [AD hge];have:l=r:=by omega
     subst this;exact A9 ⟨rfl,l,rfl,g2,g4,g5⟩
   . rw [AA hge];refine A7 (LU H h1 hk hD (by omega) (by omega) ?_)
     by_cases hlt:kk κ (arrOf st') (lo+k)<kk κ (arrOf st') (lo+(l+r) / 2)
     . rw [AR hlt]
       dsimp only
       rw [AD rfl];refine A9 ⟨rfl,l,(l+r) / 2,rfl,by omega,by omega,by omega,g4,fun i h6 h7=> ?_⟩;have:=h2 (lo+(l+r) / 2) i (by omega) h6 h7;omega
     . rw [AZ hlt]
       dsimp only
       rw [AA (by simp)];refine A9 ⟨rfl,(l+r) / 2+1,r,rfl,by omega,by omega,by omega,fun i h6 h7=> ?_,g5⟩;have:=h2 i (lo+(l+r) / 2) h6 (by omega) (by omega);omega
  case p2=>
   rintro c st' ⟨rfl,l,rfl,g2,g4,g5⟩
   dsimp only
   have hsz:lo+k<(arrOf st').size:=by rw [h1.size];omega
   refine A7 (m:=moveDown' (lo+k) (lo+l)) ?_;rw [moveDown'_eq];refine FT (A9 ⟨rfl,h1.set (bubble_perm _ _ _) (fH hsz (by omega) (by omega) (by omega)),?_⟩);rw [show min (k+1) n=k+1 by omega];intro i j h6 h7 h8;show kk κ (bubble (arrOf st') (lo+k) (lo+k - (lo+l))) i<=kk κ (bubble (arrOf st') (lo+k) (lo+k - (lo+l))) j;rw [UO hsz (by omega),UO hsz (by omega),show lo+k - (lo+k - (lo+l))=lo+l by omega]
   repeat' split
   all_goals first
    | (exfalso;omega)
    | exact FS _
    | exact g4 _ (by omega) (by omega)
    | exact DK (g5 _ (by omega) (by omega))
    | exact h2 _ _ (by omega) (by omega) (by omega)
end
end Ts
namespace Ts
open PySem PyProof.Rows
section
variable {prog:Program} {w:World} {A:Around} {E:Value->Shared->Prop} {s:Shared} {kd:SortKind} {D:Keyed->Prop} {κ:Keyed->Int} {st0:SortSt}
theorem OP (H : OL prog w A E s kd D κ) {st : SortSt} {lo nrem a : Nat} (hk : kindOf st0 = kd) (hD : ∀ x ∈ (arrOf st0).toList, D x) (hn : lo + nrem <= (arrOf st0).size) (h1 : 1 <= a) (h2 : a <= nrem) (hS : SE st0 st lo nrem) (hs : Sg κ (arrOf st) lo a) :
 wpS (model prog w) A E s (forIn [a:nrem] ((none,a):Option (Option Nat)×Nat) fun _ c=>do
  let o <-ltAt' (lo+c.2) (lo+c.2 - 1)
  match o with
  | some b=>if b=true then pure (ForInStep.done (none,c.2)) else pure (ForInStep.yield (none,c.2+1))
  | _=>pure (ForInStep.done (some none,c.2))) (fun c st'=>st'=st/\∃n,c=(none,n)/\a<=n/\n<=nrem/\Sg κ (arrOf st) lo n/\(n=nrem\/kk κ (arrOf st) (lo+n)<kk κ (arrOf st) (lo+n - 1))) st:=by
 refine D7 (I:=fun y c st'=>st'=st/\c=(none,y)/\Sg κ (arrOf st) lo y) ?s1 ?f1 ⟨rfl,rfl,hs⟩
 case f1=>
  rintro c st' ⟨rfl,rfl,g⟩;rw [show max a nrem=nrem by omega] at g ⊢
  exact ⟨rfl,nrem,rfl,h2,AF _,g, .inl rfl⟩
 case s1=>
  rintro x c st' hx1 hx2 ⟨rfl,rfl,g⟩
  dsimp only
  refine A7 (LU H hS hk hD (by omega) (by omega) ?_)
  by_cases hlt:kk κ (arrOf st') (lo+x)<kk κ (arrOf st') (lo+x - 1)
  . rw [AR hlt]
    dsimp only
    rw [AD rfl];exact A9 ⟨rfl,x,rfl,hx1,by omega,g, .inr hlt⟩
  . rw [AZ hlt]
    dsimp only
    rw [AA (by simp)];refine A9 ⟨rfl,rfl,fun i j h3 h4 h5=> ?_⟩
    by_cases hj:j<lo+x
    . exact g i j h3 h4 hj
    . have hj':j=lo+x:=by omega
      subst hj'
      by_cases hi':i=lo+x
      . subst hi';exact FS _
      . have:=g i (lo+x - 1) h3 (by omega) (by omega);omega
theorem bT (H : OL prog w A E s kd D κ) {st : SortSt} {lo nrem : Nat} {Q : Option Nat -> SortSt -> Prop} (hk : kindOf st0 = kd) (hD : ∀ x ∈ (arrOf st0).toList, D x) (hn : lo + nrem <= (arrOf st0).size) (h1 : 1 <= nrem) (hS : SE st0 st lo nrem)
 (q:∀m st',SE st0 st' lo nrem->1<=m->m<=nrem->Sg κ (arrOf st') lo m->Q (some m) st'):wpS (model prog w) A E s (countRun' lo nrem) Q st:=by
 refine A7 (ES (OP H hk hD hn (AF 1) h1 hS (fun i j g1 g2 g3=>by have:i=j:=(by omega);subst this;exact FS _)) ?p1);rintro c st' ⟨rfl,n,rfl,n1,n2,hG0,hor⟩
 dsimp only
 by_cases e1:n=nrem
 . rw [AD (by simpa using e1)];exact A9 (q n st' hS n1 n2 hG0)
 rw [AA (by simpa using e1)];have hlt:kk κ (arrOf st') (lo+n)<kk κ (arrOf st') (lo+n - 1):=hor.resolve_left e1
 by_cases e2:n>1
 . rw [AD     e2];refine A7 (LU H hS hk hD (by omega) (by omega) ?_)
   by_cases hr:kk κ (arrOf st') lo<kk κ (arrOf st') (lo+n - 1)
   . rw [AR hr]
     dsimp only
     rw [AD rfl];exact A9 (q n st' hS n1 n2 hG0)
   . rw [AZ hr]
     dsimp only
     rw [AA (by simp)];have hzz:lo+n<=(arrOf st').size:=by rw [hS.size];omega
     have hall:∀k,lo<=k->k<lo+n->kk κ (arrOf st') k=kk κ (arrOf st') (lo+n - 1):=fun k h3 h4=>by
      have a1:=hG0 lo k (by omega) h3 h4;have a2:=hG0 k (lo+n - 1) h3 (by omega) (by omega);omega
     refine A7 (K9 ?_);have hS2:=hS.set (KA (arrOf st') lo (lo+n) ((lo+n - lo) / 2)) (GJ hzz (AF _) (by omega))
     have hN:Ni κ (arrOf (setArr st' (mirror (arrOf st') lo (lo+n) ((lo+n - lo) / 2)))) lo (n+1):=fun i j h3 h4 h5=>by
      show kk κ (mirror (arrOf st') _ _ _) j<=kk κ (mirror (arrOf st') _ _ _) i;rw [FL hzz hall,FL hzz hall]
      by_cases hj:j<lo+n
      . rw [hall i h3 (by omega),hall j (by omega) hj];exact FS _
      . have hj':j=lo+n:=by omega
        subst hj'
        by_cases hi':i=lo+n
        . subst hi';exact FS _
        . rw [hall i h3 (by omega)];omega
     clear hall hlt hr hG0 hor hzz;generalize setArr st' (mirror (arrOf st') lo (lo+n) ((lo+n - lo) / 2))=st2 at hS2 hN ⊢
     refine A7 (TN (KC ⟨rfl,?_⟩))
     refine A7 (ES (D7 (I:=fun x c st'=>∃nq,c=(none,x,nq)/\SE st0 st' lo nrem/\Ni κ (arrOf st') lo x/\nq+1<=x/\(∀i,lo+x - (nq+1)<=i->i<lo+x->kk κ (arrOf st') i=kk κ (arrOf st') (lo+x - 1)))
      (Q:=fun c st'=>∃m nq,c=(none,m,nq)/\SE st0 st' lo nrem/\1<=m/\m<=nrem/\Ni κ (arrOf st') lo m/\nq+1<=m/\(∀i,lo+m - (nq+1)<=i->i<lo+m->kk κ (arrOf st') i=kk κ (arrOf st') (lo+m - 1))) ?s2 ?f2 ?i2) ?p2)
     case i2=>exact ⟨0,rfl,hS2,hN,by omega,fun i h1 h2=>by congr 1;omega⟩
     case f2=>
      rintro c st' ⟨nq,rfl,g1,g2,g3,g4⟩;rw [show max (n+1) nrem=nrem by omega] at g2 g3 g4 ⊢
      exact ⟨nrem,nq,rfl,g1,h1,AF _,g2,g3,g4⟩
     case s2=>
      rintro x c st' hx1 hx2 ⟨nq,rfl,g1,g2,g3,g4⟩
      dsimp only
      have hz:lo+x<=(arrOf st').size:=by rw [g1.size];omega
      refine A7 (LU H g1 hk hD (by omega) (by omega) ?_)
      by_cases hlt:kk κ (arrOf st') (lo+x)<kk κ (arrOf st') (lo+x - 1)
      . rw [AR hlt]
        dsimp only
        rw [AD rfl]
        have step:∀xs:Array Keyed,(∀k,kk κ xs k=kk κ (arrOf st') k)->Ni κ xs lo (x+1):=by
         intro xs hxs i j h1 h2 h3;rw [hxs,hxs]
         by_cases hj:j<lo+x
         . exact g2 i j h1 h2 hj
         . have hj':j=lo+x:=by omega
           subst hj'
           by_cases hi':i=lo+x
           . subst hi';exact FS _
           . have:=g2 i (lo+x - 1) h1 (by omega) (by omega);omega
        by_cases hq:nq>0
        . rw [AD hq];refine A7 (K9 (A9 ⟨0,rfl,g1.set (KA _ _ _ _) (GJ hz (by omega) (by omega)),step _ (FL hz g4),by omega,fun i h1 h2=>by congr 1;omega⟩))
        . rw [AA hq];exact A9 ⟨0,rfl,g1,step _ (fun _=>rfl),by omega,fun i h1 h2=>by congr 1;omega⟩
      . rw [AZ hlt]
        dsimp only
        rw [AA (by simp)];refine A7 (LU H g1 hk hD (by omega) (by omega) ?_)
        by_cases hgt:kk κ (arrOf st') (lo+x - 1)<kk κ (arrOf st') (lo+x)
        . rw [AR hgt]
          dsimp only
          rw [AD rfl];exact A9 ⟨x,nq,rfl,g1,by omega,by omega,g2,g3,g4⟩
        . rw [AZ hgt]
          dsimp only
          rw [AA (by simp)];have he:kk κ (arrOf st') (lo+x)=kk κ (arrOf st') (lo+x - 1):=by omega
          refine A9 ⟨nq+1,rfl,g1,fun i j h1 h2 h3=> ?_,by omega,fun i h1 h2=> ?_⟩
          . by_cases hj:j<lo+x
            . exact g2 i j h1 h2 hj
            . have hj':j=lo+x:=by omega
              subst hj'
              by_cases hi':i=lo+x
              . subst hi';exact FS _
              . rw [he];exact g2 i (lo+x - 1) h1 (by omega) (by omega)
          . rw [show lo+(x+1) - 1=lo+x by omega]
            by_cases hi':i=lo+x
            . subst hi';rfl
            . rw [he];exact g4 i (by omega) (by omega)
     case p2=>
      rintro c st3 ⟨m,nq,rfl,hS3,m1,m2,hN3,m4,m5⟩
      dsimp only
      have hz0:lo+m<=(arrOf st3).size:=by rw [hS3.size];omega
      by_cases hq:nq>0
      . rw [AD hq];refine A7 (K9 ?_)
        replace hS3:=hS3.set (KA (arrOf st3) (lo+m - (nq+1)) (lo+m) ((lo+m - (lo+m - (nq+1))) / 2)) (GJ hz0 (by omega) (by omega))
        replace hN3:Ni κ (arrOf (setArr st3 (mirror (arrOf st3) (lo+m - (nq+1)) (lo+m) ((lo+m - (lo+m - (nq+1))) / 2)))) lo m:=fun i j h1 h2 h3=>by
         show kk κ (mirror (arrOf st3) _ _ _) j<=kk κ (mirror (arrOf st3) _ _ _) i;rw [FL hz0 m5,FL hz0 m5];exact hN3 i j h1 h2 h3
        clear hz0 m5;generalize setArr st3 (mirror (arrOf st3) (lo+m - (nq+1)) (lo+m) ((lo+m - (lo+m - (nq+1))) / 2))=st5 at hS3 hN3 ⊢
        have hz3:lo+m<=(arrOf st5).size:=by rw [hS3.size];omega
        refine A7 (K9 ?_);have hS4:=hS3.set (KA (arrOf st5) lo (lo+m) ((lo+m - lo) / 2)) (GJ hz3 (AF _) (by omega))
        have hG:Sg κ (mirror (arrOf st5) lo (lo+m) ((lo+m - lo) / 2)) lo m:=fun i j h1 h2 h3=>by
         rw [GL hz3,GL hz3,AD (by omega),AD (by omega)];exact hN3 _ _ (by omega) (by omega) (by omega)
        exact A7 (ES (OP H hk hD hn (by omega) (by omega) hS4 hG) fun c st' hc=>by
         obtain ⟨rfl,n',rfl,g1,g2,g3,_⟩:=hc;exact A9 (q n' _ hS4 (by omega) g2 g3))
      . rw [AA hq];have hz3:lo+m<=(arrOf st3).size:=by rw [hS3.size];omega
        refine A7 (K9 ?_);have hS4:=hS3.set (KA (arrOf st3) lo (lo+m) ((lo+m - lo) / 2)) (GJ hz3 (AF _) (by omega))
        have hG:Sg κ (mirror (arrOf st3) lo (lo+m) ((lo+m - lo) / 2)) lo m:=fun i j h1 h2 h3=>by
         rw [GL hz3,GL hz3,AD (by omega),AD (by omega)];exact hN3 _ _ (by omega) (by omega) (by omega)
        exact A7 (ES (OP H hk hD hn (by omega) (by omega) hS4 hG) fun c st' hc=>by
         obtain ⟨rfl,n',rfl,g1,g2,g3,_⟩:=hc;exact A9 (q n' _ hS4 (by omega) g2 g3))
 . rw [AA e2];have hn1:n=1:=by omega
   have hS2:=hS
   have hN:Ni κ (arrOf st') lo (n+1):=fun i j h3 h4 h5=>by
    by_cases hi':i=j
    . subst hi';exact FS _
    . have hi0:i=lo:=by omega
      have hj1:j=lo+1:=by omega
      subst hi0;subst hj1;subst hn1;have:i+1 - 1=i:=by omega
      rw [this] at hlt
      omega
   clear hlt hG0 hor;refine A7 (TN (KC ⟨rfl,?_⟩))
   refine A7 (ES (D7 (I:=fun x c st'=>∃nq,c=(none,x,nq)/\SE st0 st' lo nrem/\Ni κ (arrOf st') lo x/\nq+1<=x/\(∀i,lo+x - (nq+1)<=i->i<lo+x->kk κ (arrOf st') i=kk κ (arrOf st') (lo+x - 1)))
    (Q:=fun c st'=>∃m nq,c=(none,m,nq)/\SE st0 st' lo nrem/\1<=m/\m<=nrem/\Ni κ (arrOf st') lo m/\nq+1<=m/\(∀i,lo+m - (nq+1)<=i->i<lo+m->kk κ (arrOf st') i=kk κ (arrOf st') (lo+m - 1))) ?s2 ?f2 ?i2) ?p2)
   case i2=>exact ⟨0,rfl,hS2,hN,by omega,fun i h1 h2=>by congr 1;omega⟩
   case f2=>
    rintro c st' ⟨nq,rfl,g1,g2,g3,g4⟩;rw [show max (n+1) nrem=nrem by omega] at g2 g3 g4 ⊢
    exact ⟨nrem,nq,rfl,g1,h1,AF _,g2,g3,g4⟩
   case s2=>
    rintro x c st' hx1 hx2 ⟨nq,rfl,g1,g2,g3,g4⟩
    dsimp only
    have hz:lo+x<=(arrOf st').size:=by rw [g1.size];omega
    refine A7 (LU H g1 hk hD (by omega) (by omega) ?_)
    by_cases hlt:kk κ (arrOf st') (lo+x)<kk κ (arrOf st') (lo+x - 1)
    . rw [AR hlt]
      dsimp only
      rw [AD rfl]
      have step:∀xs:Array Keyed,(∀k,kk κ xs k=kk κ (arrOf st') k)->Ni κ xs lo (x+1):=by
       intro xs hxs i j h1 h2 h3;rw [hxs,hxs]
       by_cases hj:j<lo+x
       . exact g2 i j h1 h2 hj
       . have hj':j=lo+x:=by omega
         subst hj'
         by_cases hi':i=lo+x
         . subst hi';exact FS _
         . have:=g2 i (lo+x - 1) h1 (by omega) (by omega);omega
      by_cases hq:nq>0
      . rw [AD hq];refine A7 (K9 (A9 ⟨0,rfl,g1.set (KA _ _ _ _) (GJ hz (by omega) (by omega)),step _ (FL hz g4),by omega,fun i h1 h2=>by congr 1;omega⟩))
      . rw [AA hq];exact A9 ⟨0,rfl,g1,step _ (fun _=>rfl),by omega,fun i h1 h2=>by congr 1;omega⟩
    . rw [AZ hlt]
      dsimp only
      rw [AA (by simp)];refine A7 (LU H g1 hk hD (by omega) (by omega) ?_)
      by_cases hgt:kk κ (arrOf st') (lo+x - 1)<kk κ (arrOf st') (lo+x)
      . rw [AR hgt]
        dsimp only
        rw [AD rfl];exact A9 ⟨x,nq,rfl,g1,by omega,by omega,g2,g3,g4⟩
      . rw [AZ hgt]
        dsimp only
        rw [AA (by simp)];have he:kk κ (arrOf st') (lo+x)=kk κ (arrOf st') (lo+x - 1):=by omega
        refine A9 ⟨nq+1,rfl,g1,fun i j h1 h2 h3=> ?_,by omega,fun i h1 h2=> ?_⟩
        . by_cases hj:j<lo+x
          . exact g2 i j h1 h2 hj
          . have hj':j=lo+x:=by omega
            subst hj'
            by_cases hi':i=lo+x
            . subst hi';exact FS _
            . rw [he];exact g2 i (lo+x - 1) h1 (by omega) (by omega)
        . rw [show lo+(x+1) - 1=lo+x by omega]
          by_cases hi':i=lo+x
          . subst hi';rfl
          . rw [he];exact g4 i (by omega) (by omega)
   case p2=>
    rintro c st3 ⟨m,nq,rfl,hS3,m1,m2,hN3,m4,m5⟩
    dsimp only
    have hz0:lo+m<=(arrOf st3).size:=by rw [hS3.size];omega
    by_cases hq:nq>0
    . rw [AD hq];refine A7 (K9 ?_)
      replace hS3:=hS3.set (KA (arrOf st3) (lo+m - (nq+1)) (lo+m) ((lo+m - (lo+m - (nq+1))) / 2)) (GJ hz0 (by omega) (by omega))
      replace hN3:Ni κ (arrOf (setArr st3 (mirror (arrOf st3) (lo+m - (nq+1)) (lo+m) ((lo+m - (lo+m - (nq+1))) / 2)))) lo m:=fun i j h1 h2 h3=>by
       show kk κ (mirror (arrOf st3) _ _ _) j<=kk κ (mirror (arrOf st3) _ _ _) i;rw [FL hz0 m5,FL hz0 m5];exact hN3 i j h1 h2 h3
      clear hz0 m5;generalize setArr st3 (mirror (arrOf st3) (lo+m - (nq+1)) (lo+m) ((lo+m - (lo+m - (nq+1))) / 2))=st5 at hS3 hN3 ⊢
      have hz3:lo+m<=(arrOf st5).size:=by rw [hS3.size];omega
      refine A7 (K9 ?_);have hS4:=hS3.set (KA (arrOf st5) lo (lo+m) ((lo+m - lo) / 2)) (GJ hz3 (AF _) (by omega))
      have hG:Sg κ (mirror (arrOf st5) lo (lo+m) ((lo+m - lo) / 2)) lo m:=fun i j h1 h2 h3=>by
       rw [GL hz3,GL hz3,AD (by omega),AD (by omega)];exact hN3 _ _ (by omega) (by omega) (by omega)
      exact A7 (ES (OP H hk hD hn (by omega) (by omega) hS4 hG) fun c st' hc=>by
       obtain ⟨rfl,n',rfl,g1,g2,g3,_⟩:=hc;exact A9 (q n' _ hS4 (by omega) g2 g3))
    . rw [AA hq];have hz3:lo+m<=(arrOf st3).size:=by rw [hS3.size];omega
      refine A7 (K9 ?_);have hS4:=hS3.set (KA (arrOf st3) lo (lo+m) ((lo+m - lo) / 2)) (GJ hz3 (AF _) (by omega))
      have hG:Sg κ (mirror (arrOf st3) lo (lo+m) ((lo+m - lo) / 2)) lo m:=fun i j h1 h2 h3=>by
       rw [GL hz3,GL hz3,AD (by omega),AD (by omega)];exact hN3 _ _ (by omega) (by omega) (by omega)
      exact A7 (ES (OP H hk hD hn (by omega) (by omega) hS4 hG) fun c st' hc=>by
       obtain ⟨rfl,n',rfl,g1,g2,g3,_⟩:=hc;exact A9 (q n' _ hS4 (by omega) g2 g3))
end
end Ts
namespace Ts
open PySem PyProof.Rows
theorem Z0(sa:Nat):∀(l:List Keyed) (k:Nat) (arr:Array Keyed),sa+k+l.length<=arr.size->((l.zipIdx k).foldl (fun a x=>a.setIfInBounds (sa+x.2) x.1) arr).toList=arr.toList.take (sa+k)++l++arr.toList.drop (sa+k+l.length)
 | [],k,arr,h=>by simp
 | p::l,k,arr,h=>by
  have hl:sa+k<arr.toList.length:=by rw [BJ];simp only [B7] at h;omega
  rw [Z3,QE,Z0 sa l (k+1) _ (by simp only [B7] at h;simp;omega)]
  dsimp only
  rw [Array.toList_setIfInBounds,B7]
  have e1:(arr.toList.set (sa+k) p).take (sa+(k+1))=arr.toList.take (sa+k) ++ [p]:=by
   rw [List.set_eq_take_append_cons_drop,AD hl, <-IZ,List.take_append,F0,QG (by omega),show sa+k+1 - (sa+k)=1 by omega,BX (by simp;omega)];rfl
  have e2:(arr.toList.set (sa+k) p).drop (sa+(k+1)+l.length)=arr.toList.drop (sa+k+(l.length+1)):=by
   rw [List.drop_set_of_lt (by omega)];congr 1
   omega
  rw [e1,e2];simp
section
variable {κ:Keyed->Int} {arr:Array Keyed} {i j lo n m:Nat}
theorem LF(h:Sg κ arr lo n){x y:Keyed}(h1:lo<=i)(h2:i<=j)(h3:j<lo+n)(hx:arr[i]? = some x)(hy:arr[j]? = some y):κ x<=κ y:=by
 have:=h i j h1 h2 h3
 rwa [R3 hx,R3 hy] at this
theorem W2{l:List Keyed}(h:∀(i j:Nat) x y,i<=j->l[i]? = some x->l[j]? = some y->κ x<=κ y):Srt κ l:=by
 refine nS.mpr fun i j hi hj hij=>h i j _ _ (by omega) (AB hi) (AB hj)
theorem JN{x:Keyed}{l:List Keyed}(h:((l.drop i).take m)[j]? = some x):j<m/\l[i+j]? = some x:=by
 rw [JE] at h
 split at h
 . rw [JD] at h;exact ⟨by assumption,h⟩
 . cases h
theorem QZ(h:Sg κ arr lo n)(h1:lo<=i)(h2:i+m<=lo+n):Srt κ ((arr.toList.drop i).take m):=W2 fun a b x y hab hx hy=>by
 obtain ⟨a1,a2⟩:=JN hx;obtain ⟨b1,b2⟩:=JN hy;rw [AJ] at a2 b2
 exact LF h (by omega) (by omega) (by omega) a2 b2
theorem qX(h:Sg κ arr 0 arr.size):Srt κ arr.toList:=W2 fun a b x y hab hx hy=>by
 rw [AJ] at hx hy
 exact LF h (by omega) hab (by have:=(EL.mp hy).1;omega) hx hy
end
theorem qT{M:Model}{A:Around}{E:Value->Shared->Prop}{s:Shared}{σ:Type}{t:σ}{Q:PUnit->σ->Prop}{st:σ}(h:Q ⟨⟩ t):wpS M A E s (set t:StateT σ Sem PUnit) Q st:=by
 unfold wpS;rw [StateT.run_set];exact wpAny_pure ⟨rfl,h⟩
section
variable {prog:Program} {w:World} {A:Around} {E:Value->Shared->Prop} {s:Shared} {kd:SortKind} {D:Keyed->Prop} {κ:Keyed->Int}
theorem sC (H : OL prog w A E s kd D κ) {st : SortSt} {n1 n2 p : Nat} {Q : Bool -> SortSt -> Prop} (hk : kindOf st = kd) (hD : ∀ x ∈ (arrOf st).toList, D x) (hp : pendingOf st = #[(0, n1, p), (n1, n2, 0)]) (h1 : 1 <= n1) (h2 : 1 <= n2) (hz : n1 + n2 = (arrOf st).size) (hf : failedOf st = none)
 (g1:Sg κ (arrOf st) 0 n1) (g2:Sg κ (arrOf st) n1 n2) (q:∀st',failedOf st'=none->pendingOf st' = #[(0,n1+n2,p)]->(arrOf st').Perm (arrOf st)->Srt κ (arrOf st').toList->Q true st'):wpS (model prog w) A E s (mergeAt' 0) Q st:=by
 obtain ⟨kd',arr,pend,g,fl⟩:=st
 replace hp:pend=_:=hp
 replace hf:fl=none:=hf
 replace hD:∀x ∈ arr.toList,D x:=hD
 replace hz:n1+n2=arr.size:=hz
 replace g1:Sg κ arr 0 n1:=g1
 replace g2:Sg κ arr n1 n2:=g2
 replace q:∀st',failedOf st'=none->pendingOf st' = #[(0,n1+n2,p)]->(arrOf st').Perm arr->Srt κ (arrOf st').toList->Q true st':=q
 subst hp hf;have hd:∀(i:Nat) x,arr[i]? = some x->D x:=fun i x hx=>hD x (by rw [<-AJ] at hx;exact BB hx)
 have hpd:(#[(0,n1,p),(n1,n2,0)].setIfInBounds 0 (0,n1+n2,p)).eraseIdxIfInBounds (0+1) = #[(0,n1+n2,p)]:=by
  simp [Array.eraseIdxIfInBounds]
 refine A7 (JI ?_);refine A7 (qT ?_);obtain ⟨b0,eb0⟩:∃x,arr[n1]? = some x:=⟨_,BS arr n1 (by omega)⟩;obtain ⟨al,eal⟩:∃x,arr[n1 - 1]? = some x:=⟨_,BS arr (n1 - 1) (by omega)⟩;refine A7 (B8 eb0 ?_);refine A7 (LI H hk (hd _ _ eb0) (by omega) (show 0+n1<=arr.size by omega) hd (fun i j x y a1 a2 a3 hx hy=>LF g1 a1 a2 a3 hx hy) fun k k1 k2 k3=> ?_)
 dsimp only
 by_cases e1:n1 - k=0
 . rw [AD (by simpa using e1)];refine A9 (q _ rfl hpd (LM _) (W2 fun i j x y hij hx hy=> ?_));rw [AJ] at hx hy
   have hjz:=(EL.mp hy).1
   replace hx:arr[i]? = some x:=hx
   replace hy:arr[j]? = some y:=hy
   replace hjz:j<arr.size:=hjz
   by_cases c1:j<n1
   . exact LF g1 (by omega) hij (by omega) hx hy
   . by_cases c2:n1<=i
     . exact LF g2 c2 hij (by omega) hx hy
     . have a1:=k2 i (by omega) x (by rw [BT];exact hx);have a2:=LF g2 (AF _) (by omega) (by omega) eb0 hy;omega
 rw [AA (by simpa using e1)];refine A7 (B8 (p:=al) (by rw [show 0+k+(n1 - k) - 1=n1 - 1 by omega];exact eal) ?_);refine A7 (HZ H hk (hd _ _ eal) (by omega) (show n1+n2<=arr.size by omega) hd (fun i j x y a1 a2 a3 hx hy=>LF g2 a1 a2 a3 hx hy) fun m m1 m2 m3=> ?_)
 dsimp only
 have T1:∀(i j:Nat) x y,i<k->n1<=j->j<arr.size->arr[i]? = some x->arr[j]? = some y->κ x<=κ y:=fun i j x y c1 c2 c3 hx hy=>by
  have a1:=k2 i c1 x (by rw [BT];exact hx);have a2:=LF g2 (AF _) c2 (by omega) eb0 hy;omega
 have T2:∀(i j:Nat) x y,i<n1->n1+m<=j->j<arr.size->arr[i]? = some x->arr[j]? = some y->κ x<=κ y:=fun i j x y c1 c2 c3 hx hy=>by
  have a1:=LF g1 (CJ _) (show i<=n1 - 1 by omega) (by omega) hx eal;have a2:=m3 (j - n1) (by omega) (by omega) y (by rw [show n1+(j - n1)=j by omega];exact hy);omega
 by_cases e2:m=0
 . rw [AD (by simpa using e2)];refine A9 (q _ rfl hpd (LM _) (W2 fun i j x y hij hx hy=> ?_));rw [AJ] at hx hy
   have hjz:=(EL.mp hy).1
   replace hx:arr[i]? = some x:=hx
   replace hy:arr[j]? = some y:=hy
   replace hjz:j<arr.size:=hjz
   by_cases c1:j<n1
   . exact LF g1 (by omega) hij (by omega) hx hy
   . by_cases c2:n1<=i
     . exact LF g2 c2 hij (by omega) hx hy
     . exact T2 i j x y (by omega) (by omega) hjz hx hy
 rw [AA (by simpa using e2)]
 have dxs:∀(i:Nat) x,(arr.extract (0+k) n1)[i]? = some x->D x:=fun i x hx=>by
  rw [<-AJ,EZ] at hx
  obtain ⟨_,b2⟩:=JN hx;rw [AJ] at b2
  exact hd _ _ b2
 have dys:∀(i:Nat) x,(arr.extract n1 (n1+m))[i]? = some x->D x:=fun i x hx=>by
  rw [<-AJ,EZ] at hx
  obtain ⟨_,b2⟩:=JN hx;rw [AJ] at b2
  exact hd _ _ b2
 have zx:(arr.extract (0+k) n1).size=n1 - k:=by rw [A81];omega
 have zy:(arr.extract n1 (n1+m)).size=m:=by rw [A81];omega
 have sx:Srt κ (arr.extract (0+k) n1).toList:=by rw [EZ];exact QZ g1 (by omega) (by omega)
 have sy:Srt κ (arr.extract n1 (n1+m)).toList:=by rw [EZ];exact QZ g2 (by omega) (by omega)
 have mx:∀x ∈ (arr.extract (0+k) n1).toList,∃i,k<=i/\i<n1/\arr[i]? = some x:=fun x hx=>by
  rw [EZ] at hx
  obtain ⟨t,ht,e⟩:=GH hx;rw [AJ] at e
  exact ⟨0+k+t,by omega,by omega,e⟩
 have my:∀y ∈ (arr.extract n1 (n1+m)).toList,∃j,n1<=j/\j<n1+m/\arr[j]? = some y:=fun y hy=>by
  rw [EZ] at hy
  obtain ⟨t,ht,e⟩:=GH hy;rw [AJ] at e
  exact ⟨n1+t,by omega,by omega,e⟩
 have hl:∀x,(arr.extract (0+k) n1)[(arr.extract (0+k) n1).size - 1]? = some x->∀y ∈ (arr.extract n1 (n1+m)).toList,κ y<=κ x:=fun x hx y hy=>by
  rw [<-AJ,EZ,zx] at hx
  obtain ⟨_,b2⟩:=JN hx;rw [AJ,show 0+k+(n1 - k - 1)=n1 - 1 by omega,eal] at b2
  obtain ⟨j,j1,j2,ej⟩:=my y hy;have:=m2 (j - n1) (by omega) y (by rw [show n1+(j - n1)=j by omega];exact ej)
  cases b2
  omega
 have hf0:∀y,(arr.extract n1 (n1+m))[0]? = some y->∀x ∈ (arr.extract (0+k) n1).toList,κ y<=κ x:=fun y hy x hx=>by
  rw [<-AJ,EZ] at hy
  obtain ⟨_,b2⟩:=JN hy;rw [AJ,FB,eb0] at b2
  obtain ⟨i,i1,i2,ei⟩:=mx x hx;have:=k3 i (by omega) (by omega) x (by rw [BT];exact ei)
  cases b2
  omega
 have fin:∀r,Mr κ (arr.extract (0+k) n1) (arr.extract n1 (n1+m)) r->(List.foldl (fun a x=>a.setIfInBounds (0+k+x.2) x.1) arr r.toList.zipIdx).Perm arr/\Srt κ (List.foldl (fun a x=>a.setIfInBounds (0+k+x.2) x.1) arr r.toList.zipIdx).toList:=fun r hr=>by
  obtain ⟨p1,p2⟩:=hr
  have hlen:r.toList.length=n1 - k+m:=by
   have:=p1.length_eq;rw [BC,BJ,BJ,BJ,zx,zy] at this
   rw [BJ];exact this
  have e:=Z0 (0+k) r.toList 0 arr (by rw [hlen];omega);rw [hlen,show 0+k+0=k by omega,show k+(n1 - k+m)=n1+m by omega] at e
  have ed:arr.toList=arr.toList.take k++((arr.extract (0+k) n1).toList++(arr.extract n1 (n1+m)).toList)++arr.toList.drop (n1+m):=by
   rw [EZ,EZ,BT,show n1+m - n1=m by omega];have w1:=E8 k arr.toList;have w2:=E8 (n1 - k) (arr.toList.drop k);have w3:=E8 m (arr.toList.drop n1);rw [RC,show k+(n1 - k)=n1 by omega] at w2
   rw [RC] at w3
   rw [BU,BU,w3,w2,w1]
  constructor
  . refine EM.mpr ?_;rw [e]
    conv=>rhs;rw [ed]
    exact (p1.append_left _).append_right _
  . rw [e]
    have mr:∀z ∈ r.toList,(∃i,k<=i/\i<n1/\arr[i]? = some z)\/(∃j,n1<=j/\j<n1+m/\arr[j]? = some z):=fun z hz=>by
     rcases AV.mp (p1.mem_iff.mp hz) with hz | hz
     . exact .inl (mx z hz)
     . exact .inr (my z hz)
    have mt:∀z ∈ arr.toList.take k,∃i,i<k/\arr[i]? = some z:=fun z hz=>HP hz;have md:∀z ∈ arr.toList.drop (n1+m),∃t,arr[n1+m+t]? = some z/\n1+m+t<arr.size:=fun z hz=>LD hz
    have s1:Srt κ (arr.toList.take k):=by
     have:=QZ (i:=0) (m:=k) g1 (by omega) (by omega)
     rwa [AC3] at this
    have s3:Srt κ (arr.toList.drop (n1+m)):=by
     have:=QZ (i:=n1+m) (m:=n2 - m) g2 (by omega) (by omega)
     rwa [BX (by rw [AA7,BJ];omega)] at this
    refine Srt.app (Srt.app s1 p2 fun x hx z hz=> ?_) s3 fun x hx y hy=> ?_
    . obtain ⟨i,i1,ei⟩:=mt x hx;rcases mr z hz with ⟨j,j1,j2,ej⟩ | ⟨j,j1,j2,ej⟩
      . exact LF g1 (by omega) (by omega) (by omega) ei ej
      . exact T1 i j x z i1 j1 (by omega) ei ej
    . obtain ⟨t,et,ht⟩:=md y hy;rcases AV.mp hx with hx | hx
      . obtain ⟨i,i1,ei⟩:=mt x hx;exact T1 i _ x y i1 (by omega) ht ei et
      . rcases mr x hx with ⟨j,j1,j2,ej⟩ | ⟨j,j1,j2,ej⟩
        . exact T2 j _ x y j2 (by omega) ht ej et
        . exact LF g2 j1 (by omega) (by omega) ej et
 by_cases e3:n1 - k<=m
 . rw [AD e3];refine A7 (qY H hk dxs dys (by rw [zx];omega) (by rw [zy];omega) sx sy (fun x y hx hy=>hf0 y hy x (by rw [<-AJ] at hx;exact BB hx)) hl fun r st' hs hr=> ?_);refine A7 (FT (A7 (JI ?_)));obtain ⟨hr1,hr2⟩:=fin r hr;have ea:arrOf st'=arr:=hs.2.1;have hfl:failedOf st'=none:=hs.2.2.2
   have hb:((sortPriv% PySem.Builtin.SortState.failed) st').isNone=true:=by
    show (failedOf st').isNone=true;rw [hfl];rfl
   refine A9 ?_;show Q ((sortPriv% PySem.Builtin.SortState.failed) st').isNone _;rw [hb];refine q _ hfl (hs.2.2.1.trans hpd) ?_ ?_
   . show Array.Perm (List.foldl (fun a x=>a.setIfInBounds (0+k+x.2) x.1) (arrOf st') r.toList.zipIdx) arr;rw [ea];exact hr1
   . show Srt κ (List.foldl (fun a x=>a.setIfInBounds (0+k+x.2) x.1) (arrOf st') r.toList.zipIdx).toList;rw [ea];exact hr2
 . rw [AA e3];refine A7 (sH H hk dxs dys (by rw [zx];omega) (by rw [zy];omega) sx sy hf0 hl fun r st' hs hr=> ?_);refine A7 (FT (A7 (JI ?_)));obtain ⟨hr1,hr2⟩:=fin r hr;have ea:arrOf st'=arr:=hs.2.1;have hfl:failedOf st'=none:=hs.2.2.2
   have hb:((sortPriv% PySem.Builtin.SortState.failed) st').isNone=true:=by
    show (failedOf st').isNone=true;rw [hfl];rfl
   refine A9 ?_;show Q ((sortPriv% PySem.Builtin.SortState.failed) st').isNone _;rw [hb];refine q _ hfl (hs.2.2.1.trans hpd) ?_ ?_
   . show Array.Perm (List.foldl (fun a x=>a.setIfInBounds (0+k+x.2) x.1) (arrOf st') r.toList.zipIdx) arr;rw [ea];exact hr1
   . show Srt κ (List.foldl (fun a x=>a.setIfInBounds (0+k+x.2) x.1) (arrOf st') r.toList.zipIdx).toList;rw [ea];exact hr2
end
end Ts
namespace Ts
open PySem PyProof.Rows
theorem aC{n:Nat}(h:1<=n)(h':n<128):n<=2*minRun' n n 0/\1<=minRun' n n 0:=by
 obtain ⟨f,rfl⟩:∃f,n=f+1:=⟨n - 1,by omega⟩;rw [minRun'_succ]
 split
 . omega
 . obtain ⟨g,rfl⟩:∃g,f=g+1:=⟨f - 1,by omega⟩;rw [minRun'_succ,AD (by omega)];omega
theorem XS{κ:Keyed->Int}{xs ys:Array Keyed}{lo n lo' n':Nat}(h:Sg κ xs lo n)(ho:Ou xs ys lo' n')(hd:lo+n<=lo'\/lo'+n'<=lo):Sg κ ys lo n:=fun i j h1 h2 h3=>by
 rw [JZ (ho i (by omega)),JZ (ho j (by omega))];exact h i j h1 h2 h3
section
variable {prog:Program} {w:World} {A:Around} {E:Value->Shared->Prop} {s:Shared} {kd:SortKind} {D:Keyed->Prop} {κ:Keyed->Int} {a₀:Array Keyed}
structure SX (kd:SortKind) (a₀:Array Keyed) (st:SortSt):Prop where
 kind:kindOf st=kd
 fail:failedOf st=none
 perm:(arrOf st).Perm a₀
theorem SX.se{st st':SortSt}{lo n:Nat}(h:SX kd a₀ st)(h':SE st st' lo n):SX kd a₀ st':=⟨h'.kind.trans h.kind,h'.fail.trans h.fail,h'.perm.trans h.perm⟩
theorem SX.size{st:SortSt}(h:SX kd a₀ st):(arrOf st).size=a₀.size:=h.perm.size_eq
theorem SX.dom{st:SortSt}(h:SX kd a₀ st)(hD:∀x ∈ a₀.toList,D x):∀x ∈ (arrOf st).toList,D x:=fun x hx=>hD x ((EM.mp h.perm).mem_iff.mp hx)
theorem lM (H : OL prog w A E s kd D κ) {st : SortSt} {Q : Unit -> SortSt -> Prop} (hD : ∀ x ∈ a₀.toList, D x) (hX : SX kd a₀ st) (hp : pendingOf st = #[]) (h2 : 2 <= a₀.size) (h128 : a₀.size < 128)
 (q:∀st',(arrOf st').Perm a₀->failedOf st'=none->Srt κ (arrOf st').toList->Q () st'):wpS (model prog w) A E s sortRuns' Q st:=by
 obtain ⟨r1,r2⟩:=aC (n:=a₀.size) (by omega) h128;rw [sortRuns'_eq];refine A7 (JI ?_)
 dsimp only
 rw [hX.size];generalize minRun' a₀.size a₀.size 0=mr at r1 r2 ⊢
 refine A7 (ES (D7
  (I:=fun x c st'=>SX kd a₀ st'/\((x=0/\c=(none,0)/\pendingOf st' = #[])\/(∃n1,1<=x/\c=(none,n1)/\1<=n1/\n1<=a₀.size/\(mr<=n1\/n1=a₀.size)/\(2<=x->n1=a₀.size)/\pendingOf st' = #[(0,n1,0)]/\Sg κ (arrOf st') 0 n1)\/(∃n1 n2 p,c=(none,a₀.size)/\1<=n1/\1<=n2/\n1+n2=a₀.size/\pendingOf st' = #[(0,n1,p),(n1,n2,0)]/\Sg κ (arrOf st') 0 n1/\Sg κ (arrOf st') n1 n2)))
  (Q:=fun c st'=>SX kd a₀ st'/\c=(none,a₀.size)/\((pendingOf st' = #[(0,a₀.size,0)]/\Sg κ (arrOf st') 0 a₀.size)\/(∃n1 n2 p,1<=n1/\1<=n2/\n1+n2=a₀.size/\pendingOf st' = #[(0,n1,p),(n1,n2,0)]/\Sg κ (arrOf st') 0 n1/\Sg κ (arrOf st') n1 n2))) ?s1 ?f1 ?i1) ?p1)
 case i1=>exact ⟨hX, .inl ⟨rfl,rfl,hp⟩⟩
 case f1=>
  rintro c st' ⟨hX',(⟨h,_⟩ | ⟨n1,_,rfl,_,_,_,h5,h6,h7⟩ | ⟨n1,n2,p,rfl,h3,h4,h5,h6,h7,h8⟩)⟩
  . omega
  . have:=h5 (by omega);subst this;exact ⟨hX',rfl, .inl ⟨h6,h7⟩⟩
  . exact ⟨hX',rfl, .inr ⟨n1,n2,p,h3,h4,h5,h6,h7,h8⟩⟩
 case p1=>
  rintro c st1 ⟨hX1,rfl,hc⟩
  dsimp only
  refine A7 (ES (D7
   (I:=fun x c st'=>c=(none,())/\((x=0/\st'=st1)\/(∃y,pendingOf st' = #[y]/\(arrOf st').Perm a₀/\failedOf st'=none/\Srt κ (arrOf st').toList)))
   (Q:=fun c st'=>c=(none,())/\(arrOf st').Perm a₀/\failedOf st'=none/\Srt κ (arrOf st').toList) ?s2 ?f2 ?i2) ?p2)
  case i2=>exact ⟨rfl, .inl ⟨rfl,rfl⟩⟩
  case f2=>
   rintro c st' ⟨rfl,(⟨h,_⟩ | ⟨y,h3,h4,h5,h6⟩)⟩
   . omega
   . exact ⟨rfl,h4,h5,h6⟩
  case p2=>
   rintro c st' ⟨rfl,h4,h5,h6⟩;exact A9 (q st' h4 h5 h6)
  case s2=>
   rintro x c st' _ hx ⟨rfl,(⟨rfl,rfl⟩ | ⟨y,h3,h4,h5,h6⟩)⟩
   . refine A7 (JI ?_);rcases hc with ⟨hc1,hc2⟩ | ⟨n1,n2,p,c3,c4,c5,c6,c7,c8⟩
     . rw [hc1];rw [AD (show #[(0,a₀.size,0)].size<=1 from AF 1)];rw [<-hX1.size] at hc2
       exact A9 ⟨rfl,hX1.perm,hX1.fail,qX hc2⟩
     . rw [c6];rw [AA (show ¬(#[(0,n1,p),(n1,n2,0)].size<=1) from by show ¬(2<=1);omega)];refine A7 (sC H hX1.kind (hX1.dom hD) c6 c3 c4 (by rw [hX1.size];exact c5) hX1.fail c7 c8 fun st2 d1 d2 d3 d4=> ?_);exact A9 ⟨rfl, .inr ⟨_,d2,d3.trans hX1.perm,d1,d4⟩⟩
   . refine A7 (JI ?_);rw [h3];rw [AD (show #[y].size<=1 from AF 1)];exact A9 ⟨rfl,h4,h5,h6⟩
 case s1=>
  rintro x c st1 _ hx ⟨hX1,(⟨rfl,rfl,hp1⟩ | ⟨n1,x1,rfl,m1,m2,m3,m4,m5,m6⟩ | ⟨n1,n2,p,rfl,h3,h4,h5,h6,h7,h8⟩)⟩
  . dsimp only
    rw [AA (by omega)];refine A7 (bT H hX1.kind (hX1.dom hD) (by rw [hX1.size];omega) (by omega) SE.rfl' fun m st2 c1 c2 c3 c4=> ?_)
    dsimp only
    have X2:=hX1.se c1;have P2:pendingOf st2 = #[]:=c1.pend.trans hp1
    by_cases hlt:m<mr
    . rw [AD hlt];refine A7 (TN (KC ⟨rfl,?_⟩));refine A7 (cK H X2.kind (X2.dom hD) (by rw [X2.size];omega) (show m<=min (a₀.size - 0) mr by omega) SE.rfl' c4 fun st3 d1 d2=> ?_);have X3:=X2.se d1;have P3:pendingOf st3 = #[]:=d1.pend.trans P2;rw [AA (by simp)];refine A7 (JI ?_);have hb:(pendingOf st3).back? = none:=by rw [P3];rfl
      rw [hb]
      dsimp only
      exact A7 (FT (A9 ⟨⟨X3.kind,X3.fail,X3.perm⟩, .inr (.inl ⟨_,by omega,rfl,by omega,by omega,by omega,fun _=>by omega,by show (pendingOf st3).push _=_;rw [P3,BT];rfl,by rw [BT];exact d2⟩)⟩))
    . rw [AA hlt];refine A7 (JI ?_);have hb:(pendingOf st2).back? = none:=by rw [P2];rfl
      rw [hb]
      dsimp only
      exact A7 (FT (A9 ⟨⟨X2.kind,X2.fail,X2.perm⟩, .inr (.inl ⟨_,by omega,rfl,by omega,by omega,by omega,fun _=>by omega,by show (pendingOf st2).push _=_;rw [P2,BT];rfl,by rw [BT];exact c4⟩)⟩))
  . dsimp only
    by_cases hge:n1≥a₀.size
    . rw [AD hge];have:n1=a₀.size:=by omega
      subst this;exact A9 ⟨hX1,rfl, .inl ⟨m5,m6⟩⟩
    rw [AA hge];have hmr:mr<=n1:=m3.resolve_right (by omega);refine A7 (bT H hX1.kind (hX1.dom hD) (by rw [hX1.size];omega) (by omega) SE.rfl' fun m st2 c1 c2 c3 c4=> ?_)
    dsimp only
    have X2:=hX1.se c1;have P2:pendingOf st2 = #[(0,n1,0)]:=c1.pend.trans m5;have G2:Sg κ (arrOf st2) 0 n1:=XS m6 c1.out (by omega)
    by_cases hlt:m<mr
    . rw [AD hlt];refine A7 (TN (KC ⟨rfl,?_⟩));refine A7 (cK H X2.kind (X2.dom hD) (by rw [X2.size];omega) (show m<=min (a₀.size - n1) mr by omega) SE.rfl' c4 fun st3 d1 d2=> ?_);have X3:=X2.se d1;have P3:pendingOf st3 = #[(0,n1,0)]:=d1.pend.trans P2;have G3:Sg κ (arrOf st3) 0 n1:=XS G2 d1.out (by omega);rw [show min (a₀.size - n1) mr=a₀.size - n1 by omega] at d2
      rw [AA (by simp)];refine A7 (JI ?_);have hb:(pendingOf st3).back? = some (0,n1,0):=by rw [P3];rfl
      rw [hb]
      dsimp only
      refine A7 (ES (D7 (I:=fun x c st'=>c=(none,())/\st'=st3) (Q:=fun c st'=>c=(none,())/\st'=st3) ?s3 ?f3 ⟨rfl,rfl⟩) ?p3)
      case f3=>exact fun c st' h=>h
      case s3=>
       rintro x c st' _ _ ⟨rfl,rfl⟩;refine A7 (JI ?_);rw [P3];rw [AA (show ¬(#[(0,n1,0)].size>1) from by show ¬(1>1);omega)];exact A9 ⟨rfl,rfl⟩
      case p3=>
       rintro c st' ⟨rfl,rfl⟩
       dsimp only
       refine A7 (FT (A7 (FT (A9 ⟨⟨X3.kind,X3.fail,X3.perm⟩, .inr (.inr ⟨n1,a₀.size - n1,power' a₀.size (2*0+n1) (2*0+n1+n1+min (a₀.size - n1) mr) a₀.size,?_,m1,by omega,by omega,?_,G3,d2⟩)⟩))))
       . show (none,n1+min (a₀.size - n1) mr)=_;rw [show n1+min (a₀.size - n1) mr=a₀.size by omega]
       . show ((pendingOf st').modify ((pendingOf st').size - 1) _).push (n1,min (a₀.size - n1) mr,0)=_;rw [P3,show min (a₀.size - n1) mr=a₀.size - n1 by omega];rfl
    . rw [AA hlt];rw [show m=a₀.size - n1 by omega] at c4
      refine A7 (JI ?_);have hb:(pendingOf st2).back? = some (0,n1,0):=by rw [P2];rfl
      rw [hb]
      dsimp only
      refine A7 (ES (D7 (I:=fun x c st'=>c=(none,())/\st'=st2) (Q:=fun c st'=>c=(none,())/\st'=st2) ?s3 ?f3 ⟨rfl,rfl⟩) ?p3)
      case f3=>exact fun c st' h=>h
      case s3=>
       rintro x c st' _ _ ⟨rfl,rfl⟩;refine A7 (JI ?_);rw [P2];rw [AA (show ¬(#[(0,n1,0)].size>1) from by show ¬(1>1);omega)];exact A9 ⟨rfl,rfl⟩
      case p3=>
       rintro c st' ⟨rfl,rfl⟩
       dsimp only
       refine A7 (FT (A7 (FT (A9 ⟨⟨X2.kind,X2.fail,X2.perm⟩, .inr (.inr ⟨n1,a₀.size - n1,power' a₀.size (2*0+n1) (2*0+n1+n1+m) a₀.size,?_,m1,by omega,by omega,?_,G2,c4⟩)⟩))))
       . show (none,n1+m)=_;rw [show n1+m=a₀.size by omega]
       . show ((pendingOf st').modify ((pendingOf st').size - 1) _).push (n1,m,0)=_;rw [P2,show m=a₀.size - n1 by omega];rfl
  . dsimp only
    rw [AD (AF _)];exact A9 ⟨hX1,rfl, .inr ⟨n1,n2,p,h3,h4,h5,h6,h7,h8⟩⟩
end
end Ts
namespace Ts
open PySem PySem.W PyProof.Rows
theorem UH{α:Type}{p q:α->Bool}:∀ {l:List α},(∀z,p z=true->q z=true)->(∃a ∈ l,q a=true/\p a=false)->l.countP p<l.countP q
 | [],_,⟨a,h,_⟩=>by cases h
 | b::l,h,⟨a,ha,h1,h2⟩=>by
  rw [List.countP_cons,List.countP_cons];have mono:l.countP p<=l.countP q:=zS fun x _ hx=>h x hx;rcases AN.mp ha with rfl | ha
  . rw [h1,h2];simp;omega
  . have ih:=UH h ⟨a,ha,h1,h2⟩
    by_cases hb:p b=true
    . rw [hb,h b hb];simp;omega
    . rw [AA hb];split <;> omega
def rk(L:List (List Int))(x:List Int):Int:=((L.countP fun z=>decide (z<x):Nat):Int)
theorem tY{L:List (List Int)}{x y:List Int}(hx:x ∈ L)(hy:y ∈ L):decide (rk L x<rk L y)=decide (x<y):=by
 by_cases h:x<y
 . rw [decide_eq_true h];refine decide_eq_true ?_;unfold rk;have:=UH (l:=L) (p:=fun z=>decide (z<x)) (q:=fun z=>decide (z<y)) (fun z hz=>decide_eq_true (List.lt_trans (of_decide_eq_true hz) h)) ⟨x,hx,decide_eq_true h,decide_eq_false (List.lt_irrefl x)⟩;omega
 . rw [decide_eq_false h];refine decide_eq_false ?_;unfold rk
   have:=zS (l:=L) (p:=fun z=>decide (z<y)) (q:=fun z=>decide (z<x)) fun z _ hz=>by
    have hz:=AO hz;refine AR ?_;exact Decidable.byContradiction fun c=>h (List.lt_of_le_of_lt (List.not_lt.mp c) hz)
   omega
theorem A43{L:List (List Int)}{x y:List Int}(hx:x ∈ L)(hy:y ∈ L)(h:rk L x<=rk L y):x<=y:=by
 have e:=tY hy hx;refine List.not_lt.mp fun c=> ?_;rw [AR c] at e
 have:=AO e;omega
theorem pK(x:Int)(xs:List Int):decide (x::xs<([]:List Int))=false:=AZ (List.not_lt_nil _)
theorem vR(x:Int)(xs ys:List Int):decide (x::xs<x::ys)=decide (xs<ys):=IH.mpr ⟨fun h=>(KF.mp h).elim (fun h=>absurd h (Int.lt_irrefl _)) fun h=>h.2,fun h=>KF.mpr (.inr ⟨rfl,h⟩)⟩
theorem wG{x y:Int}(he:x≠y)(xs ys:List Int):decide (x::xs<y::ys)=decide (x<y):=IH.mpr ⟨fun h=>(KF.mp h).elim (fun h=>h) fun h=>absurd h.1 he,fun h=>KF.mpr (.inl h)⟩
def Tup(h:Heap)(v:Value)(ns:List Int):Prop:=∃a o xs n,v = .ref a/\h.get? a=some o/\o.cls = .type "tuple" /\ o.data = .seq xs n/\IntsAre xs.toList ns
theorem kH:∀ {us:List Value} {ns ms:List Int},IntsAre us ns->IntsAre us ms->ns=ms:=fun h1 h2=>by rw [<-h1.nums, <-h2.nums]
theorem Tup.inj{h:Heap}{v:Value}{ns ms:List Int}(h1:Tup h v ns)(h2:Tup h v ms):ns=ms:=by
 obtain ⟨a,o,xs,n,rfl,e1,_,e2,e3⟩:=h1;obtain ⟨a',o',xs',n',e0,e1',_,e2',e3'⟩:=h2
 cases e0
 rw [e1] at e1'
 cases e1'
 rw [e2] at e2'
 cases e2'
 exact kH e3 e3'
section
variable {prog:Program} {w:World} {A:Around} {E:Value->Shared->Prop} {s:Shared}
theorem jB{Q:Bool->Shared->Prop}{fin:Bool}:∀ {us ws:List Value} {xs ys:List Int} (i:Nat),IntsAre us xs->IntsAre ws ys->fin=decide (xs.length<ys.length)->Q (decide (xs<ys)) s->KatLex prog w A true fin Q (us.zip ws) i s
 | _,_,_,_,i, .nil, .nil,hf,q=>by
  refine kat_nil ?_
  rw [hf];exact q
 | _,_,_,_,i, .nil, .cons y u r,hf,q=>by
  refine kat_nil ?_
  rw [hf];exact q
 | _,_,_,_,i, .cons x t r, .nil,hf,q=>by
  refine kat_nil ?_;rw [hf];rw [pK] at q
  exact q
 | _,_,_,_,i, .cons x t r, .cons y u r',hf,q=>by
  refine kat_cons (wpAny_eqBool_int (kat_go (fun he=>kat_yes ?_) fun he=>kat_no ?_))
  . have he:x=y:=by simpa using he
    subst he;refine jB (i+1) r r' (by rw [hf];simp) ?_;rw [vR] at q
    exact q
  . have he:x≠y:=by simpa using he
    rw [wG he] at q
    cases hi:(true && i==0)
    . exact kat_one _ _ (TU q)
    . exact oneLt_int q
end
end Ts
namespace Ts
open PySem PySem.W PyProof.Rows
open Classical in
noncomputable def nsOf(h:Heap)(v:Value):List Int:=if e:∃ns,Tup h v ns then e.choose else []
theorem nsOf_eq{h:Heap}{v:Value}{ns:List Int}(t:Tup h v ns):nsOf h v=ns:=by
 have e:∃ns,Tup h v ns:=⟨ns,t⟩;unfold nsOf;rw [dif_pos e];exact e.choose_spec.inj t
section
variable {prog:Program} {w:World} {A:Around} {E:Value->Shared->Prop} {s:Shared}
theorem mG:∀ {l:List (List Int)},l.length<2->l.Pairwise (· <= ·)
 | [],_=>HI
 | [_],_=>EE _ _
 | _::_::_,h=>by simp only [B7] at h;omega
theorem iQ(L:List (List Int)):OL prog w A E s (tuples' true) (fun x=>∃ns,Tup s.heap x.1 ns/\ns ∈ L) (fun x=>rk L (nsOf s.heap x.1)):=fun x y st Q hk dx dy q=>by
 obtain ⟨ns,tx,mx⟩:=dx;obtain ⟨ms,ty,my⟩:=dy;have q':Q (some (decide (rk L (nsOf s.heap x.1)<rk L (nsOf s.heap y.1)))) st:=q
 have e:decide (rk L (nsOf s.heap x.1)<rk L (nsOf s.heap y.1))=decide (ns<ms):=by
  have e1:=nsOf_eq tx;have e2:=nsOf_eq ty;rw [<-tY mx my, <-e1, <-e2]
 rw [e] at q'
 rw [lt'_eq];refine A7 (JI ?_);rw [hk];obtain ⟨a,o,xs,n,ex,e1,_,e2,e3⟩:=tx;obtain ⟨a',o',xs',n',ey,e1',_,e2',e3'⟩:=ty;rw [ex,ey];have l1:xs.size=ns.length:=by rw [<-BJ, <-e3.nums,AC]
 have l2:xs'.size=ms.length:=by rw [<-BJ, <-e3'.nums,AC]
 refine A7 (TN (JQ (kat_lt e1 e2 e1' e2' (jB 0 e3 e3' (by rw [l1,l2]) ⟨rfl,?_⟩))));exact A9 q'
theorem cJ{h:Heap}:∀ {vs:List Value},(∀v ∈ vs,∃ns,Tup h v ns/\ns ≠ [])->∃fs,KatTups h vs fs/\fs.length=vs.length/\∀v ∈ fs,∃i t,v=Value.int i t
 | [],_=>⟨[],KatTups.nil,rfl,fun v hv=>by cases hv⟩
 | v::vs,r=>by
  obtain ⟨fs,h1,h2,h3⟩:=cJ fun v hv=>r v (AK _ hv);obtain ⟨ns,t,hn⟩:=r v AQ;obtain ⟨a,o,xs,n,rfl,e1,e0,e2,e3⟩:=t
  have:∃i u,xs[0]? = some (Value.int i u):=by
   rw [<-AJ];generalize xs.toList=ys at e3
   cases e3 with
   | nil=>exact absurd rfl hn
   | cons i u _=>exact ⟨i,u,rfl⟩
  obtain ⟨i,u,e⟩:=this;refine ⟨.int i u::fs,KatTups.cons e1 e0 e2 e h1,by simp [h2],fun v hv=> ?_⟩;rcases AN.mp hv with rfl | hv
  . exact ⟨i,u,rfl⟩
  . exact h3 v hv
theorem jA{vs:List Value}(r:∀v ∈ vs,∃ns,Tup s.heap v ns/\ns ≠ [])(h0:0<vs.length){Q:SortKind->Shared->Prop}(q:Q (tuples' true) s):wpAny (model prog w) A (keyKind' vs.toArray) Q E s:=by
 obtain ⟨fs,h1,h2,h3⟩:=cJ r;refine kat_kind (T:= .type "int") h1 (by omega) (fun v hv=> ?_) (by rfl) (by exact q);obtain ⟨i,t,rfl⟩:=h3 v hv;exact .now
theorem TV {a : Addr} {vs : List Value} {n : Nat} {P : PySem.Fin -> Shared -> Prop} (ho : s.heap.get? a = some (seqObj "list" vs.toArray n))
 (r:∀v ∈ vs,∃ns,Tup s.heap v ns/\ns ≠ []) (hl:vs.length<128)
 (h:∀out:Array Value,out.toList.Perm vs->(out.toList.map (nsOf s.heap)).Pairwise (· <= ·)->P (.done (.ret .none)) {s with heap:=sortedHeap s.heap a vs out}) :
 wpAny (model prog w) A (Builtin.«list.sort» ⟨[.ref a], []⟩) P E s := by
 rw [list_sort_plain];have ha:a<s.heap.objs.size:=AU ho;refine A0 (listItems_at ho rfl ?_);refine A0 (listUpdate_at ho rfl ?_ (by rw [AT,MO];omega) (CJ _));obtain ⟨e1,ho1⟩:∃e1,(s.heap.update a (Obj.mapSeq fun _=> #[])).get? a=some (seqObj "list" #[] e1):=⟨_,JB ho (fun _=> #[])⟩;refine A0 (seqEpoch_at ho1 rfl ?_);refine A0 (wpAny_newTuple ?_ (by show vs.length<=_;rw [MO];omega));refine A0 (aU ?_ (CJ _));refine CP ?_;have ho6:(((s.heap.update a (Obj.mapSeq fun _=> #[])).push (seqObj "tuple" vs.toArray 0)).push (seqObj "list" #[] 0)).get? a=some (seqObj "list" #[] e1):=A4 _ (A4 _ ho1)
 have keep:∀v ns,Tup s.heap v ns->Tup (((s.heap.update a (Obj.mapSeq fun _=> #[])).push (seqObj "tuple" vs.toArray 0)).push (seqObj "list" #[] 0)) v ns:=fun v ns t=>by
  obtain ⟨b,o,xs,k,rfl,t1,t2,t3,t4⟩:=t
  have hb:b≠a:=fun e=>by
   subst e;rw [ho] at t1
   cases t1
   simp at t2
  exact ⟨b,o,xs,k,rfl,A4 _ (A4 _ (by rw [DC _ _ _ _ hb];exact t1)),t2,t3,t4⟩
 show wpAny (model prog w) A _ P E {s with heap:=((s.heap.update a (Obj.mapSeq fun _=> #[])).push (seqObj "tuple" vs.toArray 0)).push (seqObj "list" #[] 0)}
 dsimp only
 have fin : ∀ st' : SortSt, (arrOf st').Perm (pairsOf vs) -> (((arrOf st').map (·.2)).toList.map (nsOf s.heap)).Pairwise (· <= ·) ->
  P (.done (.ret .none)) {s with heap:=sortedHeap s.heap a vs ((arrOf st').map (·.2))}:=fun st' hp hs=>by
  refine h _ ?_ hs;have:=((EM.mp hp).map (·.2));rw [pairsOf_toList] at this
  rw [Array.toList_map];refine this.trans (eG ?_);exact Z4 (AF _)
 by_cases h2:vs.toArray.size<2
 . rw [AD h2,AD h2];refine A0 (A6 ?_);rw [StateT.run_pure];refine A0 (A6 ?_)
   dsimp only
   refine A0 (seqEpoch_at ho6 rfl ?_);refine A0 (listUpdate_at ho6 rfl ?_ (CJ _) (by rw [iG];show (pairsOf vs).size<=_;rw [aV,MO];omega));simp only [AA0,CW,FC];refine A6 (fin (SortSt.mk' general' (vs.toArray.zip vs.toArray) #[] 7 none) (LM _) ?_);have hz:vs.length<2:=by rwa [AT] at h2
   refine mG ?_;rw [AC,BJ,iG];show (pairsOf vs).size<2;rw [aV];exact hz
 . rw [AA h2,AA h2];have hz:2<=vs.length:=by rw [AT] at h2;omega
   refine A0 (jA (fun v hv=>let ⟨ns,t,hn⟩:=r v hv;⟨ns,keep v ns t,hn⟩) (by omega) ?_);have hmem:∀x ∈ (pairsOf vs).toList,x.1=x.2/\x.1 ∈ vs:=fun x hx=>by rw [pairsOf_toList] at hx;exact mem_zip_self hx
   refine A0 (E1 (lM (iQ (vs.map (nsOf s.heap))) (a₀:=pairsOf vs) (st:=SortSt.mk' (tuples' true) (vs.toArray.zip vs.toArray) #[] 7 none)
    (Q:=fun _ st'=>(arrOf st').Perm (pairsOf vs)/\failedOf st'=none/\(((arrOf st').map (·.2)).toList.map (nsOf s.heap)).Pairwise (· <= ·))
    (fun x hx=>by
     obtain ⟨_,hv⟩:=hmem x hx;obtain ⟨ns,t,hn⟩:=r x.1 hv;exact ⟨ns,keep _ _ t,AY.mpr ⟨x.1,hv,nsOf_eq t⟩⟩)
    ⟨rfl,rfl,LM _⟩ rfl (by rw [aV];exact hz) (by rw [aV];exact hl) fun st' a1 a2 a3=>⟨a1,a2,?_⟩) ?_ fun _ _ e=>e)
   . rw [Array.toList_map,FO,NL];refine o6 (fun {x y} hx hy hxy=> ?_) a3;obtain ⟨ex,vx⟩:=hmem x ((EM.mp a1).mem_iff.mp hx);obtain ⟨ey,vy⟩:=hmem y ((EM.mp a1).mem_iff.mp hy);obtain ⟨ns,tx,_⟩:=r x.1 vx;obtain ⟨ms,ty,_⟩:=r y.1 vy;show nsOf s.heap x.2<=nsOf s.heap y.2;rw [<-ex, <-ey];refine A43 (L:=vs.map (nsOf s.heap)) (AY.mpr ⟨_,vx,rfl⟩) (AY.mpr ⟨_,vy,rfl⟩) ?_;rw [nsOf_eq tx,nsOf_eq ty];have hxy':=hxy
     dsimp only at hxy'
     rwa [nsOf_eq (keep _ _ tx),nsOf_eq (keep _ _ ty)] at hxy'
   . rintro ⟨⟨⟩,st'⟩ s' ⟨rfl,hp,hf,hs⟩
     dsimp only
     refine A0 (seqEpoch_at ho6 rfl ?_);refine A0 (listUpdate_at ho6 rfl ?_ (CJ _) (by refine BQ (v6 ((iG ..).trans (hp.size_eq.trans (aV _)))) ?_;rw [MO];omega));rw [hf];simp only [AA0,CW,FC];exact A6 (fin st' hp hs)
theorem sorted_tup {l : Addr} {vs : List Value} {Q : Value -> Shared -> Prop} (hl : s.heap.IsList l vs.toArray) (r : ∀ v ∈ vs, ∃ ns, Tup s.heap v ns /\ ns ≠ []) (h128 : vs.length < 128)
 (h:∀out:Array Value,out.toList.Perm vs->(out.toList.map (nsOf s.heap)).Pairwise (· <= ·)->Q (.ref (s.heap.objs.size+1)) {s with heap:=sortedAll s.heap vs out}) :
 wpAny (model prog w) A (call (.builtin "sorted") [.ref l]) Q E s:=by
 refine Calls.call_function_entry kind_sorted plain_sorted entry_sorted (args_sorted1 _) ?_;unfold Builtin.«sorted»;refine wpAny_bind (m:=checkCount "sorted" 1 1 _) (wpAny_pure ?_);refine wpAny_bind (collect_list hl ?_ (by rw [sizeLine_eq];omega));refine wpAny_bind (wpAny_newList ?_ (by rw [sizeLine_eq];omega))
 have hsz:((s.heap.push (seqObj "list" #[] 0)).update s.heap.objs.size (Obj.mapSeq (· ++ vs.toArray))).objs.size=s.heap.objs.size+1:=by
  rw [Heap.size_update,size_push']
 have hoL:(((s.heap.push (seqObj "list" #[] 0)).update s.heap.objs.size (Obj.mapSeq (· ++ vs.toArray))).push (seqObj "list" vs.toArray 0)).get? (s.heap.objs.size+1)=some (seqObj "list" vs.toArray 0):=by
  rw [<-hsz];exact AI _ rfl
 have keep:∀b o,s.heap.get? b=some o->(((s.heap.push (seqObj "list" #[] 0)).update s.heap.objs.size (Obj.mapSeq (· ++ vs.toArray))).push (seqObj "list" vs.toArray 0)).get? b=some o:=fun b o q=>by
  have hlt:b<s.heap.objs.size:=AU q;rw [Heap.get?_push_ne _ _ _ (by rw [hsz];exact BP (NJ hlt)),DC _ _ _ _ (BP hlt),Heap.get?_push_ne _ _ _ (BP hlt)];exact q
 have keepT:∀v ns,Tup s.heap v ns->Tup (((s.heap.push (seqObj "list" #[] 0)).update s.heap.objs.size (Obj.mapSeq (· ++ vs.toArray))).push (seqObj "list" vs.toArray 0)) v ns:=fun v ns t=>by
  obtain ⟨b,o,xs,k,rfl,t1,t2,t3,t4⟩:=t;exact ⟨b,o,xs,k,rfl,keep _ _ t1,t2,t3,t4⟩
 show wpAny _ _ _ _ _ {s with heap:=((s.heap.push (seqObj "list" #[] 0)).update s.heap.objs.size (Obj.mapSeq (· ++ vs.toArray))).push (seqObj "list" vs.toArray 0)};rw [hsz];refine A0 (CP (EI slot_list_sort ⟨_,hoL,rfl⟩ entry_list_sort (TV hoL (fun v hv=>let ⟨ns,t,hn⟩:=r v hv;⟨ns,keepT v ns t,hn⟩) h128 fun out a1 a2=>⟨_,rfl,?_⟩) (args_list_sort _)));refine A6 ⟨_,rfl,h out a1 ?_⟩
 have e:out.toList.map (nsOf s.heap)=out.toList.map (nsOf (((s.heap.push (seqObj "list" #[] 0)).update s.heap.objs.size (Obj.mapSeq (· ++ vs.toArray))).push (seqObj "list" vs.toArray 0))):=BK fun v hv=>by
  obtain ⟨ns,t,_⟩:=r v (a1.mem_iff.mp hv);rw [nsOf_eq t,nsOf_eq (keepT v ns t)]
 rw [e];exact a2
end
end Ts
namespace Tf
open PySem PySem.Spec PyProof.Rows L2
def tI(ns:List Int):PyData:= .tuple (ns.map .int)
def unI:PyData->List Int
 | .tuple ds=>ds.map fun d=>match d with | .int i=>i | _=>0
 | _=> []
theorem w4(ns:List Int):unI (tI ns)=ns:=by
 show (ns.map PyData.int).map (fun d=>match d with | .int i=>i | _=>0)=ns;rw [FO];exact (BK fun x _=>rfl).trans (RD _)
def RW(nss:List (List Int)):List (List Int):=nss.mergeSort fun a b=>decide (a<=b)
theorem N9(ns:List (List Int)):(RW ns).Perm ns:=A70 _ _
theorem gA(ns:List (List Int)):(RW ns).Pairwise (· <= ·):=by
 have:=t5 (le:=fun a b:List Int=>decide (a<=b)) (fun a b c h1 h2=>AR (List.le_trans (AO h1) (AO h2))) (fun a b=>by
  rcases List.le_total a b with h | h
  . rw [AR h];rfl
  . rw [AR h,Bool.or_true]) ns
 exact this.imp fun h=>AO h
theorem sF{ns ns':List (List Int)}(h:ns'.Perm ns)(p:ns'.Pairwise (· <= ·)):ns'=RW ns:=
 nY (fun a b _ _ h1 h2=>List.le_antisymm h1 h2) p (gA ns) (h.trans (N9 ns).symm)
theorem A49{K:PySem.W.Frag}{its out:List Value}(h:its.Perm out):∀ {vs:List V} {ds:List PyData},Vals vs its->ds.length=its.length->∃vs' ds',Vals vs' out/\ds'.Perm ds/\(∀H1,Reps K H1 vs ds->Reps K H1 vs' ds'):=by
 induction h with
 | nil=>
  intro vs ds r hl
  cases r
  exact ⟨[],ds, .nil,List.Perm.refl _,fun _ h=>h⟩
 | cons x _ ih=>
  intro vs ds r hl
  cases r with
  | cons r1 r2=>
   match ds,hl with
   | d::ds,hl=>
    obtain ⟨vs',ds',h1,h2,h3⟩:=ih r2 (by simpa using hl);refine ⟨_,d::ds', .cons r1 h1,h2.cons d,fun H1 h=> ?_⟩
    cases h with
    | cons g1 g2=>exact .cons g1 (h3 H1 g2)
 | swap x y l=>
  intro vs ds r hl
  cases r with
  | cons r1 r2=>cases r2 with
   | cons r2 r3=>
    match ds,hl with
    | d::e::ds,hl=>
     refine ⟨_,e::d::ds, .cons r2 (.cons r1 r3),List.Perm.swap _ _ _,fun H1 h=> ?_⟩
     cases h with
     | cons g1 g2=>cases g2 with
      | cons g2 g3=>exact .cons g2 (.cons g1 g3)
 | trans h1 _ ih1 ih2=>
  intro vs ds r hl;obtain ⟨vs1,ds1,a1,a2,a3⟩:=ih1 r hl;obtain ⟨vs2,ds2,b1,b2,b3⟩:=ih2 a1 (by rw [a2.length_eq,hl,h1.length_eq]);exact ⟨vs2,ds2,b1,b2.trans a2,fun H1 h=>b3 H1 (a3 H1 h)⟩
variable {X:Cx}
theorem SZ{K:PySem.W.Frag}{H:Hp}:∀ {vs:List V} {ns:List Int},Reps K H vs (ns.map PyData.int)->vs=ns.map V.int
 | _,[], .nil=>rfl
 | _,n::ns, .cons h t=>by
  cases h
  rw [SZ t];rfl
theorem kI{pins:List (Addr×Obj)}{s:Shared}{σ:L2.St}{H:Hp}{v:V}{u:Value}{ns:List Int}(I:Inv X pins σ H s)(h:Rep X.K H v (tI ns))(r:RelV v u):Ts.Tup s.heap u ns:=by
 unfold tI at h
 cases h with
 | tuple h1 h2=>
  rw [SZ h2] at h1
  obtain ⟨its,rv,⟨o,e1,e2,n,e3⟩,_⟩:=I.tuple (SqT.of (K:=X.K) h1)
  cases r
  exact ⟨_,o,_,n,rfl,e1,e2,e3,LV rv⟩
theorem aY{pins:List (Addr×Obj)}{s:Shared}{σ:L2.St}{H:Hp}(I:Inv X pins σ H s):∀ {vs:List V} {us:List Value} {nss:List (List Int)},Reps X.K H vs (nss.map tI)->Vals vs us->(∀ns ∈ nss,ns ≠ [])->∀u ∈ us,∃ns,Ts.Tup s.heap u ns/\ns ≠ []
 | _,_,[], .nil, .nil,_,u,hu=>by cases hu
 | _,_,ns::nss, .cons h t, .cons r rs,hn,u,hu=>by
  rcases AN.mp hu with rfl | hu
  . exact ⟨ns,kI I h r,hn ns AQ⟩
  . exact aY I t rs (fun m hm=>hn m (AK _ hm)) u hu
theorem bP{pins:List (Addr×Obj)}{s:Shared}{σ:L2.St}{H:Hp}(I:Inv X pins σ H s):∀ {vs:List V} {us:List Value} {ds:List PyData},Reps X.K H vs ds->Vals vs us->(∀d ∈ ds,∃ns,d=tI ns)->ds=(us.map (Ts.nsOf s.heap)).map tI
 | _,_,_, .nil, .nil,_=>rfl
 | _,_,_, .cons h t, .cons r rs,hd=>by
  obtain ⟨ns,rfl⟩:=hd _ AQ;rw [B0,B0,Ts.nsOf_eq (kI I h r), <-bP I t rs fun d hm=>hd d (AK _ hm)]
theorem W5:KN X (.builtin "sorted") (fun xs H Q=>∃a vs nss,xs = [V.ref a]/\SqL X.K H a vs/\Reps X.K H vs (nss.map tI)/\(∀ns ∈ nss,ns ≠ [])/\nss.length<128/\∀p,H p=none->∀vs',(∀H1,Reps X.K H1 vs (nss.map tI)->Reps X.K H1 vs' ((RW nss).map tI))->Q (.ref p) (upd H p (.lst vs'))):=by
 intro pins s σ H xs us Q I r h;obtain ⟨a,vs,nss,rfl,hq,hr,hn,hl,q⟩:=h;obtain ⟨u,rfl,ru⟩:=J7 r
 cases ru
 obtain ⟨its,rv,p1,hz⟩:=I.list hq;have l:=rv.length;have l2:=hr.length;rw [AC] at l2
 refine Ts.sorted_tup p1.isList (aY I hr rv hn) (by omega) fun out a1 a2=> ?_;obtain ⟨vs',ds',b1,b2,b3⟩:=A49 (K:=X.K) a1.symm rv (ds:=nss.map tI) (by rw [AC];omega)
 have e1:ds'=(out.toList.map (Ts.nsOf s.heap)).map tI:=bP I (b3 H hr) b1 fun d hd=>by
  obtain ⟨ns,_,e⟩:=AY.mp (b2.mem_iff.mp hd);exact ⟨ns,e.symm⟩
 have e2:out.toList.map (Ts.nsOf s.heap)=RW nss:=by
  refine sF ?_ a2;have:=b2.map unI
  have un:∀l:List (List Int),(l.map tI).map unI=l:=fun l=>by
   rw [FO,show (unI ∘ tI)=id from funext w4,RD]
  rwa [e1,un,un] at this
 rw [e2] at e1
 subst e1;obtain ⟨e,he⟩:=sortedAll_at s.heap its out;refine ⟨.ref (s.heap.objs.size+1),_,I.laid (a:=s.heap.objs.size+1) (o:= .lst vs') (t':=s.toks) (fun b o z=>sortedAll_old z) (ET _) ⟨?_,out.toList,e,b1,?_⟩,rfl,q _ (I.hok.fresh (ET _)) vs' b3⟩
 . have:=(b3 H hr).length;rw [AC,(N9 nss).length_eq] at this
   rw [this];exact JO (uZ hl (by decide))
 . rw [he]
end Tf
namespace Dm
open PySem PySem.Spec PyProof.Rows L2 Tf
def OF:List PyData->Option (List (List Int))
 | []=>some []
 | .tuple ds::r=>(G0 ds).bind fun ns=>if ns = [] then none else (OF r).bind fun nss=>some (ns::nss)
 | _::_=>none
theorem UV:∀ {ds:List PyData} {nss:List (List Int)},OF ds=some nss->ds=nss.map tI/\∀ns ∈ nss,ns ≠ []
 | [],nss,h=>by cases h;exact ⟨rfl,fun _ h=>by cases h⟩
 | d::r,nss,h=>by
  cases d with
  | tuple ds=>
   unfold OF at h
   obtain ⟨ns,h1,h⟩:=A3.mp h
   split at h
   . cases h
   . rename_i hne;obtain ⟨ms,h2,h⟩:=A3.mp h
     cases h
     obtain ⟨e1,e2⟩:=UV h2;refine ⟨?_,fun m hm=> ?_⟩
     . rw [B0,e1,L7 h1];rfl
     . rcases AN.mp hm with rfl | hm
       . exact hne
       . exact e2 m hm
  | _=>cases h
theorem TC:∀ {nss:List (List Int)},(∀ns ∈ nss,ns ≠ [])->OF (nss.map tI)=some nss
 | [],_=>rfl
 | ns::nss,h=>by
  show ((G0 (ns.map PyData.int)).bind fun ns=>if ns = [] then none else (OF (nss.map tI)).bind fun nss=>some (ns::nss))=_;rw [SO,F2,AA (h ns AQ),TC fun m hm=>h m (AK _ hm)];rfl
def dSortT:List Sl->Option Sl
 | [s]=>match s.dat with
  | .list ds=>(OF ds).bind fun nss=>if nss.length<128 then some (.own ((RW nss).map tI)) else none
  | _=>none
 | _=>none
section
variable {K:PySem.W.Frag}
theorem lO:MD K (fun xs H Q=>∃a vs nss,xs = [V.ref a]/\SqL K H a vs/\Reps K H vs (nss.map tI)/\(∀ns ∈ nss,ns ≠ [])/\nss.length<128/\∀p,H p=none->∀vs',(∀H1,Reps K H1 vs (nss.map tI)->Reps K H1 vs' ((RW nss).map tI))->Q (.ref p) (upd H p (.lst vs'))) dSortT:=fun H0 H vs ss z s p hz Q q=>by
 unfold dSortT at hz
 split at hz
 . obtain ⟨v,rfl,pa⟩:=IE p
   split at hz
   . rename_i ds hd;obtain ⟨nss,hn,hz⟩:=A3.mp hz
     split at hz
     . rename_i hl
       cases hz
       obtain ⟨a,vs,rfl,h1,h2⟩:=pa.lst s hd;obtain ⟨e1,e2⟩:=UV hn;rw [e1] at h2
       refine ⟨a,vs,nss,rfl,h1,Reps.same s h2,e2,hl,fun b hb vs' p1=> ?_⟩;exact q _ _ _ (Ext.alloc s hb _) ⟨b,_,rfl,hb,s.free hb,BZ,p1 _ h2⟩
     . cases hz
   . cases hz
 . cases hz
end
end Dm
namespace Tf
open PySem PySem.Spec PyProof.Rows L2
variable {X:Cx}
theorem DL{pins:List (Addr×Obj)}{σ:L2.St}{H:Hp}{s:Shared}{h':Heap}{t':Nat}{it:Addr}(f:JH X pins H it)(I:L2.Inv X pins σ H s)(k:∀b o,b≠it->s.heap.get? b=some o->h'.get? b=some o):L2.Inv X pins σ H {s with heap:=h',toks:=t' } :=
 I.turned k f.1 f.2.1 f.2.2.2.1 f.2.2.2.2.1 f.2.2.2.2.2
theorem JG{pins:List (Addr×Obj)}{H:Hp}{it:Addr}(f:JH X pins H it){h:Heap}{o:Obj}(e:h.get? it=some o)(d:∀v,o.data ≠ .cell v):h.get? it=some o/\H it=none/\it≠X.env.locals/\it ∉ X.fs/\∀v,o.data ≠ .cell v:=⟨e,f.1,f.2.1,f.2.2.1,d⟩
theorem MB{pins:List (Addr×Obj)}{H H':Hp}{it:Addr}(f:JH X pins H it)(h:H' it=none):JH X pins H' it:=⟨h,f.2⟩
theorem oO {pins : List (Addr × Obj)} {σ : L2.St} {l q It S : Addr} {us : List Value} (kf : Nat -> Int) (G : Hp -> Prop) (hh : X.A.handled = none)
 (hl:∀pins1 s1 H1,L2.Inv X pins1 σ H1 s1->G H1->s1.heap.IsList l us.toArray) (hlI:l≠It) (hSI:S≠It)
 (turn:∀(i:Nat) (u:Value),us[i]? = some u->∀pins1 s1 H1,L2.Inv X pins1 σ H1 s1->G H1->wpAny (model X.prog X.w) X.A.in1 (call (.ref q) [u]) (L2.EP X pins1 σ (fun v H2=>v = .int (kf i)/\G H2)) (fun _ _=>False) s1)
 {R:Result->Shared->Prop} (hR:∀(i:Nat) u s1 H1,us[i]? = some u->(∀j,j<us.length->kf i<=kf j/\(j<i->kf i<kf j))->L2.Inv X pins σ H1 s1->G H1->R (.ok (.ret u)) s1) :
 ∀(r j i:Nat) (s:Shared) (H:Hp) (vb:Value) (tb:Tok) (c:Nat),us.length - (j+1)=r->j+1<=us.length->L2.Inv X pins σ H s->G H->JH X pins H S->JH X pins H It ->
   s.heap.get? S=some (seqObj "list" #[vb, .int (kf i) tb] c)->s.heap.IsListIter It l (j+1)->us[i]? = some vb->i<=j->(∀j',j'<=j->kf i<=kf j'/\(j'<i->kf i<kf j')) ->
   codeAny (model X.prog X.w) X.A (.builtin "min.loop" ⟨[.ref It, .ref q, .ref S],[]⟩) R s:=by
 have hname:(toString "min" ++ toString ".loop" : String) = "min.loop" :=by decide
 have W:=Walks.list (prog:=X.prog) (w:=X.w) (A:=X.A.in1) hh It l hlI us.toArray;have hsz:us.toArray.size=us.length:=AT ..;intro r
 induction r with
 | zero=>
  intro j i s H vb tb c hr hj I g fS fI eS hit hvb hij hbest;have hin:j+1=us.length:=by omega
  refine F9 FP ?_;rw [DM BH _];show wpAny _ X.A.in1 (seqItems? (.ref S) >>= _) _ _ _;refine A0 (DH eS rfl ?_);show wpAny _ X.A.in1 (tryCatch (pyNext (.ref It)) _ >>= _) _ _ _;refine A0 (CF (W.done _ _ _ ⟨by rw [hsz, <-hin];exact hit,hl _ _ _ I g⟩ fun h' tk' hk' => ?_));have I1:L2.Inv X pins σ H {s with heap:=h',toks:=tk' }:=DL fI I fun b o hb e=>hk' b o (fun z=>hb (A5.mp z)) e;have eS':=hk' S _ (by simpa using hSI) eS;show wpAny _ X.A.in1 (updateSeq S (fun _=> #[]) >>= _) _ _ _;refine A0 ?_;refine FU eS' rfl (A0 (EC (A6 ?_)));refine hR i vb _ H hvb (fun j' hj'=>hbest j' (by omega)) (DL fS I1 (t':=tk') fun b o hb e=> ?_) g;show (h'.update S _).get? b=some o;rw [DC _ _ _ _ hb]
  exact e
 | succ r ih=>
  intro j i s H vb tb c hr hj I g fS fI eS hit hvb hij hbest;have hlt:j+1<us.length:=by omega
  refine F9 FP ?_;rw [DM BH _];show wpAny _ X.A.in1 (seqItems? (.ref S) >>= _) _ _ _;refine A0 (DH eS rfl ?_);show wpAny _ X.A.in1 (tryCatch (pyNext (.ref It)) _ >>= _) _ _ _;refine A0 (CF (W.item (j+1) _ _ _ (by rw [hsz];exact hlt) ⟨hit,hl _ _ _ I g⟩ fun v h' tk' hP hst' hk' => ?_));have hv:us[j+1]? = some v:=by simpa using hP
  obtain ⟨oI,hoI,hoc,hod⟩:=id hst'.1;have I1:L2.Inv X pins σ H {s with heap:=h',toks:=tk' }:=DL fI I fun b o hb e=>hk' b o (fun z=>hb (A5.mp z)) e;have eS':=hk' S _ (by simpa using hSI) eS
  have I2:L2.Inv X (pins ++ [(S,seqObj "list" #[vb, .int (kf i) tb] c),(It,oI)]) σ H {s with heap:=h',toks:=tk' }:=I1.pins_of fun p hp=>by
   rcases AV.mp hp with z | z
   . exact I1.pin p (A8 _ z)
   . rcases AN.mp z with rfl | z
     . exact JG fS eS' (fun v e=>by cases e)
     . rw [A5.mp z];exact JG fI hoI (fun v e=>by rw [hod] at e;cases e)
  show wpAny _ X.A.in1 (tryCatch (holding [v] (call (.ref q) [v])) _ >>= _) _ _ _;refine A0 (CF (CP (E1 (turn (j+1) v hv _ _ _ I2 g) (fun x s2 he=> ?_) fun _ _ hF=>hF.elim)));obtain ⟨x',H2,I3,rx,rfl,g2⟩:=he;obtain ⟨t2,rfl⟩:=(show ∃t,x=Value.int (kf (j+1)) t from rx);have pS:=I3.pin (S,seqObj "list" #[vb, .int (kf i) tb] c) (A8 _ (A8 _ (.head _)));have pI:=I3.pin (It,oI) (A8 _ (A8 _ (.tail _ (.head _))));have I4:L2.Inv X pins σ H2 s2:=I3.unpinned;have fS2:=MB fS pS.2.1;have fI2:=MB fI pI.2.1;have hit2:s2.heap.IsListIter It l (j+1+1):=⟨oI,pI.1,hoc,hod⟩;show wpAny _ X.A.in1 (tryCatch (holding [v, .int (kf (j+1)) t2] (richCompare .Lt (.int (kf (j+1)) t2) (.int (kf i) tb) >>= _)) _ >>= _) _ _ _;refine A0 (CF (CP (A0 (show wpAny _ X.A.in1 (compareOp .Lt (.int (kf (j+1)) t2) (.int (kf i) tb)) _ _ _ from TU ?_))));refine A0 (CP (EB ?_));refine A0 (EC (A6 ?_))
  by_cases hb':kf (j+1)<kf i
  . simp only [hb',aW,G6];refine A0 ?_;refine FU pS.1 rfl (A0 (EC ?_));rw [hname];obtain ⟨c2,hc2⟩:∃c2,(s2.heap.update S (Obj.mapSeq fun _=> #[v, .int (kf (j+1)) t2])).get? S=some (seqObj "list" #[v, .int (kf (j+1)) t2] c2):=⟨_,JB pS.1 fun _=> #[v, .int (kf (j+1)) t2]⟩
    have keep:∀b o,b≠S->s2.heap.get? b=some o->(s2.heap.update S (Obj.mapSeq fun _=> #[v, .int (kf (j+1)) t2])).get? b=some o:=fun b o hb e=>by
     rw [DC _ _ _ _ hb];exact e
    refine A6 ⟨E5 BH _,ih (j+1) (j+1) _ H2 v t2 c2 (by omega) hlt (DL fS2 I4 (t':=s2.toks) keep) g2 fS2 fI2 hc2 ⟨oI,keep _ _ hSI.symm pI.1,hoc,hod⟩ hv (AF _) fun j' hj' => ?_⟩
    by_cases e:j'=j+1
    . subst e;exact ⟨by omega,fun _=>by omega⟩
    . have hb1:=(hbest j' (by omega)).1;exact ⟨by omega,fun _=>by omega⟩
  . simp only [hb',WX,CW,FC];refine A0 (EC ?_);rw [hname];refine A6 ⟨E5 BH _,ih (j+1) i _ H2 vb tb c (by omega) hlt I4 g2 fS2 fI2 pS.1 hit2 hvb (by omega) fun j' hj' => ?_⟩
    by_cases e:j'=j+1
    . subst e;exact ⟨by omega,fun _=>by omega⟩
    . exact hbest j' (by omega)
theorem y6 {pins : List (Addr × Obj)} {σ : L2.St} {H : Hp} {s : Shared} {l q : Addr} {us : List Value} {Q : Value -> Shared -> Prop} {E : Value -> Shared -> Prop} (kf : Nat -> Int) (G : Hp -> Prop) (hh : X.A.handled = none) (I : L2.Inv X pins σ H s) (g : G H)
 (hl:∀pins1 s1 H1,L2.Inv X pins1 σ H1 s1->G H1->s1.heap.IsList l us.toArray) (hne:0<us.length)
 (turn:∀(i:Nat) (u:Value),us[i]? = some u->∀pins1 s1 H1,L2.Inv X pins1 σ H1 s1->G H1->wpAny (model X.prog X.w) X.A.in1 (call (.ref q) [u]) (L2.EP X pins1 σ (fun v H2=>v = .int (kf i)/\G H2)) (fun _ _=>False) s1)
 (hQ:∀(i:Nat) u s1 H1,us[i]? = some u->(∀j,j<us.length->kf i<=kf j/\(j<i->kf i<kf j))->L2.Inv X pins σ H1 s1->G H1->Q u s1) :
 wpAny (model X.prog X.w) X.A (call (.builtin "min") [.ref l] [(Str.ofString "key", .ref q)]) Q E s:=by
 have hname:(toString "min" ++ toString ".loop" : String) = "min.loop" :=by decide
 have hls:=hl _ _ _ I g;obtain ⟨ol,hol,_⟩:=id hls;have hll:l<s.heap.objs.size:=AU hol;refine kmk_tree PySem.F.kind_min AA1 AA2 (kmk_min_key _ _) ?_;show wpAny _ X.A.in1 (Builtin.Builtins.bindParams "min" ["key","default"] 0 ⟨[],[(Str.ofString "key", .ref q)]⟩ >>= _) _ _ s;refine A0 (MQ (show Builtin.Builtins.bindParams "min" ["key","default"] 0 ⟨[],[(Str.ofString "key", .ref q)]⟩=pure [some (.ref q),none] from rfl) ?_);refine A0 (A6 ?_);refine A0 (iD hls ?_);refine A0 (aU ?_ (CJ _));rw [hname];have hS:(s.heap.push {cls:= .type "list_iterator",data:= .fields #[.ref l, .int 0 0]}).objs.size=s.heap.objs.size+1:=size_push' ..;refine A6 ⟨E5 BH _,?_⟩
 have gI:((s.heap.push {cls:= .type "list_iterator",data:= .fields #[.ref l, .int 0 0]}).push (seqObj "list" #[] 0)).get? s.heap.objs.size=some {cls:= .type "list_iterator",data:= .fields #[.ref l, .int 0 0]} :=
  A4 _ (AI _ rfl)
 have gS:((s.heap.push {cls:= .type "list_iterator",data:= .fields #[.ref l, .int 0 0]}).push (seqObj "list" #[] 0)).get? (s.heap.push {cls:= .type "list_iterator",data:= .fields #[.ref l, .int 0 0]}).objs.size=some (seqObj "list" #[] 0):=AI _ rfl;rw [hS] at gS ⊢
 have keep0:∀b o,s.heap.get? b=some o->((s.heap.push {cls:= .type "list_iterator",data:= .fields #[.ref l, .int 0 0]}).push (seqObj "list" #[] 0)).get? b=some o:=fun b o e=>A4 _ (A4 _ e);have fI:JH X pins H s.heap.objs.size:=I.fpOk (AF _) (I.hok.fresh (AF _));have fS:JH X pins H (s.heap.objs.size+1):=I.fpOk (ET _) (I.hok.fresh (ET _));have hlI:l≠s.heap.objs.size:=BP hll;have hSI:s.heap.objs.size+1≠s.heap.objs.size:=by omega
 have I0:L2.Inv X pins σ H {s with heap:=(s.heap.push {cls:= .type "list_iterator",data:= .fields #[.ref l, .int 0 0]}).push (seqObj "list" #[] 0),toks:=s.toks}:=I.kept keep0;generalize s.heap.objs.size=It at gI gS fI fS hlI hSI
 have W:=Walks.list (prog:=X.prog) (w:=X.w) (A:=X.A.in1) hh It l hlI us.toArray;have hsz:us.toArray.size=us.length:=AT ..;refine F9 FP ?_;rw [DM BH _];show wpAny _ X.A.in1 (seqItems? (.ref _) >>= _) _ _ _;refine A0 (DH gS rfl ?_);show wpAny _ X.A.in1 (tryCatch (pyNext (.ref It)) _ >>= _) _ _ _;refine A0 (CF (W.item 0 _ _ _ (by rw [hsz];exact hne) ⟨⟨_,gI,rfl,rfl⟩,hl _ _ _ I0 g⟩ fun v h' tk' hP hst' hk' => ?_));have hv:us[0]? = some v:=by simpa using hP
 obtain ⟨oI,hoI,hoc,hod⟩:=id hst'.1;have I1:=DL fI I0 (h':=h') (t':=tk') fun b o hb e=>hk' b o (fun z=>hb (A5.mp z)) e;have eS':=hk' (It+1) _ (by simp) gS
 have I2:L2.Inv X (pins ++ [(It+1,seqObj "list" #[] 0),(It,oI)]) σ H {s with heap:=h',toks:=tk' }:=I1.pins_of fun p hp=>by
  rcases AV.mp hp with z | z
  . exact I1.pin p (A8 _ z)
  . rcases AN.mp z with rfl | z
    . exact JG fS eS' (fun v e=>by cases e)
    . rw [A5.mp z];exact JG fI hoI (fun v e=>by rw [hod] at e;cases e)
 show wpAny _ X.A.in1 (tryCatch (holding [v] (call (.ref q) [v])) _ >>= _) _ _ _;refine A0 (CF (CP (E1 (turn 0 v hv _ _ _ I2 g) (fun x s2 he=> ?_) fun _ _ hF=>hF.elim)));obtain ⟨x',H2,I3,rx,rfl,g2⟩:=he;obtain ⟨t2,rfl⟩:=(show ∃t,x=Value.int (kf 0) t from rx);have pS:=I3.pin (It+1,seqObj "list" #[] 0) (A8 _ (A8 _ (.head _)));have pI:=I3.pin (It,oI) (A8 _ (A8 _ (.tail _ (.head _))));have I4:L2.Inv X pins σ H2 s2:=I3.unpinned;have fS2:=MB fS pS.2.1;have fI2:=MB fI pI.2.1;obtain ⟨c2,hc2⟩:∃c2,(s2.heap.update (It+1) (Obj.mapSeq fun _=> #[v, .int (kf 0) t2])).get? (It+1)=some (seqObj "list" #[v, .int (kf 0) t2] c2):=⟨_,JB pS.1 fun _=> #[v, .int (kf 0) t2]⟩
 have keep:∀b o,b≠It+1->s2.heap.get? b=some o->(s2.heap.update (It+1) (Obj.mapSeq fun _=> #[v, .int (kf 0) t2])).get? b=some o:=fun b o hb e=>by
  rw [DC _ _ _ _ hb];exact e
 show wpAny _ X.A.in1 (updateSeq (It+1) (fun _=> #[v, .int (kf 0) t2]) >>= _) _ _ _;refine A0 ?_;refine FU pS.1 rfl ?_;rw [hname];refine A6 ⟨E5 BH _,oO kf G hh hl hlI hSI turn hQ _ 0 0 _ H2 v t2 c2 rfl hne (DL fS2 I4 (t':=s2.toks) keep) g2 fS2 fI2 hc2 ⟨oI,keep _ _ (BP (GF It)) pI.1,hoc,hod⟩ hv (AF _) fun j' hj' => ?_⟩;have e:j'=0:=by omega
 subst e;exact ⟨by omega,fun h=>absurd h (FR _)⟩
end Tf
namespace Tf
open PySem PySem.Spec PyProof.Rows L2
def yA:V->Value
 | .ref a=> .ref a
 | _=> .none
theorem UK:∀ {vs:List V} {its:List Value},(∀v ∈ vs,∃a,v = .ref a)->Vals vs its->its=vs.map yA
 | [],_,_, .nil=>rfl
 | v::vs,_,h, .cons r rs=>by
  obtain ⟨a,rfl⟩:=h v AQ
  cases r
  rw [B0,UK (fun v hv=>h v (AK _ hv)) rs];rfl
def Least(n:Nat)(kf:Nat->Int)(i:Nat):Prop:=∀j,j<n->kf i<=kf j/\(j<i->kf i<kf j)
def jE(K:PySem.W.Frag)(sp:Sp):V->Hp->VK->Prop:=fun x H Q=>∃(l:Addr) (vs:List V) (kf:Nat->Int) (G:Hp->Prop),x = .ref l/\vs ≠ []/\(∀v ∈ vs,∃a,v = .ref a)/\G H/\(∀H2,G H2->SqL K H2 l vs) /\
 (∀(i:Nat) v,vs[i]? = some v->∀H2,G H2->sp [v] H2 (fun w H3=>w = .int (kf i)/\G H3) E0)/\(∀(i:Nat) v H2,vs[i]? = some v->Least vs.length kf i->G H2->Q v H2)
def uE(K:PySem.W.Frag)(sp:Sp)(te:TE):TE:=fun σ H Q=>te σ H fun v H1=>jE K sp v H1 Q
variable {X:Cx}
theorem A63 {x:Str} {f:Addr} {pos:Pos} (hg:Gl X x) (hm:X.mg x=some (.ref f)) (hdb:(x==("__debug__" : Str))=false):PE X (.Name x pos) (tC (.ref f)):=fun _ _ _ H _ I h=>bL I hg hm ⟨.ref f,H,I,rfl,h⟩ hdb
theorem rJ {k j : Nat} {x f : Str} {ps : List Str} {sp : Sp} {p pos pf pk : Pos} {e : Expr} {te : TE} (D : Def X.prog X.w X.K X.mg X.base j f ps sp) (hr : Room k X.A) (h : PE X e te) (hx : x = "min") (hv : bootBuiltins x = some (.builtin "min")) (hm : X.mg x = none) (hj : j + 1 <= k) (hg : Gl X x) (hgf : Gl X f) (hn : x ≠ "__name__") (hdb : (x == ("__debug__" : Str)) = false) (hdf : (f == ("__debug__" : Str)) = false)
 (he:starEach [e] X.env=(false,eval e X.env)::starEach [] X.env) (hpl:(backTo pos (starEach [e] X.env)).any (·.1)=false) (hkw:(backToKw pos (keywordEach [⟨some "key", .Name f pf,pk⟩] X.env)).any (·.1.isNone)=false) (hall:(backToKw pos (keywordEach [⟨some "key", .Name f pf,pk⟩] X.env)).all (·.1.isSome)=true) (hks:(backToKw pos (keywordEach [⟨some "key", .Name f pf,pk⟩] X.env)).filterMap (·.1) = [Str.ofString "key"]) :
 PE X (.Call (.Name x p) [e] [⟨some "key", .Name f pf,pk⟩] pos) (uE X.K sp te):=by
 intro pins s σ H Q I h0;obtain ⟨fa,fd,F,hmf,hk,hb⟩:=D.ex;refine E2 (GS I hg hm hv ?_ hn hdb);refine nU hpl hkw (evalArgs_kw2 hall ?_ he);refine thn ((IY h M8 he:PA X [e] (MW te tNil)) pos pins s σ H (fun us' H1=>match us' with | [v]=>jE X.K sp v H1 Q | _=>False) I h0) fun us s1 hA=> ?_
 . obtain ⟨vs1,H1,I1,r,q⟩:=hA
   obtain ⟨v,rfl⟩:∃v,vs1 = [v]:=by
    match vs1,q with
    | [v],_=>exact ⟨v,rfl⟩
   replace q:jE X.K sp v H1 Q:=q
   obtain ⟨u,rfl,ru⟩:=J7 r;refine thn (VS (nm:=some "key") (kpos:=pk) (A63 (pos:=pf) hgf hmf hdf) aH pos pins s1 σ H1 (fun ws H2=>ws = [.ref fa]/\H2=H1) I1 ⟨rfl,rfl⟩) fun ws s2 hB=> ?_;obtain ⟨zs,H2,I2,rz,rfl,rfl⟩:=hB;obtain ⟨w',rfl,rw'⟩:=J7 rz
   cases rw'
   rw [hks];obtain ⟨l,vs,kf,G,rfl,hne,hrf,g,hl,turn,fin⟩:=q
   cases ru
   have lm:(vs.map yA).length=vs.length:=AC _;show wpAny _ X.A (call (.builtin "min") [.ref l] [(Str.ofString "key", .ref fa)]) _ _ _;refine y6 (us:=vs.map yA) kf G hr.hd I2 g (fun pins1 s1 H1 J g1=> ?_) (by rw [lm];exact FK.mpr hne) (fun i u hu pins1 s1 H1 J g1=> ?_) fun i u s1 H1 hu hm J g1=> ?_
   . obtain ⟨its,rv,p1,_⟩:=J.list (hl H1 g1);rw [<-UK hrf rv];exact p1.isList
   . rw [AX] at hu
     obtain ⟨v,ev,rfl⟩:=AG.mp hu;obtain ⟨a,rfl⟩:=hrf v (BB ev);have r2:Vals ([V.ref a] ++ []) ([Value.ref a] ++ []):= .cons rfl .nil;have hs:=turn i _ ev H1 g1;have hlen:([Value.ref a] ++ []).length=ps.length:=F.len _ _ _ _ hs;refine wpAny_call (i9 (F.run X.A.in1 X.stack s1 H1 ⟨[.ref a],[]⟩ ([.ref a] ++ []) ([V.ref a] ++ []) _ E0 ((hr.mono hj).in1) J.env0.in1 (hb s1 [.ref a] J.kIn hlen) r2 hs) fun r s' hq=> ?_)
     cases r with
     | error e=>exact hq.elim
     | ok fl=>
      cases fl with
      | ret u=>exact J.after hq
      | next=>exact False.elim hq
      | brk=>exact False.elim hq
      | cont=>exact False.elim hq
   . rw [AX] at hu
     obtain ⟨v,ev,rfl⟩:=AG.mp hu;obtain ⟨a,rfl⟩:=hrf v (BB ev);rw [lm] at hm
     exact ⟨.ref a,H1,J,rfl,fin i _ H1 ev hm g1⟩
end Tf
namespace Dm
open PySem PySem.Spec PyProof.Rows L2 Tf
def VF(F:List PyData->Option Sl):List PyData->Option (List Int)
 | []=>some []
 | .tuple t::ds=>((F [.tuple t]).bind S6).bind fun k=>(VF F ds).bind fun ks=>some (k::ks)
 | _::_=>none
def ID(ks:List Int):Nat:=ks.findIdx fun k=>ks.all fun m=>decide (k<=m)
def dH(F:List PyData->Option Sl)(fe:En->Option Sl):En->Option Sl:=fun ρ=>(fe ρ).bind fun a=>match a.dat with
 | .list ds=>(VF F ds).bind fun ks=>(ds[ID ks]?).map .val
 | _=>none
theorem UI{F:List PyData->Option Sl}:∀ {ds:List PyData} {ks:List Int},VF F ds=some ks->ks.length=ds.length/\∀(i:Nat) d,ds[i]? = some d->(∃t,d = .tuple t)/\F [d]=some (.val (.int (ks.getD i 0)))
 | [],ks,h=>by cases h;exact ⟨rfl,fun i d hd=>by simp at hd⟩
 | d::ds,ks,h=>by
  cases d with
  | tuple t=>
   obtain ⟨k,h1,h⟩:=A3.mp h;obtain ⟨ks',h2,h⟩:=A3.mp h
   cases h
   obtain ⟨s,hs,h1⟩:=A3.mp h1;obtain ⟨e1,e2⟩:=UI h2;refine ⟨by simp [e1],fun i d hd=> ?_⟩
   cases i with
   | zero=>
    cases hd
    exact ⟨⟨t,rfl⟩,by rw [hs,OD h1];rfl⟩
   | succ i=>exact e2 i d hd
  | _=>cases h
theorem VH{ks:List Int}{i:Nat}(hi:i<ks.length)(h:Tf.Least ks.length (fun j=>ks.getD j 0) i):ID ks=i:=by
 have g:∀j (hj:j<ks.length),ks.getD j 0=ks[j]:=fun j hj=>by simp [hj]
 unfold ID;rw [List.findIdx_eq hi];refine ⟨List.all_eq_true.mpr fun m hm=> ?_,fun j hj=> ?_⟩
 . obtain ⟨j,hj,e⟩:=HV.mp hm;have:=(h j hj).1
   dsimp only at this
   rw [g i hi,g j hj,e] at this
   exact AR this
 . have:=(h j (by omega)).2 hj
   dsimp only at this
   rw [g i hi,g j (by omega)] at this
   refine G7.mpr fun c=> ?_;have:=AO (F1.mp c ks[i] (F3 hi));omega
theorem OU{K:PySem.W.Frag}{H:Hp}:∀ {vs:List V} {ds:List PyData} {i:Nat} {v:V},Reps K H vs ds->vs[i]? = some v->∃d,ds[i]? = some d/\Rep K H v d
 | _,_,0,_, .cons h t,e=>by cases e;exact ⟨_,rfl,h⟩
 | _,_,i+1,_, .cons h t,e=>OU (i:=i) t e
 | _,_,i,_, .nil,e=>by simp at e
section
variable {K:PySem.W.Frag} {R:Rl} [RelOk K R]
theorem sB{F:List PyData->Option Sl}{te:TE}{fe:En->Option Sl}(h:RP K R te fe):RE K R (uE K (spD K F) te) (dH F fe):=fun HB σ ρ H0 H s e z hz Q q=>by
 obtain ⟨x,hx,hz⟩:=A3.mp hz
 split at hz
 . rename_i ds hd;obtain ⟨ks,hks,hz⟩:=A3.mp hz;obtain ⟨d0,hd0,rfl⟩:=AG.mp hz;obtain ⟨kl,kg⟩:=UI hks;refine h HB σ ρ H0 H s e x hx _ fun v H1 J1 x1 p1=> ?_;obtain ⟨a,vs,rfl,h1,h2⟩:=p1.lst x1.s1 hd;have hl:=h2.length;refine ⟨a,vs,fun i=>ks.getD i 0,fun H2=>∃H0',Ext H1 J1 H0' H2,rfl,?_,fun v hv=> ?_,⟨H1,Ext.refl x1.s1⟩,fun H2 ⟨H0',y⟩=>y.s.seq h1,fun i v hv H2 ⟨H0',y⟩ => ?_,fun i v H2 hv hm ⟨H0',y⟩ => ?_⟩
   . intro c;subst c;have:ds = []:=D4.mp hl.symm;subst this;simp at hd0
   . obtain ⟨i,hi⟩:=E7.mp hv;obtain ⟨d,ed,rd⟩:=OU h2 hi;obtain ⟨⟨t,rfl⟩,_⟩:=kg i d ed
     cases rd
     exact ⟨_,rfl⟩
   . obtain ⟨d,ed,rd⟩:=OU h2 hv;obtain ⟨_,kd⟩:=kg i d ed;exact ⟨H0',[d],_,y.s1, .cons (Rep.same y.s0 rd) .nil,kd,fun w H3 J3 y2 p2=>⟨by have:=p2.p;exact this.int,H3,y.trans y2⟩⟩
   . have hi:i<vs.length:=(AS.mp hv).1;obtain ⟨d,ed,rd⟩:=OU h2 hv;have ea:ID ks=i:=VH (by omega) (by rw [kl, <-hl];exact hm);rw [ea,ed] at hd0
     cases hd0
     exact q _ _ _ (x1.trans y) (Rep.same y.s0 rd)
 . cases hz
end
section
variable {X:Cx} {R:Rl} [RelOk X.K R]
theorem sA {k j : Nat} {f : Str} {ps : List Str} {F : List PyData -> Option Sl} {p pos pf pk : Pos} {e : Expr} {fe : En -> Option Sl} (D : Tf.Def X.prog X.w X.K X.mg X.base j f ps (spD X.K F)) (hr : Room k X.A) (hv : bootBuiltins "min" = some (.builtin "min")) (hm : X.mg "min" = none) (h : DP X R e fe) (hj : j + 1 <= k := by decide) (hg : Gl X "min" := by rfl) (hgf : Gl X f := by rfl) (hdf : (f == ("__debug__" : Str)) = false := by decide)
 (he:starEach [e] X.env=(false,eval e X.env)::starEach [] X.env:=by rfl) (hpl:(backTo pos (starEach [e] X.env)).any (·.1)=false:=by rfl) (hkw:(backToKw pos (keywordEach [⟨some "key", .Name f pf,pk⟩] X.env)).any (·.1.isNone)=false:=by rfl) (hall:(backToKw pos (keywordEach [⟨some "key", .Name f pf,pk⟩] X.env)).all (·.1.isSome)=true:=by rfl) (hks:(backToKw pos (keywordEach [⟨some "key", .Name f pf,pk⟩] X.env)).filterMap (·.1) = [Str.ofString "key"]:=by rfl) :
 DE X R (.Call (.Name "min" p) [e] [⟨some "key", .Name f pf,pk⟩] pos) (dH F fe):=by
 obtain ⟨t,h1,h2⟩:=h;exact ⟨_,rJ D hr h1 rfl hv hm hj hg hgf (by decide) (by decide) hdf he hpl hkw hall hks,sB h2⟩
end
end Dm
namespace Tf
open PySem PySem.Spec PyProof.Rows L2
theorem WF{a b c:Value}:∀(l:List Value),TriplesOk l->(∃i t,a = .int i t)->(∃i t,b = .int i t)->TriplesOk (l ++ [a,b,c]):=by
 intro l h ha hb;obtain ⟨i,t,rfl⟩:=ha;obtain ⟨j,u,rfl⟩:=hb
 fun_induction TriplesOk l with
 | case1=>exact CM
 | case2 _ _ _ _ _ GR ih=>exact ih h
 | case3=>exact h.elim
theorem aR{pos pos':Pos}{c v:Value}:∀(l:List Value),TriplesOk l->codeAmong pos' (l ++ [rawInt pos.line,rawInt pos.col,c])=some v->codeAmong pos' l=some v\/v=c:=by
 intro l h e
 fun_induction TriplesOk l with
 | case1=>
  simp only [LK,codeAmong,rawInt] at e
  split at e
  . cases e;exact .inr rfl
  . cases e
 | case2 i t j u x GR ih=>
  have e':codeAmong pos' (.int i t :: .int j u::x::(GR ++ [rawInt pos.line,rawInt pos.col,c]))=some v:=e;rw [codeAmong] at e' ⊢
  by_cases hc:(i==(pos'.line:Int) && j==(pos'.col:Int))=true
  . rw [AD hc] at e' ⊢
    exact .inl e'
  . rw [AA hc] at e' ⊢
    exact ih h e'
 | case3=>exact h.elim
def BM(h:Heap)(mg:Str->Option Value):Prop:=∃bm o,mg "__builtins__" = some (.ref bm)/\bm≠builtinsNs/\h.get? bm=some o/\o.cls = .type "module" /\ o.dict=some builtinsNs/\o.data = .plain
def fG(f:Addr)(fo:Obj):HO:= .ext fun h=>h.get? f=some fo
structure Made (H H':Hp) (f c:Addr) (oc fo:Obj):Prop where
 same:∃H1,(H1=H\/(H c=none/\H1=upd H c (.frz oc (.own 0))))/\H1 f=none/\H'=upd H1 f (fG f fo)
 code:H' c=some (.frz oc (.own 0))
 fn:H' f=some (fG f fo)
 rec_:∃vs x,oc.data = .fields vs/\vs[1]? = some x
variable {X:Cx}
abbrev O7 (X:Cx) (params:Arguments) (body:Expr) (scope:Scope) (clos:List (Str×Addr)) (pm:Value) (c:Addr) (ctv:Value):Obj:=PySem.W.kla_obj "<lambda>" (X.env.qual ++ "<lambda>") params body scope clos pm c ctv
def A85(X:Cx)(params:Arguments)(body:Expr)(scope:Scope)(clos:List (Str×Addr)):TE:=fun σ H Q=>∀f c oc pm ctv H',Made H H' f c oc (O7 X params body scope clos pm c ctv)->Q (.ref f) H'
theorem lG {params : Arguments} {body : Expr} {scope : Scope} {pos : Pos} {c P : Addr} {clos : List (Str × Addr)} (hcd : X.env.code = .ref c) (C : PySem.W.CodeHd X.base c P) (hp : P ∈ IN X.K) (bm : BM X.base X.mg)
 (hdef:defaultsOf params X.env=([],[])) (hcl:closureFor scope X.env=pure clos):PE X (.Lambda params body scope pos) (A85 X params body scope clos):=by
 intro pins s σ H Q I q;obtain ⟨ps,hP⟩:=I.tb P hp;obtain ⟨qs,e1,e2,e3⟩:=I.hok P _ hP;have hgs:s.heap.Ns mainGlobals X.mg:=I.mod.glob.keeps I.bk;have C':PySem.W.CodeHd s.heap c P:=C.keeps I.bk
 have hgP:mainGlobals≠P:=fun z=>by
  obtain ⟨o,es,ep,e,hd,_⟩:=hgs;rw [z,e1] at e;cases e;cases hd
 have hb:s.heap.BuiltinsAt X.mg P:=by
  obtain ⟨b,ob,b1,b2,b3,b4,b5,b6⟩:=bm;have b3':=I.bk _ _ b3;refine ⟨b,ob,b1,b2,fun z=> ?_,fun z=> ?_,b3',b4,b5,b6⟩
  . obtain ⟨o,es,ep,e,hd,_⟩:=hgs;rw [z,e] at b3';cases b3';rw [hd] at b6;cases b6
  . rw [z,e1] at b3';cases b3';cases b4
 have Pne:∀ {b:Addr} {u:HO},H b=some u->(∀ps,u ≠ .tbl ps)->b≠P:=fun {b u} e n z=>by
  subst z;rw [hP] at e
  cases e
  exact n ps rfl
 have fin : ∀ (f c' : Addr) (oc : Obj) (vs : Array Value) (x : Value) (pm ctv : Value) (H1 : Hp) (h2 : Heap) (tk : Nat) (qs' : Array Value), (H1 = H \/ (H c' = none /\ H1 = upd H c' (.frz oc (.own 0)) /\ s.heap.objs.size <= c')) -> s.heap.objs.size <= f -> f ≠ c' ->
  (∀b o,b≠P->s.heap.get? b=some o->h2.get? b=some o)->h2.get? P=some (PySem.W.tabObj qs')->TriplesOk qs'.toList->(∀pos v,codeAmong pos qs'.toList=some v->codeAmong pos qs.toList=some v\/v = .ref c') ->
  h2.get? c'=some oc->H1 c'=some (.frz oc (.own 0))->oc.data = .fields vs->vs[1]? = some x ->
  h2.get? f=some (O7 X params body scope clos pm c' ctv)->EP X pins σ Q (.ref f) {s with heap:=h2,toks:=tk}:=fun f c' oc vs x pm ctv H1 h2 tk qs' h1 hf hfc kp tP tT tC hoc hc hd hv ho=>by
  have h0:H f=none:=I.hok.fresh hf
  have hn:H1 f=none:=by
   rcases h1 with rfl | ⟨_,rfl,_⟩
   . exact h0
   . rw [BE hfc];exact h0
  have up:∀ {b:Addr} {u:HO},H b=some u->H1 b=some u:=fun {b u} e=>by
   rcases h1 with rfl | ⟨h1n,rfl,_⟩
   . exact e
   . rw [BE (BI e h1n)];exact e
  have nf:∀ {b:Addr} {u:HO},H1 b=some u->b≠f:=fun {b u} e=>BI e hn
  let fo:=O7 X params body scope clos pm c' ctv
  have up2:∀ {b:Addr} {u:HO},H b=some u->upd H1 f (fG f fo) b=some u:=fun {b u} e=>by rw [BE (nf (up e))];exact up e
  have ok:HOk X.prog X.w (upd H1 f (fG f fo)) h2:=fun b u e=>by
   by_cases hb:b=f
   . subst hb;rw [BZ] at e
     cases e
     exact ⟨ho,⟨_,ho⟩,fun h1 h2 p k=>k _ p⟩
   . rw [BE hb] at e
     have cs:(b=c'/\u = .frz oc (.own 0))\/H b=some u:=by
      rcases h1 with rfl | ⟨h1n,rfl,_⟩
      . exact .inr e
      . by_cases hbc:b=c'
        . subst hbc;rw [BZ] at e
          cases e
          exact .inl ⟨rfl,rfl⟩
        . rw [BE hbc] at e
          exact .inr e
     rcases cs with ⟨rfl,rfl⟩ | e
     . exact ⟨hoc,oc,hoc⟩
     . by_cases hbP:b=P
       . subst hbP;rw [hP] at e
         cases e
         refine ⟨qs',tP,tT,fun pos' v hv' => ?_⟩;rcases tC pos' v hv' with z | z
         . obtain ⟨d,od,ws,y,r1,r2,r3⟩:=e3 pos' v z;exact ⟨d,od,ws,y,r1,up2 r2,r3⟩
         . exact ⟨c',oc,vs,x,z,by rw [BE (NG hfc)];exact hc,hd,hv⟩
       . refine (I.hok b u e).stay (fun d v hd' r=>kp d v ?_ r) (fun d r=>up2 r) (fun d xs r=>up2 r) fun d ob xs r=>up2 r;rcases hd' with rfl | r
         . exact hbP
         . exact Pne r fun ps z=>by cases z
  refine ⟨.ref f,upd H1 f (fG f fo),?_,rfl,q f c' oc pm ctv _ ⟨⟨H1,h1.imp id fun z=>⟨z.1,z.2.1⟩,hn,rfl⟩,by rw [BE (NG hfc)];exact hc,BZ,vs,x,hd,hv⟩⟩;have nP:∀ {b:Addr},H b=none->b≠P:=fun {b} n z=>by subst z;rw [hP] at n;cases n
  refine I.call' (ch:= []) rfl ⟨fun b o e n _ _=>kp b o (nP n) e,fun b o e n _ _=>⟨o.slots,kp b o (nP n) e⟩,fun b o e n _=> ?_,fun b o e _=> ?_,fun b xs e=>up2 e,fun b o u e=>up2 e,fun b ps e=>⟨#[],?_⟩⟩ ok I.bare (fun b z=>absurd z (by simp))
  . have lb:=AU e;rw [BE (fun z=>by subst z;exact absurd (BA lb hf) (FR _))];rcases h1 with rfl | ⟨h1n,rfl,hcs⟩
    . exact n
    . rw [BE (fun z=>by subst z;exact absurd (BA lb hcs) (FR _))];exact n
  . by_cases hbP:b=P
    . subst hbP;exact ⟨_,tP⟩
    . exact ⟨o,kp b o hbP e⟩
  . rw [up2 e];simp
 refine PySem.W.kla_eval hdef ?_
 cases hc:codeAmong pos qs.toList with
 | none=>
  refine PySem.W.kla_makeFunction (mg:=X.mg) hcl I.ok.glob hgs hcd C' e1 e2 hc hgP hb fun c' ctv h' tk hx hge hlt hrec htb=> ?_;obtain ⟨c2,oc,vs,t,ec,hoc,hd,hv⟩:=hrec
  cases ec
  refine fin h'.objs.size c' oc vs _ _ ctv (upd H c' (.frz oc (.own 0))) _ tk _ (.inr ⟨I.hok.fresh hge,rfl,hge⟩) (BQ hge (JO hlt)) (PP hlt) (fun b o hb e=>A4 _ (hx b o hb e)) (A4 _ htb) ?_ (fun pos' v hv' => ?_) (A4 _ hoc) BZ hd hv (AI _ rfl)
  . rw [GD];exact WF _ e2 ⟨_,_,rfl⟩ ⟨_,_,rfl⟩
  . rw [GD] at hv'
    exact aR _ e2 hv'
 | some v=>
  obtain ⟨c',oc,vs,x,rfl,h2,h3,h4⟩:=e3 pos v hc;refine PySem.W.kla_makeFunctionHit (mg:=X.mg) hcl I.ok.glob hgs hcd C' e1 e2 hc hb fun ctv h' tk hk hsz=> ?_;have hoc:s.heap.get? c'=some oc:=(I.hok c' _ h2).1;exact fin h'.objs.size c' oc vs x _ ctv H _ tk qs (.inl rfl) hsz (PP (BA (AU hoc) hsz)) (fun b o _ e=>A4 _ (hk b o e)) (A4 _ (hk _ _ e1)) e2 (fun _ _ z=> .inl z) (A4 _ (hk _ _ hoc)) h2 h3 h4 (AI _ rfl)
end Tf
namespace Tf
open PySem PySem.Spec PyProof.Rows L2
structure LB where
 q:Str
 f:Addr
 cd:Value
 s:Shared
 H:Hp
def MJ(X:Cx)(N':List Str)(sc:Scope)(cl:List (Str×Addr))(b:LB):Cx where
 prog:=X.prog
 w:=X.w
 K:=X.K
 mg:=X.mg
 base:=X.base
 A:=X.A.in1.deeper (PySem.W.envX b.q sc b.s.heap.objs.size b.f b.cd cl)
 N:=N'
 s₀:=b.s
 H₀:=b.H
 env:=PySem.W.envX b.q sc b.s.heap.objs.size b.f b.cd cl
 outer:=X.stack
 stack:=PySem.W.envX b.q sc b.s.heap.objs.size b.f b.cd cl::X.stack
 ex:= []
 calm:=true
 fn:=fun _=>false
 pn:= []
 xe:=fun _ _=>False
structure LamSc (X:Cx) (sc:Scope) (cl:List (Str×Addr)) (x:Str) (ys:List Str):Prop where
 kind:sc.kind = .function
 co:sc.isCoroutine=false
 gen:sc.isGenerator=false
 par:sc.names.lookup x=some .local
 nocell:∀y ∈ sc.names,y.2 ≠ .cell
 free:∀y,sc.names.lookup y=some .free->y ∈ ys
 fr:∀y ∈ ys,sc.names.lookup y=some .free
 cells:∀y c,cl.lookup y=some c->X.env.cells.lookup y=some c
 has:∀y ∈ ys,∃c,cl.lookup y=some c
 out:∀y ∈ ys,X.env.scope.names.lookup y=some .cell
variable {X:Cx}
theorem sN {pins : List (Addr × Obj)} {σ σ' : L2.St} {H : Hp} {s : Shared} {h₁ : Heap} {tk : Nat} {sc : Scope} {cl : List (Str × Addr)} {x q : Str} {ys : List Str} {f : Addr} {cd u : Value} {v : V} (I : L2.Inv X pins σ H s) (hh : X.A.handled = none) (S : LamSc X sc cl x ys) (r : RelV v u)
 (hns:h₁.Ns s.heap.objs.size (fun y=> [(x,u)].reverse.lookup y)) (hk:∀b o,s.heap.get? b=some o->h₁.get? b=some o)
 (hl:σ'.length=ys.length+1) (h0:σ'[0]? = some (some v)) (hc:∀(i:Nat) y w,ys[i]? = some y->σ'[i+1]? = some (some w)->∃j:Nat,X.N[j]? = some y/\σ[j]? = some (some w)) :
 L2.Inv (MJ X (x::ys) sc cl ⟨q,f,cd,s,H⟩) [] σ' H {s with heap:=h₁,toks:=tk}:=by
 refine ⟨⟨I.ok.mod,S.kind,rfl,rfl,AF _,fun y z c h1 h2=>I.ok.inj y z c (S.cells y c h1) (S.cells z c h2),fun y hy=> ?_,fun y c hf=>absurd hf (by simp [MJ]),fun _=>hh,AB8 I.env0.in1.frames, .inr ⟨rfl,rfl⟩,fun b z=>absurd z (by simp [MJ]),I.bs,BQ I.ok.bsz I.sz,fun b _ _ z=>absurd z (by simp [MJ]),fun b z=>absurd z (by simp [MJ]),I.stack,I.stkFree,I.tb⟩,
  rfl,I.bare,Un.kept hk,⟨_,hns,fun i y w h1 h2 h3=> ?_⟩,fun y c h=> ?_,I.hok.fresh (AF _),fun y c h=>I.freeC y c (S.cells y c h),fun p hp=>absurd (show p ∈ ([]:List (Addr×Obj)) from hp) (by simp),I.hok.kept hk,?_⟩
 . have hy:sc.names.lookup y=some .cell\/sc.names.lookup y=some .free:=hy;rcases hy with hy | hy
   . exact absurd rfl (S.nocell _ (EQ hy))
   . exact S.has y (S.free y hy)
 . have h1:(x::ys)[i]? = some y:=h1
   cases i with
   | zero=>
    cases h1
    rw [h0] at h2
    cases h2
    exact ⟨u,r, .inl ⟨S.par,by simp⟩⟩
   | succ i=>
    have h1:ys[i]? = some y:=h1;obtain ⟨j,j1,j2⟩:=hc i y w h1 h2;have my:=BB h1;obtain ⟨m,_,lm⟩:=I.loc;obtain ⟨u',ru,lk⟩:=lm j y w j1 j2 (.inr (.inl (S.out y my)));refine ⟨u',ru, .inr ⟨.inr (S.fr y my),?_⟩⟩;obtain ⟨c,ec⟩:=S.has y my;rcases lk with ⟨k,_⟩ | ⟨_,c',e',ce⟩
    . have:=S.out y my;have k':X.env.scope.names.lookup y=some .local:=k;rw [this] at k'
      cases k'
    . rw [S.cells y c ec] at e'
      cases e'
      obtain ⟨o,ho,hd⟩:=ce;exact ⟨c,ec,o,hk _ _ ho,hd⟩
 . obtain ⟨w,o,ho,hd⟩:=I.cell y c (S.cells y c h);exact ⟨w,o,hk _ _ ho,hd⟩
 . show σ'.length=(x::ys).length;rw [hl];rfl
theorem X0 {pins : List (Addr × Obj)} {σ σ' : L2.St} {H : Hp} {s : Shared} {params : Arguments} {body : Expr} {sc : Scope} {cl : List (Str × Addr)} {x : Str} {ys : List Str} {f c : Addr} {oc : Obj} {pm ctv u : Value} {v : V} {Q : VK} {tb : LB -> TE}
 (I:L2.Inv X pins σ H s) (hh:X.A.handled=none) (room:X.A.in1.depth<recursionLimit) (S:LamSc X sc cl x ys) (r:RelV v u) (hf:H f=some (fG f (O7 X params body sc cl pm c ctv))) (hco:H c=some (.frz oc (.own 0))) (hre:∃vs y,oc.data = .fields vs/\vs[1]? = some y)
 (hb:∀(pm ct cd:Value),bindArgs (PySem.W.kla_fn "<lambda>" (X.env.qual ++ "<lambda>") params body sc cl pm cd ct) ⟨[u],[]⟩=pure [(x,u)])
 (hl:σ'.length=ys.length+1) (h0:σ'[0]? = some (some v)) (hc:∀(i:Nat) y w,ys[i]? = some y->σ'[i+1]? = some (some w)->∃j:Nat,X.N[j]? = some y/\σ[j]? = some (some w))
 (hB:∀b:LB,PE (MJ X (x::ys) sc cl b) body (tb b)) (ht:∀b:LB,tb b σ' H Q) :
 wpAny (model X.prog X.w) X.A.in1 (call (.ref f) [u]) (L2.EP X pins σ Q) (fun _ _=>False) s:=by
 obtain ⟨ho,_,_⟩:=I.hok f _ hf;have ho:s.heap.get? f=some (O7 X params body sc cl pm c ctv):=ho;have hoc:s.heap.get? c=some oc:=(I.hok c _ hco).1;obtain ⟨vs,y,hd,hv⟩:=hre;refine wpAny_call (codeAny_of_tree ?_);show wpAny _ X.A.in1.in1 (callAny (.ref f) ⟨[u],[]⟩) _ _ s;simp only [callAny];refine A0 (wpAny_load ho ?_);simp only [callFunction,S.co,S.gen]
 have GR : ∀ comp : Str, wpAny (model X.prog X.w) X.A.in1.in1 (do
  let env <-newFunctionEnv sc mainGlobals cl (<-bindArgs (PySem.W.kla_fn "<lambda>" (X.env.qual ++ "<lambda>") params body sc cl pm (.ref c) ctv) ⟨[u],[]⟩) (comp ++ ".<locals>.") (some f) (.ref c) none builtinsNs
  enterFrame
  again (.expr body env)) (fun fin s'=>match fin with | .done f=>(match (Except.ok f:Result) with | .ok (.ret v)=>L2.EP X pins σ Q v s' | .ok _=>False | .error e=>False) | .again c'=>c'.quiet=true/\codeAny (model X.prog X.w) X.A.in1 c' (fun r s'=>match r with | .ok (.ret v)=>L2.EP X pins σ Q v s' | .ok _=>False | .error e=>False) s') (fun e s'=>False) s:=fun comp=>by
  rw [hb];refine A0 (A6 ?_);refine A0 (wpAny_newFunctionEnv S.nocell (fun z hz=> ?_) (fun h₁ hns hsb=> ?_) S.kind)
  . rw [A5.mp hz];exact S.par
  have hk₁:∀b o,s.heap.get? b=some o->h₁.get? b=some o:=fun b o e=>hsb.extBut b o (BP (AU e)) (A4 _ e);refine A0 (wpAny_enterFrame (I.nolimit.keeps hk₁) (by exact room) (A6 ⟨rfl,?_⟩));have J:=sN (q:=comp) (f:=f) (cd:= .ref c) (tk:=s.toks+1) I hh S r hns hk₁ hl h0 hc;refine PySem.W.kla_codeExpr (E1 (hB ⟨comp,f, .ref c,s,H⟩ [] _ σ' H Q J (ht _)) (fun w s' he=> ?_) fun _ _ z=>z.elim);obtain ⟨v',H',J',rv,q⟩:=he;exact I.after ⟨v',H',J'.os,J'.bare,J'.base,J'.hok,rv,q⟩
 refine A0 (m:=field (.ref c) 1) (WT hoc hd hv ?_)
 cases y <;> exact A0 (A6 (GR _))
end Tf
namespace Tf
open PySem PySem.Spec PyProof.Rows L2
def LeastK(n:Nat)(kf:Nat->Int)(i:Nat):Prop:=∀j,j<n->kf i<=kf j/\(j<i->kf i<kf j)
def GreatK(n:Nat)(kf:Nat->Int)(i:Nat):Prop:=∀j,j<n->kf j<=kf i/\(j<i->kf j<kf i)
variable {X:Cx}
theorem Z1 {pins : List (Addr × Obj)} {σ : L2.St} {d q It S : Addr} {od : Obj} {es : Array DictEntry} {ep : Nat} {us : List Value} (kf : Nat -> Int) (G : Hp -> Prop) (hh : X.A.handled = none) (hdd : od.data = .dict es ep) (hus : us.length = es.size) (huk : ∀ (i : Nat) (hi : i < es.size) u, us[i]? = some u -> es[i].key = u)
 (hl:∀pins1 s1 H1,L2.Inv X pins1 σ H1 s1->G H1->s1.heap.get? d=some od) (hlI:d≠It) (hSI:S≠It)
 (turn:∀(i:Nat) (u:Value),us[i]? = some u->∀pins1 s1 H1,L2.Inv X pins1 σ H1 s1->G H1->wpAny (model X.prog X.w) X.A.in1 (call (.ref q) [u]) (L2.EP X pins1 σ (fun v H2=>v = .int (kf i)/\G H2)) (fun _ _=>False) s1)
 {R:Result->Shared->Prop} (hR:∀(i:Nat) u s1 H1,us[i]? = some u->LeastK us.length kf i->L2.Inv X pins σ H1 s1->G H1->R (.ok (.ret u)) s1) :
 ∀(r j i:Nat) (s:Shared) (H:Hp) (vb:Value) (tb:Tok) (c:Nat),us.length - (j+1)=r->j+1<=us.length->L2.Inv X pins σ H s->G H->JH X pins H S->JH X pins H It ->
   s.heap.get? S=some (seqObj "list" #[vb, .int (kf i) tb] c)->s.heap.IsKeyIter It d (j+1) es.size ep->us[i]? = some vb->i<=j->(∀j',j'<=j->kf i<=kf j'/\(j'<i->kf i<kf j')) ->
   codeAny (model X.prog X.w) X.A (.builtin "min.loop" ⟨[.ref It, .ref q, .ref S],[]⟩) R s:=by
 have hname:(toString "min" ++ toString ".loop" : String) = "min.loop" :=by decide
 have W:=QY (prog:=X.prog) (w:=X.w) (A:=X.A.in1) hh It d hlI od es ep hdd;intro r
 induction r with
 | zero=>
  intro j i s H vb tb c hr hj I g fS fI eS hit hvb hij hbest;have hin:j+1=us.length:=by omega
  refine F9 FP ?_;rw [DM BH _];show wpAny _ X.A.in1 (seqItems? (.ref S) >>= _) _ _ _;refine A0 (DH eS rfl ?_);show wpAny _ X.A.in1 (tryCatch (pyNext (.ref It)) _ >>= _) _ _ _;refine A0 (CF (W.done _ _ _ ⟨by rw [<-hus, <-hin];exact (by rw [<-hus, <-hin] at hit;exact hit),hl _ _ _ I g⟩ fun h' tk' hk' => ?_));have I1:L2.Inv X pins σ H {s with heap:=h',toks:=tk' }:=DL fI I fun b o hb e=>hk' b o (fun z=>hb (A5.mp z)) e;have eS':=hk' S _ (by simpa using hSI) eS;show wpAny _ X.A.in1 (updateSeq S (fun _=> #[]) >>= _) _ _ _;refine A0 ?_;refine FU eS' rfl (A0 (EC (A6 ?_)));refine hR i vb _ H hvb (fun j' hj'=>hbest j' (by omega)) (DL fS I1 (t':=tk') fun b o hb e=> ?_) g;show (h'.update S _).get? b=some o;rw [DC _ _ _ _ hb]
  exact e
 | succ r ih=>
  intro j i s H vb tb c hr hj I g fS fI eS hit hvb hij hbest;have hlt:j+1<us.length:=by omega
  have hlt':j+1<es.size:=by omega
  refine F9 FP ?_;rw [DM BH _];show wpAny _ X.A.in1 (seqItems? (.ref S) >>= _) _ _ _;refine A0 (DH eS rfl ?_);show wpAny _ X.A.in1 (tryCatch (pyNext (.ref It)) _ >>= _) _ _ _;refine A0 (CF (W.item (j+1) _ _ _ hlt' ⟨hit,hl _ _ _ I g⟩ fun v h' tk' hP hst' hk' => ?_))
  have hv:us[j+1]? = some v:=by
   obtain ⟨hi,e⟩:=hP;have e1:us[j+1]? = some us[j+1]:=AB hlt;rw [e1, <-e,huk _ hi _ e1]
  obtain ⟨oI,hoI,hoc,hod⟩:=id hst'.1;have I1:L2.Inv X pins σ H {s with heap:=h',toks:=tk' }:=DL fI I fun b o hb e=>hk' b o (fun z=>hb (A5.mp z)) e;have eS':=hk' S _ (by simpa using hSI) eS
  have I2:L2.Inv X (pins ++ [(S,seqObj "list" #[vb, .int (kf i) tb] c),(It,oI)]) σ H {s with heap:=h',toks:=tk' }:=I1.pins_of fun p hp=>by
   rcases AV.mp hp with z | z
   . exact I1.pin p (A8 _ z)
   . rcases AN.mp z with rfl | z
     . exact JG fS eS' (fun v e=>by cases e)
     . rw [A5.mp z];exact JG fI hoI (fun v e=>by rw [hod] at e;cases e)
  show wpAny _ X.A.in1 (tryCatch (holding [v] (call (.ref q) [v])) _ >>= _) _ _ _;refine A0 (CF (CP (E1 (turn (j+1) v hv _ _ _ I2 g) (fun x s2 he=> ?_) fun _ _ hF=>hF.elim)));obtain ⟨x',H2,I3,rx,rfl,g2⟩:=he;obtain ⟨t2,rfl⟩:=(show ∃t,x=Value.int (kf (j+1)) t from rx);have pS:=I3.pin (S,seqObj "list" #[vb, .int (kf i) tb] c) (A8 _ (A8 _ (.head _)));have pI:=I3.pin (It,oI) (A8 _ (A8 _ (.tail _ (.head _))));have I4:L2.Inv X pins σ H2 s2:=I3.unpinned;have fS2:=MB fS pS.2.1;have fI2:=MB fI pI.2.1;have hit2:s2.heap.IsKeyIter It d (j+1+1) es.size ep:=⟨oI,pI.1,hoc,hod⟩;show wpAny _ X.A.in1 (tryCatch (holding [v, .int (kf (j+1)) t2] (richCompare .Lt (.int (kf (j+1)) t2) (.int (kf i) tb) >>= _)) _ >>= _) _ _ _;refine A0 (CF (CP (A0 (show wpAny _ X.A.in1 (compareOp .Lt (.int (kf (j+1)) t2) (.int (kf i) tb)) _ _ _ from TU ?_))));refine A0 (CP (EB ?_));refine A0 (EC (A6 ?_))
  by_cases hb':kf (j+1)<kf i
  . simp only [hb',aW,G6];refine A0 ?_;refine FU pS.1 rfl (A0 (EC ?_));rw [hname];obtain ⟨c2,hc2⟩:∃c2,(s2.heap.update S (Obj.mapSeq fun _=> #[v, .int (kf (j+1)) t2])).get? S=some (seqObj "list" #[v, .int (kf (j+1)) t2] c2):=⟨_,JB pS.1 fun _=> #[v, .int (kf (j+1)) t2]⟩
    have keep:∀b o,b≠S->s2.heap.get? b=some o->(s2.heap.update S (Obj.mapSeq fun _=> #[v, .int (kf (j+1)) t2])).get? b=some o:=fun b o hb e=>by
     rw [DC _ _ _ _ hb];exact e
    refine A6 ⟨E5 BH _,ih (j+1) (j+1) _ H2 v t2 c2 (by omega) hlt (DL fS2 I4 (t':=s2.toks) keep) g2 fS2 fI2 hc2 ⟨oI,keep _ _ hSI.symm pI.1,hoc,hod⟩ hv (AF _) fun j' hj' => ?_⟩
    by_cases e:j'=j+1
    . subst e;exact ⟨by omega,fun _=>by omega⟩
    . have hb1:=(hbest j' (by omega)).1;exact ⟨by omega,fun _=>by omega⟩
  . simp only [hb',WX,CW,FC];refine A0 (EC ?_);rw [hname];refine A6 ⟨E5 BH _,ih (j+1) i _ H2 vb tb c (by omega) hlt I4 g2 fS2 fI2 pS.1 hit2 hvb (by omega) fun j' hj' => ?_⟩
    by_cases e:j'=j+1
    . subst e;exact ⟨by omega,fun _=>by omega⟩
    . exact hbest j' (by omega)
theorem xH {pins : List (Addr × Obj)} {σ : L2.St} {H : Hp} {s : Shared} {d q : Addr} {od : Obj} {es : Array DictEntry} {ep : Nat} {us : List Value} {Q : Value -> Shared -> Prop} {E : Value -> Shared -> Prop} (kf : Nat -> Int) (G : Hp -> Prop) (hh : X.A.handled = none) (I : L2.Inv X pins σ H s) (g : G H)
 (hds:(d==sysModules)=false) (hcl:od.cls = .type "dict") (hdd:od.data = .dict es ep) (hus:us.length=es.size) (huk:∀(i:Nat) (hi:i<es.size) u,us[i]? = some u->es[i].key=u)
 (hl:∀pins1 s1 H1,L2.Inv X pins1 σ H1 s1->G H1->s1.heap.get? d=some od) (hne:0<us.length)
 (turn:∀(i:Nat) (u:Value),us[i]? = some u->∀pins1 s1 H1,L2.Inv X pins1 σ H1 s1->G H1->wpAny (model X.prog X.w) X.A.in1 (call (.ref q) [u]) (L2.EP X pins1 σ (fun v H2=>v = .int (kf i)/\G H2)) (fun _ _=>False) s1)
 (hQ:∀(i:Nat) u s1 H1,us[i]? = some u->LeastK us.length kf i->L2.Inv X pins σ H1 s1->G H1->Q u s1) :
 wpAny (model X.prog X.w) X.A (call (.builtin "min") [.ref d] [(Str.ofString "key", .ref q)]) Q E s:=by
 have hname:(toString "min" ++ toString ".loop" : String) = "min.loop" :=by decide
 have hol:=hl _ _ _ I g;have hll:d<s.heap.objs.size:=AU hol;refine kmk_tree PySem.F.kind_min AA1 AA2 (kmk_min_key _ _) ?_;show wpAny _ X.A.in1 (Builtin.Builtins.bindParams "min" ["key","default"] 0 ⟨[],[(Str.ofString "key", .ref q)]⟩ >>= _) _ _ s;refine A0 (MQ (show Builtin.Builtins.bindParams "min" ["key","default"] 0 ⟨[],[(Str.ofString "key", .ref q)]⟩=pure [some (.ref q),none] from rfl) ?_);refine A0 (A6 ?_)
 let oi:Obj:={cls:= .type "dict_keyiterator",data:= .fields #[.ref d, .int 0 0, .int es.size 0, .int ep 0]}
 refine A0 (cX hds hol hcl hdd ?_);refine A0 (aU ?_ (CJ _));rw [hname];have hS:(s.heap.push oi).objs.size=s.heap.objs.size+1:=size_push' ..;refine A6 ⟨E5 BH _,?_⟩
 have gI:((s.heap.push oi).push (seqObj "list" #[] 0)).get? s.heap.objs.size=some oi:=
  A4 _ (AI _ rfl)
 have gS:((s.heap.push oi).push (seqObj "list" #[] 0)).get? (s.heap.push oi).objs.size=some (seqObj "list" #[] 0):=AI _ rfl;rw [hS] at gS
 show codeAny _ _ (.builtin "min.loop" ⟨[.ref s.heap.objs.size, .ref q, .ref (s.heap.push oi).objs.size],[]⟩) _ _;rw [hS];have keep0:∀b o,s.heap.get? b=some o->((s.heap.push oi).push (seqObj "list" #[] 0)).get? b=some o:=fun b o e=>A4 _ (A4 _ e);have fI:JH X pins H s.heap.objs.size:=I.fpOk (AF _) (I.hok.fresh (AF _));have fS:JH X pins H (s.heap.objs.size+1):=I.fpOk (ET _) (I.hok.fresh (ET _));have hlI:d≠s.heap.objs.size:=BP hll;have hSI:s.heap.objs.size+1≠s.heap.objs.size:=by omega
 have I0:L2.Inv X pins σ H {s with heap:=(s.heap.push oi).push (seqObj "list" #[] 0),toks:=s.toks}:=I.kept keep0;generalize s.heap.objs.size=It at gI gS fI fS hlI hSI
 have W:=QY (prog:=X.prog) (w:=X.w) (A:=X.A.in1) hh It d hlI od es ep hdd;refine F9 FP ?_;rw [DM BH _];show wpAny _ X.A.in1 (seqItems? (.ref _) >>= _) _ _ _;refine A0 (DH gS rfl ?_);show wpAny _ X.A.in1 (tryCatch (pyNext (.ref It)) _ >>= _) _ _ _;refine A0 (CF (W.item 0 _ _ _ (by rw [<-hus];exact hne) ⟨⟨_,gI,rfl,rfl⟩,hl _ _ _ I0 g⟩ fun v h' tk' hP hst' hk' => ?_))
 have hv:us[0]? = some v:=by
  obtain ⟨hi,e⟩:=hP;have e1:us[0]? = some us[0]:=AB hne;rw [e1, <-e,huk _ hi _ e1]
 obtain ⟨oI,hoI,hoc,hod⟩:=id hst'.1;have I1:=DL fI I0 (h':=h') (t':=tk') fun b o hb e=>hk' b o (fun z=>hb (A5.mp z)) e;have eS':=hk' (It+1) _ (by simp) gS
 have I2:L2.Inv X (pins ++ [(It+1,seqObj "list" #[] 0),(It,oI)]) σ H {s with heap:=h',toks:=tk' }:=I1.pins_of fun p hp=>by
  rcases AV.mp hp with z | z
  . exact I1.pin p (A8 _ z)
  . rcases AN.mp z with rfl | z
    . exact JG fS eS' (fun v e=>by cases e)
    . rw [A5.mp z];exact JG fI hoI (fun v e=>by rw [hod] at e;cases e)
 show wpAny _ X.A.in1 (tryCatch (holding [v] (call (.ref q) [v])) _ >>= _) _ _ _;refine A0 (CF (CP (E1 (turn 0 v hv _ _ _ I2 g) (fun x s2 he=> ?_) fun _ _ hF=>hF.elim)));obtain ⟨x',H2,I3,rx,rfl,g2⟩:=he;obtain ⟨t2,rfl⟩:=(show ∃t,x=Value.int (kf 0) t from rx);have pS:=I3.pin (It+1,seqObj "list" #[] 0) (A8 _ (A8 _ (.head _)));have pI:=I3.pin (It,oI) (A8 _ (A8 _ (.tail _ (.head _))));have I4:L2.Inv X pins σ H2 s2:=I3.unpinned;have fS2:=MB fS pS.2.1;have fI2:=MB fI pI.2.1;obtain ⟨c2,hc2⟩:∃c2,(s2.heap.update (It+1) (Obj.mapSeq fun _=> #[v, .int (kf 0) t2])).get? (It+1)=some (seqObj "list" #[v, .int (kf 0) t2] c2):=⟨_,JB pS.1 fun _=> #[v, .int (kf 0) t2]⟩
 have keep:∀b o,b≠It+1->s2.heap.get? b=some o->(s2.heap.update (It+1) (Obj.mapSeq fun _=> #[v, .int (kf 0) t2])).get? b=some o:=fun b o hb e=>by
  rw [DC _ _ _ _ hb];exact e
 show wpAny _ X.A.in1 (updateSeq (It+1) (fun _=> #[v, .int (kf 0) t2]) >>= _) _ _ _;refine A0 ?_;refine FU pS.1 rfl ?_;rw [hname];refine A6 ⟨E5 BH _,Z1 kf G hh hdd hus huk hl hlI hSI turn hQ _ 0 0 _ H2 v t2 c2 rfl hne (DL fS2 I4 (t':=s2.toks) keep) g2 fS2 fI2 hc2 ⟨oI,keep _ _ (BP (GF It)) pI.1,hoc,hod⟩ hv (AF _) fun j' hj' => ?_⟩;have e:j'=0:=by omega
 subst e;exact ⟨by omega,fun h=>absurd h (FR _)⟩
theorem YG {pins : List (Addr × Obj)} {σ : L2.St} {d q It S : Addr} {od : Obj} {es : Array DictEntry} {ep : Nat} {us : List Value} (kf : Nat -> Int) (G : Hp -> Prop) (hh : X.A.handled = none) (hdd : od.data = .dict es ep) (hus : us.length = es.size) (huk : ∀ (i : Nat) (hi : i < es.size) u, us[i]? = some u -> es[i].key = u)
 (hl:∀pins1 s1 H1,L2.Inv X pins1 σ H1 s1->G H1->s1.heap.get? d=some od) (hlI:d≠It) (hSI:S≠It)
 (turn:∀(i:Nat) (u:Value),us[i]? = some u->∀pins1 s1 H1,L2.Inv X pins1 σ H1 s1->G H1->wpAny (model X.prog X.w) X.A.in1 (call (.ref q) [u]) (L2.EP X pins1 σ (fun v H2=>v = .int (kf i)/\G H2)) (fun _ _=>False) s1)
 {R:Result->Shared->Prop} (hR:∀(i:Nat) u s1 H1,us[i]? = some u->GreatK us.length kf i->L2.Inv X pins σ H1 s1->G H1->R (.ok (.ret u)) s1) :
 ∀(r j i:Nat) (s:Shared) (H:Hp) (vb:Value) (tb:Tok) (c:Nat),us.length - (j+1)=r->j+1<=us.length->L2.Inv X pins σ H s->G H->JH X pins H S->JH X pins H It ->
   s.heap.get? S=some (seqObj "list" #[vb, .int (kf i) tb] c)->s.heap.IsKeyIter It d (j+1) es.size ep->us[i]? = some vb->i<=j->(∀j',j'<=j->kf j'<=kf i/\(j'<i->kf j'<kf i)) ->
   codeAny (model X.prog X.w) X.A (.builtin "max.loop" ⟨[.ref It, .ref q, .ref S],[]⟩) R s:=by
 have hname:(toString "max" ++ toString ".loop" : String) = "max.loop" :=by decide
 have W:=QY (prog:=X.prog) (w:=X.w) (A:=X.A.in1) hh It d hlI od es ep hdd;intro r
 induction r with
 | zero=>
  intro j i s H vb tb c hr hj I g fS fI eS hit hvb hij hbest;have hin:j+1=us.length:=by omega
  refine F9 PX ?_;rw [DM EN _];show wpAny _ X.A.in1 (seqItems? (.ref S) >>= _) _ _ _;refine A0 (DH eS rfl ?_);show wpAny _ X.A.in1 (tryCatch (pyNext (.ref It)) _ >>= _) _ _ _;refine A0 (CF (W.done _ _ _ ⟨by rw [<-hus, <-hin];exact (by rw [<-hus, <-hin] at hit;exact hit),hl _ _ _ I g⟩ fun h' tk' hk' => ?_));have I1:L2.Inv X pins σ H {s with heap:=h',toks:=tk' }:=DL fI I fun b o hb e=>hk' b o (fun z=>hb (A5.mp z)) e;have eS':=hk' S _ (by simpa using hSI) eS;show wpAny _ X.A.in1 (updateSeq S (fun _=> #[]) >>= _) _ _ _;refine A0 ?_;refine FU eS' rfl (A0 (EC (A6 ?_)));refine hR i vb _ H hvb (fun j' hj'=>hbest j' (by omega)) (DL fS I1 (t':=tk') fun b o hb e=> ?_) g;show (h'.update S _).get? b=some o;rw [DC _ _ _ _ hb]
  exact e
 | succ r ih=>
  intro j i s H vb tb c hr hj I g fS fI eS hit hvb hij hbest;have hlt:j+1<us.length:=by omega
  have hlt':j+1<es.size:=by omega
  refine F9 PX ?_;rw [DM EN _];show wpAny _ X.A.in1 (seqItems? (.ref S) >>= _) _ _ _;refine A0 (DH eS rfl ?_);show wpAny _ X.A.in1 (tryCatch (pyNext (.ref It)) _ >>= _) _ _ _;refine A0 (CF (W.item (j+1) _ _ _ hlt' ⟨hit,hl _ _ _ I g⟩ fun v h' tk' hP hst' hk' => ?_))
  have hv:us[j+1]? = some v:=by
   obtain ⟨hi,e⟩:=hP;have e1:us[j+1]? = some us[j+1]:=AB hlt;rw [e1, <-e,huk _ hi _ e1]
  obtain ⟨oI,hoI,hoc,hod⟩:=id hst'.1;have I1:L2.Inv X pins σ H {s with heap:=h',toks:=tk' }:=DL fI I fun b o hb e=>hk' b o (fun z=>hb (A5.mp z)) e;have eS':=hk' S _ (by simpa using hSI) eS
  have I2:L2.Inv X (pins ++ [(S,seqObj "list" #[vb, .int (kf i) tb] c),(It,oI)]) σ H {s with heap:=h',toks:=tk' }:=I1.pins_of fun p hp=>by
   rcases AV.mp hp with z | z
   . exact I1.pin p (A8 _ z)
   . rcases AN.mp z with rfl | z
     . exact JG fS eS' (fun v e=>by cases e)
     . rw [A5.mp z];exact JG fI hoI (fun v e=>by rw [hod] at e;cases e)
  show wpAny _ X.A.in1 (tryCatch (holding [v] (call (.ref q) [v])) _ >>= _) _ _ _;refine A0 (CF (CP (E1 (turn (j+1) v hv _ _ _ I2 g) (fun x s2 he=> ?_) fun _ _ hF=>hF.elim)));obtain ⟨x',H2,I3,rx,rfl,g2⟩:=he;obtain ⟨t2,rfl⟩:=(show ∃t,x=Value.int (kf (j+1)) t from rx);have pS:=I3.pin (S,seqObj "list" #[vb, .int (kf i) tb] c) (A8 _ (A8 _ (.head _)));have pI:=I3.pin (It,oI) (A8 _ (A8 _ (.tail _ (.head _))));have I4:L2.Inv X pins σ H2 s2:=I3.unpinned;have fS2:=MB fS pS.2.1;have fI2:=MB fI pI.2.1;have hit2:s2.heap.IsKeyIter It d (j+1+1) es.size ep:=⟨oI,pI.1,hoc,hod⟩;show wpAny _ X.A.in1 (tryCatch (holding [v, .int (kf (j+1)) t2] (richCompare .Gt (.int (kf (j+1)) t2) (.int (kf i) tb) >>= _)) _ >>= _) _ _ _;refine A0 (CF (CP (A0 (show wpAny _ X.A.in1 (compareOp .Gt (.int (kf (j+1)) t2) (.int (kf i) tb)) _ _ _ from PyProof.Rows.gt_int ?_))));refine A0 (CP (EB ?_));refine A0 (EC (A6 ?_))
  by_cases hb':kf i<kf (j+1)
  . simp only [hb',aW,G6];refine A0 ?_;refine FU pS.1 rfl (A0 (EC ?_));rw [hname];obtain ⟨c2,hc2⟩:∃c2,(s2.heap.update S (Obj.mapSeq fun _=> #[v, .int (kf (j+1)) t2])).get? S=some (seqObj "list" #[v, .int (kf (j+1)) t2] c2):=⟨_,JB pS.1 fun _=> #[v, .int (kf (j+1)) t2]⟩
    have keep:∀b o,b≠S->s2.heap.get? b=some o->(s2.heap.update S (Obj.mapSeq fun _=> #[v, .int (kf (j+1)) t2])).get? b=some o:=fun b o hb e=>by
     rw [DC _ _ _ _ hb];exact e
    refine A6 ⟨E5 EN _,ih (j+1) (j+1) _ H2 v t2 c2 (by omega) hlt (DL fS2 I4 (t':=s2.toks) keep) g2 fS2 fI2 hc2 ⟨oI,keep _ _ hSI.symm pI.1,hoc,hod⟩ hv (AF _) fun j' hj' => ?_⟩
    by_cases e:j'=j+1
    . subst e;exact ⟨by omega,fun _=>by omega⟩
    . have hb1:=(hbest j' (by omega)).1;exact ⟨by omega,fun _=>by omega⟩
  . simp only [hb',WX,CW,FC];refine A0 (EC ?_);rw [hname];refine A6 ⟨E5 EN _,ih (j+1) i _ H2 vb tb c (by omega) hlt I4 g2 fS2 fI2 pS.1 hit2 hvb (by omega) fun j' hj' => ?_⟩
    by_cases e:j'=j+1
    . subst e;exact ⟨by omega,fun _=>by omega⟩
    . exact hbest j' (by omega)
theorem y9 {pins : List (Addr × Obj)} {σ : L2.St} {H : Hp} {s : Shared} {d q : Addr} {od : Obj} {es : Array DictEntry} {ep : Nat} {us : List Value} {Q : Value -> Shared -> Prop} {E : Value -> Shared -> Prop} (kf : Nat -> Int) (G : Hp -> Prop) (hh : X.A.handled = none) (I : L2.Inv X pins σ H s) (g : G H)
 (hds:(d==sysModules)=false) (hcl:od.cls = .type "dict") (hdd:od.data = .dict es ep) (hus:us.length=es.size) (huk:∀(i:Nat) (hi:i<es.size) u,us[i]? = some u->es[i].key=u)
 (hl:∀pins1 s1 H1,L2.Inv X pins1 σ H1 s1->G H1->s1.heap.get? d=some od) (hne:0<us.length)
 (turn:∀(i:Nat) (u:Value),us[i]? = some u->∀pins1 s1 H1,L2.Inv X pins1 σ H1 s1->G H1->wpAny (model X.prog X.w) X.A.in1 (call (.ref q) [u]) (L2.EP X pins1 σ (fun v H2=>v = .int (kf i)/\G H2)) (fun _ _=>False) s1)
 (hQ:∀(i:Nat) u s1 H1,us[i]? = some u->GreatK us.length kf i->L2.Inv X pins σ H1 s1->G H1->Q u s1) :
 wpAny (model X.prog X.w) X.A (call (.builtin "max") [.ref d] [(Str.ofString "key", .ref q)]) Q E s:=by
 have hname:(toString "max" ++ toString ".loop" : String) = "max.loop" :=by decide
 have hol:=hl _ _ _ I g;have hll:d<s.heap.objs.size:=AU hol;refine kmk_tree PySem.F.kind_max PySem.F.plain_max PySem.F.entry_max (kmk_max_key _ _) ?_;show wpAny _ X.A.in1 (Builtin.Builtins.bindParams "max" ["key","default"] 0 ⟨[],[(Str.ofString "key", .ref q)]⟩ >>= _) _ _ s;refine A0 (MQ (show Builtin.Builtins.bindParams "max" ["key","default"] 0 ⟨[],[(Str.ofString "key", .ref q)]⟩=pure [some (.ref q),none] from rfl) ?_);refine A0 (A6 ?_)
 let oi:Obj:={cls:= .type "dict_keyiterator",data:= .fields #[.ref d, .int 0 0, .int es.size 0, .int ep 0]}
 refine A0 (cX hds hol hcl hdd ?_);refine A0 (aU ?_ (CJ _));rw [hname];have hS:(s.heap.push oi).objs.size=s.heap.objs.size+1:=size_push' ..;refine A6 ⟨E5 EN _,?_⟩
 have gI:((s.heap.push oi).push (seqObj "list" #[] 0)).get? s.heap.objs.size=some oi:=
  A4 _ (AI _ rfl)
 have gS:((s.heap.push oi).push (seqObj "list" #[] 0)).get? (s.heap.push oi).objs.size=some (seqObj "list" #[] 0):=AI _ rfl;rw [hS] at gS
 show codeAny _ _ (.builtin "max.loop" ⟨[.ref s.heap.objs.size, .ref q, .ref (s.heap.push oi).objs.size],[]⟩) _ _;rw [hS];have keep0:∀b o,s.heap.get? b=some o->((s.heap.push oi).push (seqObj "list" #[] 0)).get? b=some o:=fun b o e=>A4 _ (A4 _ e);have fI:JH X pins H s.heap.objs.size:=I.fpOk (AF _) (I.hok.fresh (AF _));have fS:JH X pins H (s.heap.objs.size+1):=I.fpOk (ET _) (I.hok.fresh (ET _));have hlI:d≠s.heap.objs.size:=BP hll;have hSI:s.heap.objs.size+1≠s.heap.objs.size:=by omega
 have I0:L2.Inv X pins σ H {s with heap:=(s.heap.push oi).push (seqObj "list" #[] 0),toks:=s.toks}:=I.kept keep0;generalize s.heap.objs.size=It at gI gS fI fS hlI hSI
 have W:=QY (prog:=X.prog) (w:=X.w) (A:=X.A.in1) hh It d hlI od es ep hdd;refine F9 PX ?_;rw [DM EN _];show wpAny _ X.A.in1 (seqItems? (.ref _) >>= _) _ _ _;refine A0 (DH gS rfl ?_);show wpAny _ X.A.in1 (tryCatch (pyNext (.ref It)) _ >>= _) _ _ _;refine A0 (CF (W.item 0 _ _ _ (by rw [<-hus];exact hne) ⟨⟨_,gI,rfl,rfl⟩,hl _ _ _ I0 g⟩ fun v h' tk' hP hst' hk' => ?_))
 have hv:us[0]? = some v:=by
  obtain ⟨hi,e⟩:=hP;have e1:us[0]? = some us[0]:=AB hne;rw [e1, <-e,huk _ hi _ e1]
 obtain ⟨oI,hoI,hoc,hod⟩:=id hst'.1;have I1:=DL fI I0 (h':=h') (t':=tk') fun b o hb e=>hk' b o (fun z=>hb (A5.mp z)) e;have eS':=hk' (It+1) _ (by simp) gS
 have I2:L2.Inv X (pins ++ [(It+1,seqObj "list" #[] 0),(It,oI)]) σ H {s with heap:=h',toks:=tk' }:=I1.pins_of fun p hp=>by
  rcases AV.mp hp with z | z
  . exact I1.pin p (A8 _ z)
  . rcases AN.mp z with rfl | z
    . exact JG fS eS' (fun v e=>by cases e)
    . rw [A5.mp z];exact JG fI hoI (fun v e=>by rw [hod] at e;cases e)
 show wpAny _ X.A.in1 (tryCatch (holding [v] (call (.ref q) [v])) _ >>= _) _ _ _;refine A0 (CF (CP (E1 (turn 0 v hv _ _ _ I2 g) (fun x s2 he=> ?_) fun _ _ hF=>hF.elim)));obtain ⟨x',H2,I3,rx,rfl,g2⟩:=he;obtain ⟨t2,rfl⟩:=(show ∃t,x=Value.int (kf 0) t from rx);have pS:=I3.pin (It+1,seqObj "list" #[] 0) (A8 _ (A8 _ (.head _)));have pI:=I3.pin (It,oI) (A8 _ (A8 _ (.tail _ (.head _))));have I4:L2.Inv X pins σ H2 s2:=I3.unpinned;have fS2:=MB fS pS.2.1;have fI2:=MB fI pI.2.1;obtain ⟨c2,hc2⟩:∃c2,(s2.heap.update (It+1) (Obj.mapSeq fun _=> #[v, .int (kf 0) t2])).get? (It+1)=some (seqObj "list" #[v, .int (kf 0) t2] c2):=⟨_,JB pS.1 fun _=> #[v, .int (kf 0) t2]⟩
 have keep:∀b o,b≠It+1->s2.heap.get? b=some o->(s2.heap.update (It+1) (Obj.mapSeq fun _=> #[v, .int (kf 0) t2])).get? b=some o:=fun b o hb e=>by
  rw [DC _ _ _ _ hb];exact e
 show wpAny _ X.A.in1 (updateSeq (It+1) (fun _=> #[v, .int (kf 0) t2]) >>= _) _ _ _;refine A0 ?_;refine FU pS.1 rfl ?_;rw [hname];refine A6 ⟨E5 EN _,YG kf G hh hdd hus huk hl hlI hSI turn hQ _ 0 0 _ H2 v t2 c2 rfl hne (DL fS2 I4 (t':=s2.toks) keep) g2 fS2 fI2 hc2 ⟨oI,keep _ _ (BP (GF It)) pI.1,hoc,hod⟩ hv (AF _) fun j' hj' => ?_⟩;have e:j'=0:=by omega
 subst e;exact ⟨by omega,fun h=>absurd h (FR _)⟩
end Tf
namespace Tf
open PySem PySem.Spec PyProof.Rows L2
def LQ(Best:Nat->(Nat->Int)->Nat->Prop)(te:TE)(js:List Nat)(tb:LB->TE):TE:=fun σ H Q=>te σ H fun v H1=>∃a od t,v = .ref a/\H1 a=some (.frz od (.dT t))/\t ≠ [] /\
 ∀f c oc fo H2,Made H1 H2 f c oc fo->∀bs,iW H2 t bs->∃(kf:Nat->Int) (G:Hp->Prop),G H2/\(∀H3,G H3->Same H2 H3) /\
  (∀(i:Nat) b,bs[i]? = some b->∀H3,G H3->∀L,tb L (some (.ref b)::js.map fun j=>(σ[j]?).join) H3 fun w H4=>w = .int (kf i)/\G H4) /\
  ∀(i:Nat) b H3,bs[i]? = some b->Best bs.length kf i->G H3->Q (.ref b) H3
theorem Made.up{H H':Hp}{f c:Addr}{oc fo:Obj}(M:Made H H' f c oc fo){b:Addr}{u:HO}(e:H b=some u):H' b=some u:=by
 obtain ⟨H1,h1,hn,rfl⟩:=M.same
 have e1:H1 b=some u:=by
  rcases h1 with rfl | ⟨h1n,rfl⟩
  . exact e
  . rw [BE (BI e h1n)];exact e
 rw [BE (BI e1 hn)];exact e1
variable {X:Cx}
theorem nG{sc:Scope}{x y:Str}{c:Addr}(hn:sc.names = [(x, .local),(y, .free)])(hk:sc.kind = .function)(hco:sc.isCoroutine=false)(hgen:sc.isGenerator=false)(hxy:(y==x)=false)(hc:X.env.cells.lookup y=some c)(hout:X.env.scope.names.lookup y=some .cell):LamSc X sc [(y,c)] x [y]:=by
 have ly:sc.names.lookup y=some .free:=by rw [hn];simp [List.lookup,hxy]
 refine ⟨hk,hco,hgen,by rw [hn];simp [List.lookup],fun z hz=> ?_,fun z hz=> ?_,fun z hz=> ?_,fun z d h=> ?_,fun z hz=> ?_,fun z hz=> ?_⟩
 . rw [hn] at hz
   simp only [AN,BN,FJ] at hz
   rcases hz with rfl | rfl <;> simp
 . rw [hn] at hz
   have m:=EQ hz;simp only [AN,BN,FJ,Prod.mk.injEq] at m
   rcases m with ⟨_,m⟩ | ⟨rfl,_⟩
   . cases m
   . exact A5.mpr rfl
 . rw [A5.mp hz];exact ly
 . have m:=EQ h;simp only [AN,BN,FJ,Prod.mk.injEq] at m
   obtain ⟨rfl,rfl⟩:=m;exact hc
 . rw [A5.mp hz];exact ⟨c,by simp [List.lookup]⟩
 . rw [A5.mp hz];exact hout
theorem X8{sc:Scope}{env:Env}{x y:Str}{c:Addr}(hn:sc.names = [(x, .local),(y, .free)])(hc:env.cells.lookup y=some c):closureFor sc env=pure [(y,c)]:=by
 unfold closureFor cellOf;rw [hn];simp [hc]
theorem fA {k : Nat} {x y : Str} {params : Arguments} {body e : Expr} {sc : Scope} {p pos pk lpos : Pos} {c P : Addr} {clos : List (Str × Addr)} {j : Nat} {te : TE} {tb : LB -> TE} (hcd : X.env.code = .ref c) (C : PySem.W.CodeHd X.base c P) (hp : P ∈ IN X.K) (bm : BM X.base X.mg) (hdef : defaultsOf params X.env = ([], [])) (hcl : closureFor sc X.env = pure clos)
 (S:LamSc X sc clos x [y]) (hbd:∀(u pm ct cd:Value),bindArgs (PySem.W.kla_fn "<lambda>" (X.env.qual ++ "<lambda>") params body sc clos pm cd ct) ⟨[u],[]⟩=pure [(x,u)]) (hj:X.N[j]? = some y) (hr:Room (k+1) X.A) (h:PE X e te) (hB:∀L,PE (MJ X [x,y] sc clos L) body (tb L))
 (hv:bootBuiltins "min" = some (.builtin "min")) (hm:X.mg "min" = none) (hg:Gl X "min")
 (he:starEach [e] X.env=(false,eval e X.env)::starEach [] X.env) (hpl:(backTo pos (starEach [e] X.env)).any (·.1)=false) (hkw:(backToKw pos (keywordEach [⟨some "key", .Lambda params body sc lpos,pk⟩] X.env)).any (·.1.isNone)=false) (hall:(backToKw pos (keywordEach [⟨some "key", .Lambda params body sc lpos,pk⟩] X.env)).all (·.1.isSome)=true) (hks:(backToKw pos (keywordEach [⟨some "key", .Lambda params body sc lpos,pk⟩] X.env)).filterMap (·.1) = [Str.ofString "key"]) :
 PE X (.Call (.Name "min" p) [e] [⟨some "key", .Lambda params body sc lpos,pk⟩] pos) (LQ LeastK te [j] tb):=by
 intro pins s σ H Q I h0;refine E2 (GS I hg hm hv ?_ (by decide) (by decide));refine nU hpl hkw (evalArgs_kw2 hall ?_ he);refine thn ((IY h M8 he:PA X [e] (MW te tNil)) pos pins s σ H (fun us' H1=>match us' with | [v]=>(LQ LeastK (tC v) [j] tb) σ H1 Q | _=>False) I h0) fun us s1 hA=> ?_;obtain ⟨vs1,H1,I1,r,q⟩:=hA
 obtain ⟨v,rfl⟩:∃v,vs1 = [v]:=by
  match vs1,q with
  | [v],_=>exact ⟨v,rfl⟩
 replace q:(LQ LeastK (tC v) [j] tb) σ H1 Q:=q
 obtain ⟨u,rfl,ru⟩:=J7 r;obtain ⟨a,od,t,rfl,hfz,hne,q⟩:=q
 cases ru
 refine thn (VS (nm:=some "key") (kpos:=pk) (lG (pos:=lpos) (body:=body) hcd C hp bm hdef hcl) aH pos pins s1 σ H1 (fun ws H2=>∃f c oc pm ctv,ws = [.ref f]/\Made H1 H2 f c oc (O7 X params body sc clos pm c ctv)) I1 ?_) fun ws s2 hB2=> ?_
 . intro f c oc pm ctv H' M;exact ⟨f,c,oc,pm,ctv,rfl,M⟩
 obtain ⟨zs,H2,I2,rz,f,c,oc,pm,ctv,rfl,M⟩:=hB2;obtain ⟨w',rfl,rw'⟩:=J7 rz
 cases rw'
 rw [hks];have hfz2:=M.up hfz;obtain ⟨g0,z,hds,ps,kt,o',es,ep,h1,h2,h3,h4,h5⟩:=(show ObjOk X.prog X.w H2 s2.heap a (.frz od (.dT t)) from I2.hok a _ hfz2);rw [g0] at h1
 cases h1
 have lp:es.size=ps.length:=by
  have e1:es.toList.length=ps.length:=by rw [h4,AC]
  rw [<-e1];simp
 have l2:t.length=ps.length:=IF kt;obtain ⟨kf,G,g,hS,turn,fin⟩:=q f c oc _ H2 M _ (cF kt);have bl:((ps.map fun q=>q.2.1).map Value.ref).length=(ps.map fun q=>q.2.1).length:=AC ..
 have at_:∀ {i:Nat} {u:Value},((ps.map fun q=>q.2.1).map Value.ref)[i]? = some u->∃b,(ps.map fun q=>q.2.1)[i]? = some b/\u = .ref b:=fun {i u} hu=>by
  rw [AX] at hu
  obtain ⟨b,eb,rfl⟩:=AG.mp hu;exact ⟨b,eb,rfl⟩
 show wpAny _ X.A (call (.builtin "min") [.ref a] [(Str.ofString "key", .ref f)]) _ _ _;refine xH (us:=(ps.map fun q=>q.2.1).map Value.ref) (es:=es) kf G hr.hd I2 g hds h2.1 h3 (by rw [bl,AC,lp]) (fun i hi u hu=> ?_) (fun pins1 s3 H3 J g3=>(J.hok a _ (hS H3 g3 _ _ hfz2)).1) (by rw [bl,AC, <-l2];exact FK.mpr hne) (fun i u hu pins1 s3 H3 J g3=> ?_) fun i u s3 H3 hu hb J g3=> ?_
 . obtain ⟨b,eb,rfl⟩:=at_ hu;have e3:es.toList[i]? = some es[i]:=by simp [hi]
   rw [h4,AX] at e3
   obtain ⟨p',hp',e4⟩:=AG.mp e3;rw [AX,hp'] at eb
   cases eb
   rw [<-e4];rfl
 . obtain ⟨b,eb,rfl⟩:=at_ hu;refine X0 (v:= .ref b) (tb:=tb) (σ':=some (.ref b) :: [j].map fun j=>(σ[j]?).join) J hr.hd (by have:=hr.in1.depth;exact this) S rfl (hS H3 g3 _ _ M.fn) (hS H3 g3 _ _ M.code) M.rec_ (fun pm ct cd=>hbd _ pm ct cd) rfl rfl (fun i' y' w hy hw=> ?_) hB (turn i b eb H3 g3)
   cases i' with
   | zero=>
    cases hy
    refine ⟨j,hj,?_⟩;have hw:some ((σ[j]?).join)=some (some w):=hw;have hw:=BG hw
    cases e:σ[j]? with
    | none=>rw [e] at hw;cases hw
    | some o=>rw [e] at hw;cases hw;rfl
   | succ i'=>simp at hy
 . obtain ⟨b,eb,rfl⟩:=at_ hu;rw [bl] at hb
   exact ⟨.ref b,H3,J,rfl,fin i b H3 eb hb g3⟩
theorem fP {k : Nat} {x y : Str} {params : Arguments} {body e : Expr} {sc : Scope} {p pos pk lpos : Pos} {c P : Addr} {clos : List (Str × Addr)} {j : Nat} {te : TE} {tb : LB -> TE} (hcd : X.env.code = .ref c) (C : PySem.W.CodeHd X.base c P) (hp : P ∈ IN X.K) (bm : BM X.base X.mg) (hdef : defaultsOf params X.env = ([], [])) (hcl : closureFor sc X.env = pure clos)
 (S:LamSc X sc clos x [y]) (hbd:∀(u pm ct cd:Value),bindArgs (PySem.W.kla_fn "<lambda>" (X.env.qual ++ "<lambda>") params body sc clos pm cd ct) ⟨[u],[]⟩=pure [(x,u)]) (hj:X.N[j]? = some y) (hr:Room (k+1) X.A) (h:PE X e te) (hB:∀L,PE (MJ X [x,y] sc clos L) body (tb L))
 (hv:bootBuiltins "max" = some (.builtin "max")) (hm:X.mg "max" = none) (hg:Gl X "max")
 (he:starEach [e] X.env=(false,eval e X.env)::starEach [] X.env) (hpl:(backTo pos (starEach [e] X.env)).any (·.1)=false) (hkw:(backToKw pos (keywordEach [⟨some "key", .Lambda params body sc lpos,pk⟩] X.env)).any (·.1.isNone)=false) (hall:(backToKw pos (keywordEach [⟨some "key", .Lambda params body sc lpos,pk⟩] X.env)).all (·.1.isSome)=true) (hks:(backToKw pos (keywordEach [⟨some "key", .Lambda params body sc lpos,pk⟩] X.env)).filterMap (·.1) = [Str.ofString "key"]) :
 PE X (.Call (.Name "max" p) [e] [⟨some "key", .Lambda params body sc lpos,pk⟩] pos) (LQ GreatK te [j] tb):=by
 intro pins s σ H Q I h0;refine E2 (GS I hg hm hv ?_ (by decide) (by decide));refine nU hpl hkw (evalArgs_kw2 hall ?_ he);refine thn ((IY h M8 he:PA X [e] (MW te tNil)) pos pins s σ H (fun us' H1=>match us' with | [v]=>(LQ GreatK (tC v) [j] tb) σ H1 Q | _=>False) I h0) fun us s1 hA=> ?_;obtain ⟨vs1,H1,I1,r,q⟩:=hA
 obtain ⟨v,rfl⟩:∃v,vs1 = [v]:=by
  match vs1,q with
  | [v],_=>exact ⟨v,rfl⟩
 replace q:(LQ GreatK (tC v) [j] tb) σ H1 Q:=q
 obtain ⟨u,rfl,ru⟩:=J7 r;obtain ⟨a,od,t,rfl,hfz,hne,q⟩:=q
 cases ru
 refine thn (VS (nm:=some "key") (kpos:=pk) (lG (pos:=lpos) (body:=body) hcd C hp bm hdef hcl) aH pos pins s1 σ H1 (fun ws H2=>∃f c oc pm ctv,ws = [.ref f]/\Made H1 H2 f c oc (O7 X params body sc clos pm c ctv)) I1 ?_) fun ws s2 hB2=> ?_
 . intro f c oc pm ctv H' M;exact ⟨f,c,oc,pm,ctv,rfl,M⟩
 obtain ⟨zs,H2,I2,rz,f,c,oc,pm,ctv,rfl,M⟩:=hB2;obtain ⟨w',rfl,rw'⟩:=J7 rz
 cases rw'
 rw [hks];have hfz2:=M.up hfz;obtain ⟨g0,z,hds,ps,kt,o',es,ep,h1,h2,h3,h4,h5⟩:=(show ObjOk X.prog X.w H2 s2.heap a (.frz od (.dT t)) from I2.hok a _ hfz2);rw [g0] at h1
 cases h1
 have lp:es.size=ps.length:=by
  have e1:es.toList.length=ps.length:=by rw [h4,AC]
  rw [<-e1];simp
 have l2:t.length=ps.length:=IF kt;obtain ⟨kf,G,g,hS,turn,fin⟩:=q f c oc _ H2 M _ (cF kt);have bl:((ps.map fun q=>q.2.1).map Value.ref).length=(ps.map fun q=>q.2.1).length:=AC ..
 have at_:∀ {i:Nat} {u:Value},((ps.map fun q=>q.2.1).map Value.ref)[i]? = some u->∃b,(ps.map fun q=>q.2.1)[i]? = some b/\u = .ref b:=fun {i u} hu=>by
  rw [AX] at hu
  obtain ⟨b,eb,rfl⟩:=AG.mp hu;exact ⟨b,eb,rfl⟩
 show wpAny _ X.A (call (.builtin "max") [.ref a] [(Str.ofString "key", .ref f)]) _ _ _;refine y9 (us:=(ps.map fun q=>q.2.1).map Value.ref) (es:=es) kf G hr.hd I2 g hds h2.1 h3 (by rw [bl,AC,lp]) (fun i hi u hu=> ?_) (fun pins1 s3 H3 J g3=>(J.hok a _ (hS H3 g3 _ _ hfz2)).1) (by rw [bl,AC, <-l2];exact FK.mpr hne) (fun i u hu pins1 s3 H3 J g3=> ?_) fun i u s3 H3 hu hb J g3=> ?_
 . obtain ⟨b,eb,rfl⟩:=at_ hu;have e3:es.toList[i]? = some es[i]:=by simp [hi]
   rw [h4,AX] at e3
   obtain ⟨p',hp',e4⟩:=AG.mp e3;rw [AX,hp'] at eb
   cases eb
   rw [<-e4];rfl
 . obtain ⟨b,eb,rfl⟩:=at_ hu;refine X0 (v:= .ref b) (tb:=tb) (σ':=some (.ref b) :: [j].map fun j=>(σ[j]?).join) J hr.hd (by have:=hr.in1.depth;exact this) S rfl (hS H3 g3 _ _ M.fn) (hS H3 g3 _ _ M.code) M.rec_ (fun pm ct cd=>hbd _ pm ct cd) rfl rfl (fun i' y' w hy hw=> ?_) hB (turn i b eb H3 g3)
   cases i' with
   | zero=>
    cases hy
    refine ⟨j,hj,?_⟩;have hw:some ((σ[j]?).join)=some (some w):=hw;have hw:=BG hw
    cases e:σ[j]? with
    | none=>rw [e] at hw;cases hw
    | some o=>rw [e] at hw;cases hw;rfl
   | succ i'=>simp at hy
 . obtain ⟨b,eb,rfl⟩:=at_ hu;rw [bl] at hb
   exact ⟨.ref b,H3,J,rfl,fin i b H3 eb hb g3⟩
end Tf
namespace Dm
open PySem PySem.Spec PyProof.Rows L2 Tf
def TX(j:Nat)(ρ:En):Option Sl:=match (ρ[j]?).join with
 | some (.val d)=>some (.val d)
 | _=>none
def RU(fb:En->Option Sl)(c:Option Sl):List PyData->Option (List Int)
 | []=>some []
 | k::ks=>((fb [some (.val k),c]).bind S6).bind fun n=>(RU fb c ks).map (n :: ·)
def NZ(ks:List Int):Nat:=ks.findIdx fun k=>ks.all fun m=>decide (m<=k)
def JJ(arg:List Int->Nat)(j:Nat)(fb:En->Option Sl)(fe:En->Option Sl):En->Option Sl:=fun ρ=>(fe ρ).bind fun a=>match a with
 | .val (.dict ((.none, .none)::kvs))=>(RU fb (TX j ρ) (kvs.map (·.1))).bind fun ns=>((kvs.map (·.1))[arg ns]?).map .val
 | _=>none
theorem eY{ks:List Int}{i:Nat}(hi:i<ks.length)(h:Tf.GreatK ks.length (fun j=>ks.getD j 0) i):NZ ks=i:=by
 have g:∀j (hj:j<ks.length),ks.getD j 0=ks[j]:=fun j hj=>by simp [hj]
 unfold NZ;rw [List.findIdx_eq hi];refine ⟨List.all_eq_true.mpr fun m hm=> ?_,fun j hj=> ?_⟩
 . obtain ⟨j,hj,e⟩:=HV.mp hm;have:=(h j hj).1
   dsimp only at this
   rw [g i hi,g j hj,e] at this
   exact AR this
 . have:=(h j (by omega)).2 hj
   dsimp only at this
   rw [g i hi,g j (by omega)] at this
   refine G7.mpr fun c=> ?_;have:=AO (F1.mp c ks[i] (F3 hi));omega
theorem ZQ{ks:List Int}{i:Nat}(hi:i<ks.length)(h:Tf.LeastK ks.length (fun j=>ks.getD j 0) i):ID ks=i:=VH hi h
theorem UL{fb:En->Option Sl}{c:Option Sl}:∀ {ks:List PyData} {ns:List Int},RU fb c ks=some ns->ns.length=ks.length/\∀(i:Nat) k,ks[i]? = some k->fb [some (.val k),c]=some (.val (.int (ns.getD i 0)))
 | [],ns,h=>by cases h;exact ⟨rfl,fun i k e=>by simp at e⟩
 | k::ks,ns,h=>by
  obtain ⟨n,h1,h⟩:=A3.mp h;obtain ⟨ns',h2,rfl⟩:=AG.mp h;obtain ⟨s,hs,h1⟩:=A3.mp h1;obtain ⟨l,g⟩:=UL h2;refine ⟨by simp [l],fun i k' e=> ?_⟩
  cases i with
  | zero=>
   cases e
   rw [hs,OD h1]
   rfl
  | succ i=>exact g i k' e
section
variable {K:PySem.W.Frag}
theorem jV{H0 H H':Hp}{f c:Addr}{oc fo:Obj}(s:Same H0 H)(M:Made H H' f c oc fo):Ext H0 H H0 H':=by
 obtain ⟨H1,h1,hn,rfl⟩:=M.same;rcases h1 with rfl | ⟨h1n,rfl⟩
 . exact Ext.alloc s hn _
 . have x1:=Ext.alloc s h1n (.frz oc (.own 0));exact x1.trans (Ext.alloc x1.s1 hn _)
theorem wX{H:Hp}{v:V}{kvs:List (PyData×PyData)}(h:Rep K H v (.dict ((.none, .none)::kvs))):∃(a:Addr) (o:Obj) (ks:List (List Key)) (xs:List V) (ds:List PyData),v = .ref a/\H a=some (.frz o (.dT (ks.zip xs)))/\ks.length=xs.length/\Reps K H xs ds/\kvs=(ks.map tupD).zip ds:=by
 generalize hd:PyData.dict ((PyData.none,PyData.none)::kvs)=d at h
 cases h with
 | @dict a ks xs ds h1 h2 h3=>
  exfalso;have hd:=PyData.dict.inj hd
  cases ks with
  | nil=>simp at hd
  | cons k ks=>
   cases ds with
   | nil=>simp at hd
   | cons d ds=>
    have:=(o7 hd).1
    cases this
 | @dictF a o ks xs ds h1 h2 h3=>
  have hd:=PyData.dict.inj hd;have e:=(o7 hd).2
  exact ⟨a,o,ks,xs,ds,rfl,h1,h2,h3,e⟩
 | _=>cases hd
theorem UC {Best : Nat -> (Nat -> Int) -> Nat -> Prop} {arg : List Int -> Nat} (harg : ∀ {ks : List Int} {i : Nat}, i < ks.length -> Best ks.length (fun j => ks.getD j 0) i -> arg ks = i) {j : Nat} {te : TE} {tb : LB -> TE} {fe fb : En -> Option Sl} (h : RP K (PR K) te fe) (hB : ∀ L, RE K (PR K) (tb L) fb) :
 RE K (PR K) (LQ Best te [j] tb) (JJ arg j fb fe):=fun HB σ ρ H0 H s e z hz Q q=>by
 obtain ⟨x,hx,hz⟩:=A3.mp hz
 split at hz
 . rename_i kvs;obtain ⟨ns,hns,hz⟩:=A3.mp hz;obtain ⟨d0,hd0,rfl⟩:=AG.mp hz;obtain ⟨nl,ng⟩:=UL hns;refine h HB σ ρ H0 H s e _ hx _ fun v H1 J1 x1 p1=> ?_;obtain ⟨a,od,ks,xs,ds,rfl,hfz,hlen,hre,rfl⟩:=wX (show Rep K H1 v (.dict ((.none, .none)::kvs)) from p1);have e4:((ks.map tupD).zip ds).map (·.1)=ks.map tupD:=List.map_fst_zip (by rw [AC];have:=hre.length;omega);rw [e4] at hd0 nl ng
   have lk:ns.length=ks.length:=by rw [nl,AC]
   have hne:ks.zip xs ≠ []:=fun c=>by
    have:(ks.zip xs).length=0:=by rw [c];rfl
    rw [LN] at this
    have k0:ks = []:=D4.mp (by omega);subst k0;simp at hd0
   refine ⟨a,od,ks.zip xs,rfl,x1.s1 _ _ hfz,hne,fun f c oc fo J2 M bs hb=> ?_⟩;have x2:Ext H1 J1 H1 J2:=jV x1.s1 M
   have lb:bs.length=ks.length:=by
    have:=hb.1;rw [LN] at this
    omega
   have kz:∀(i:Nat) b k,bs[i]? = some b->ks[i]? = some k->J2 b=some (.tup (k.map kV)):=fun i b k h3 h4=>by
    have hi:i<xs.length:=by
     have:=(AS.mp h4).1;omega
    exact hb.2 i b (k,xs[i]) h3 (by rw [List.getElem?_zip_eq_some];exact ⟨h4,by simp [hi]⟩)
   have tp:∀b ∈ bs,∃vs,J2 b=some (.tup vs):=fun b hm=>by
    obtain ⟨i,hi,rfl⟩:=List.getElem_of_mem hm;exact ⟨_,kz i _ (ks[i]'(by omega)) (by simp [hi]) (by simp [lb ▸ hi])⟩
   have x3:Ext H1 J2 (VY H1 J2 bs) J2:=n5 x2.s1 tp
   have rk:∀(i:Nat) b k,bs[i]? = some b->ks[i]? = some k->Rep K (VY H1 J2 bs) (.ref b) (tupD k):=fun i b k h3 h4=>by
    refine .tuple (xs:=k.map kV) ?_ (TJ k);unfold VY;rw [if_pos (List.mem_of_getElem? h3)];exact kz i b k h3 h4
   have ex:Ext H0 H (VY H1 J2 bs) J2:=x1.trans (x2.trans x3);refine ⟨fun i=>ns.getD i 0,fun J3=>∃H3,Ext (VY H1 J2 bs) J2 H3 J3,⟨_,Ext.refl x3.s1⟩,fun J3 ⟨_,y⟩=>y.s,fun i b hbi J3 ⟨H3,y⟩ L=> ?_,fun i b J3 hbi hbest ⟨H3,y⟩ => ?_⟩
   . have hi:i<ks.length:=by have:=(AS.mp hbi).1;omega
     have hk:ks[i]? = some ks[i]:=AB hi;have ev:=ng i (tupD ks[i]) (by rw [AX,hk];rfl);refine hB L J3 _ [some (.val (tupD ks[i])),TX j ρ] H3 J3 y.s1 ⟨⟨rfl,fun m r hm=> ?_,fun m m' a' ds' es' hmm h1 h2 _ _=> ?_⟩⟩ _ ev _ fun w H4 J4 y2 p2=>⟨SlP.int (SlH.p p2),H4,y.trans y2⟩
     . cases m with
       | zero=>
        cases hm
        exact ⟨.ref b,rfl,Rep.same y.s0 (rk i b _ hbi hk)⟩
       | succ m=>
        cases m with
        | succ m=>simp at hm
        | zero=>
         have hm:some (TX j ρ)=some (some r):=hm;have hm:=Option.some.inj hm;unfold TX at hm
         split at hm
         . rename_i d hj
           cases hm
           obtain ⟨v,hv,hr⟩:=e.r.get j _ (join_some hj);exact ⟨v,by simp [hv],Rep.same (ex.s0.trans y.s0) (show Rep K H0 v d from hr)⟩
         . cases hm
     . cases m with
       | zero=>cases h1
       | succ m=>
        cases m with
        | succ m=>simp at h1
        | zero=>
         have h1:some (TX j ρ)=some (some (.own ds')):=h1;have h1:=Option.some.inj h1;unfold TX at h1
         split at h1 <;> cases h1
   . have hi:i<ks.length:=by have:=(AS.mp hbi).1;omega
     have hk:ks[i]? = some ks[i]:=AB hi;have ea:arg ns=i:=harg (by omega) (by rw [lk, <-lb];exact hbest);rw [ea,AX,hk] at hd0
     cases hd0
     exact q _ _ _ (ex.trans y) (Rep.same y.s0 (rk i b _ hbi hk))
 . cases hz
end
section
variable {X:Cx}
theorem fB {k : Nat} {x y : Str} {params : Arguments} {body e : Expr} {sc : Scope} {p pos pk lpos : Pos} {c P : Addr} {j : Nat} {fe fb : En -> Option Sl} (hcd : X.env.code = .ref c) (C : PySem.W.CodeHd X.base c P) (hp : P ∈ IN X.K) (bm : BM X.base X.mg) (hr : Room (k + 2) X.A) (hm : X.mg "min" = none) (hcell : ∃ c, X.env.cells.lookup y = some c) (h : DP X (PR X.K) e fe) (hb : ∀ c L, Room k (MJ X [x, y] sc [(y, c)] L).A -> DE (MJ X [x, y] sc [(y, c)] L) (PR X.K) body fb)
 (hn:sc.names = [(x, .local),(y, .free)]:=by rfl) (hk:sc.kind = .function:=by rfl) (hco:sc.isCoroutine=false:=by rfl) (hgen:sc.isGenerator=false:=by rfl) (hxy:(y==x)=false:=by decide) (hout:X.env.scope.names.lookup y=some .cell:=by rfl)
 (hdef:defaultsOf params X.env=([],[]):=by rfl) (hbd:∀(c:Addr) (u pm ct cd:Value),bindArgs (PySem.W.kla_fn "<lambda>" (X.env.qual ++ "<lambda>") params body sc [(y,c)] pm cd ct) ⟨[u],[]⟩=pure [(x,u)]:=by exact fun _ _ _ _ _=>rfl) (hj:X.N[j]? = some y:=by rfl) (hv:bootBuiltins "min" = some (.builtin "min"):=by exact W1) (hg:Gl X "min" :=by rfl)
 (he:starEach [e] X.env=(false,eval e X.env)::starEach [] X.env:=by rfl) (hpl:(backTo pos (starEach [e] X.env)).any (·.1)=false:=by rfl) (hkw:(backToKw pos (keywordEach [⟨some "key", .Lambda params body sc lpos,pk⟩] X.env)).any (·.1.isNone)=false:=by rfl) (hall:(backToKw pos (keywordEach [⟨some "key", .Lambda params body sc lpos,pk⟩] X.env)).all (·.1.isSome)=true:=by rfl) (hks:(backToKw pos (keywordEach [⟨some "key", .Lambda params body sc lpos,pk⟩] X.env)).filterMap (·.1) = [Str.ofString "key"]:=by rfl) :
 DE X (PR X.K) (.Call (.Name "min" p) [e] [⟨some "key", .Lambda params body sc lpos,pk⟩] pos) (JJ ID j fb fe):=by
 obtain ⟨cc,hc⟩:=hcell;obtain ⟨t,h1,h2⟩:=h;obtain ⟨tb,htb⟩:=t7 fun L=>hb cc L (hr.in1.deeper _);exact ⟨_,fA hcd C hp bm hdef (X8 hn hc) (nG hn hk hco hgen hxy hc hout) (hbd cc) hj (hr.mono (ET _)) h1 (fun L=>(htb L).1) hv hm hg he hpl hkw hall hks,UC ZQ h2 fun L=>(htb L).2⟩
theorem fZ {k : Nat} {x y : Str} {params : Arguments} {body e : Expr} {sc : Scope} {p pos pk lpos : Pos} {c P : Addr} {j : Nat} {fe fb : En -> Option Sl} (hcd : X.env.code = .ref c) (C : PySem.W.CodeHd X.base c P) (hp : P ∈ IN X.K) (bm : BM X.base X.mg) (hr : Room (k + 2) X.A) (hm : X.mg "max" = none) (hcell : ∃ c, X.env.cells.lookup y = some c) (h : DP X (PR X.K) e fe) (hb : ∀ c L, Room k (MJ X [x, y] sc [(y, c)] L).A -> DE (MJ X [x, y] sc [(y, c)] L) (PR X.K) body fb)
 (hn:sc.names = [(x, .local),(y, .free)]:=by rfl) (hk:sc.kind = .function:=by rfl) (hco:sc.isCoroutine=false:=by rfl) (hgen:sc.isGenerator=false:=by rfl) (hxy:(y==x)=false:=by decide) (hout:X.env.scope.names.lookup y=some .cell:=by rfl)
 (hdef:defaultsOf params X.env=([],[]):=by rfl) (hbd:∀(c:Addr) (u pm ct cd:Value),bindArgs (PySem.W.kla_fn "<lambda>" (X.env.qual ++ "<lambda>") params body sc [(y,c)] pm cd ct) ⟨[u],[]⟩=pure [(x,u)]:=by exact fun _ _ _ _ _=>rfl) (hj:X.N[j]? = some y:=by rfl) (hv:bootBuiltins "max" = some (.builtin "max"):=by exact j7) (hg:Gl X "max" :=by rfl)
 (he:starEach [e] X.env=(false,eval e X.env)::starEach [] X.env:=by rfl) (hpl:(backTo pos (starEach [e] X.env)).any (·.1)=false:=by rfl) (hkw:(backToKw pos (keywordEach [⟨some "key", .Lambda params body sc lpos,pk⟩] X.env)).any (·.1.isNone)=false:=by rfl) (hall:(backToKw pos (keywordEach [⟨some "key", .Lambda params body sc lpos,pk⟩] X.env)).all (·.1.isSome)=true:=by rfl) (hks:(backToKw pos (keywordEach [⟨some "key", .Lambda params body sc lpos,pk⟩] X.env)).filterMap (·.1) = [Str.ofString "key"]:=by rfl) :
 DE X (PR X.K) (.Call (.Name "max" p) [e] [⟨some "key", .Lambda params body sc lpos,pk⟩] pos) (JJ NZ j fb fe):=by
 obtain ⟨cc,hc⟩:=hcell;obtain ⟨t,h1,h2⟩:=h;obtain ⟨tb,htb⟩:=t7 fun L=>hb cc L (hr.in1.deeper _);exact ⟨_,fP hcd C hp bm hdef (X8 hn hc) (nG hn hk hco hgen hxy hc hout) (hbd cc) hj (hr.mono (ET _)) h1 (fun L=>(htb L).1) hv hm hg he hpl hkw hall hks,UC eY h2 fun L=>(htb L).2⟩
end
end Dm
namespace Tf
open PySem PySem.Spec PyProof.Rows L2
section
variable {prog:Program} {w:World} {A:Around} {E:Value->Shared->Prop} {s:Shared}
theorem dQ (hh : A.handled = none) (I d : Addr) (hne : d ≠ I) (od : Obj) (es : Array DictEntry) (ep : Nat) (hdd : od.data = .dict es ep) :
 Walks prog w A I [I,d] [I] es.size (fun i v=>∃hi:i<es.size,es[i].val=v) (fun i h=>h.IsValIter I d i es.size ep/\h.get? d=some od) where
 sub:=fun b hb=>by simp at hb;simp [hb]
 frame:=fun _ _ _ st hk=>⟨st.1.at fun o e=>hk I (by simp) o e,hk d (by simp) _ st.2⟩
 item:=fun i s Q E hi st hQ=>by
  refine oJ st.1 st.2 hdd hi rfl fun h' hit' hs' => ?_;exact hQ es[i].val h' s.toks ⟨hi,rfl⟩ ⟨hit',hs'.extBut d _ hne st.2⟩ fun b o hb e=>hs'.extBut b o (fun h=>hb (by simp [h])) e
 done:=fun s Q E st hQ=>yO hh st.1 st.2 hdd (AF _) fun h' he'=>hQ h' s.toks fun b o hb e=>he' b o (fun h=>hb (by simp [h])) e
 self:=fun _ _ _ _ st hQ=>wpAny_pyIter_valiter st.1 hQ
end
variable {X:Cx}
def uW(to:TE):TE:=fun σ H Q=>to σ H fun x H1=>∃(a:Addr) (t:List (List Key×V)) (ns:List Int),x = .ref a/\Rd H1 a (.dT t)/\t.map (·.2)=ns.map V.int/\ns ≠ []/\∀M,M ∈ ns->(∀b ∈ ns,M<=b)->Q (.int M) H1
def tL(to:TE):TE:=fun σ H Q=>to σ H fun x H1=>∃(a:Addr) (t:List (List Key×V)) (ns:List Int),x = .ref a/\Rd H1 a (.dT t)/\t.map (·.2)=ns.map V.int/\ns ≠ []/\∀M,M ∈ ns->(∀b ∈ ns,b<=M)->Q (.int M) H1
theorem sI {o : Expr} {to : TE} {p pos apos cpos : Pos} (hm : X.mg "min" = none) (ho : PE X o to) (hg : Gl X "min" := by rfl) (hc : X.calm = true := by rfl) (hbase : attributeBase o "values" X.env (eval o X.env) = eval o X.env := by rfl) (hline : (apos.endLine == cpos.line) = true := by rfl)
 (hs1:starEach [.Call (.Attribute o "values" apos) [] [] cpos] X.env=(false,eval (.Call (.Attribute o "values" apos) [] [] cpos) X.env)::starEach [] X.env:=by rfl) (hs0:(backTo pos (starEach [] X.env)).any (·.1)=false:=by rfl) (hs2:backTo pos (starEach [] X.env) = []:=by rfl) :
 PE X (.Call (.Name "min" p) [.Call (.Attribute o "values" apos) [] [] cpos] [] pos) (uW to):=by
 intro pins s σ H Q I h;refine E2 (GS I hg hm W1 ?_ (by decide) (by decide));refine KP ?_ hs1 hs0;rw [hs1];show wpAny _ _ (spliced ((false,eval (.Call (.Attribute o "values" apos) [] [] cpos) X.env)::backTo pos (starEach [] X.env))) _ _ s;rw [hs2];refine G5 ?_;refine AA3 hbase hline (thn (ho pins s σ H _ I h) fun v s1 ⟨x,H1,I1,r1,a,t,ns,ex,e,hns,hne,q⟩ => ?_);subst ex;obtain rfl:v=Value.ref a:=r1;obtain ⟨z,hd,ps,kt,ob,es,ep,h0,h2,hes,h4,_,_⟩:=PN I1.hok e;refine ⟨"dict","dict.values",OI,J0,o8,⟨ob,h0,h2.1⟩,fun b z=>by cases z;exact ⟨ob,h0,h2.2.1⟩,L3 rfl (A71 ?_)⟩;refine TR J0 ⟨ob,h0,h2.1⟩ nV (iH _) (XN hd) ⟨ob,h0,h2.1,?_⟩;refine IJ ?_
 let ov:Obj:={cls:= .type "dict_values",data:= .fields #[.ref a]}
 have k1:∀b u,s1.heap.get? b=some u->(s1.heap.push ov).get? b=some u:=fun b u z=>A4 _ z;have hv:(s1.heap.push ov).IsValuesView s1.heap.objs.size a:=⟨_,AI _ rfl,rfl,rfl⟩;have I2:Inv X pins σ H1 {s1 with heap:=s1.heap.push ov}:=I1.kept (t':=s1.toks) k1;obtain ⟨kl,kg⟩:=uG kt h4
 have ltn:ns.length=t.length:=by
  have:=KZ List.length hns;simpa using this.symm
 have val:∀(i:Nat) (hi:i<es.size),∃tk,es[i].val = .int (ns.getD i 0) tk:=fun i hi=>by
  have hi':i<t.length:=by omega
  obtain ⟨_,rv⟩:=kg i t[i] (AB hi');have e2:(t.map (·.2))[i]? = some t[i].2:=by rw [AX,AB hi'];rfl
  rw [hns,AX,AB (by omega)] at e2
  have e3:=BG e2;rw [<-e3] at rv
  obtain ⟨tk,er⟩:=rv;refine ⟨tk,?_⟩;rw [er];have:ns.getD i 0=ns[i]'(by omega):=by simp [List.getD,AB (show i<ns.length by omega)]
  rw [this]
 let s2:Shared:={s1 with heap:=s1.heap.push ov}
 refine call_min_walk (s:=s2) (dF (s:=s2) hv (k1 _ _ h0) hes ?_);have hk2:∀(o':Obj) b u,s2.heap.get? b=some u->(s2.heap.push o').get? b=some u:=fun o' b u z=>A4 _ z;have hda:a≠s2.heap.objs.size:=BP (AU (k1 _ _ h0));refine ⟨s2.heap.objs.size,[s2.heap.objs.size,a],[s2.heap.objs.size],es.size,_,_,_,rfl,dQ (A:=X.A.in1) (I1.ok.hd hc) s2.heap.objs.size a hda ob es ep hes,⟨⟨_,AI _ rfl,rfl,rfl⟩,hk2 _ _ _ (k1 _ _ h0)⟩,fun b hb=> ?_,?_,CmpOf.ints_lt (fun i=>ns.getD i 0) (fun i v ⟨hi,hv⟩=>by obtain ⟨tk,ev⟩:=val i hi;exact ⟨tk,by rw [<-hv,ev]⟩),fun v h' tk hP hk=> ?_⟩
 . rw [D1];rcases AN.mp hb with rfl | hb
   . exact GF _
   . rw [A5.mp hb];exact NJ (AU (k1 _ _ h0))
 . have:=FK.mpr hne;omega
 . obtain ⟨hi,hv'⟩:=hP;obtain ⟨tk',ev⟩:=val _ hi;have I3:Inv X pins σ H1 {s2 with heap:=s2.heap.push {cls:= .type "dict_valueiterator",data:= .fields #[.ref a, .int 0 0, .int es.size 0, .int ep 0]} }:=I2.kept (t':=s2.toks) (hk2 _);obtain ⟨b1,b2⟩:=argBest_lt (fun i=>ns.getD i 0) (es.size - 1);have hpos:0<es.size:=by have:=FK.mpr hne;omega
   refine ⟨.int _,H1,DL (I2.fpOk (AF _) (I2.hok.fresh (AF _))) I3 (t':=tk) fun b u hb z=>hk b u (fun c=>hb (A5.mp c)) z,⟨tk',by rw [<-hv',ev]⟩,q _ ?_ fun b hb=> ?_⟩
   . exact getD_mem (by omega)
   . obtain ⟨j,hj,rfl⟩:=mem_getD hb;exact b2 j (by omega)
theorem qZ {o : Expr} {to : TE} {p pos apos cpos : Pos} (hm : X.mg "max" = none) (ho : PE X o to) (hg : Gl X "max" := by rfl) (hc : X.calm = true := by rfl) (hbase : attributeBase o "values" X.env (eval o X.env) = eval o X.env := by rfl) (hline : (apos.endLine == cpos.line) = true := by rfl)
 (hs1:starEach [.Call (.Attribute o "values" apos) [] [] cpos] X.env=(false,eval (.Call (.Attribute o "values" apos) [] [] cpos) X.env)::starEach [] X.env:=by rfl) (hs0:(backTo pos (starEach [] X.env)).any (·.1)=false:=by rfl) (hs2:backTo pos (starEach [] X.env) = []:=by rfl) :
 PE X (.Call (.Name "max" p) [.Call (.Attribute o "values" apos) [] [] cpos] [] pos) (tL to):=by
 intro pins s σ H Q I h;refine E2 (GS I hg hm j7 ?_ (by decide) (by decide));refine KP ?_ hs1 hs0;rw [hs1];show wpAny _ _ (spliced ((false,eval (.Call (.Attribute o "values" apos) [] [] cpos) X.env)::backTo pos (starEach [] X.env))) _ _ s;rw [hs2];refine G5 ?_;refine AA3 hbase hline (thn (ho pins s σ H _ I h) fun v s1 ⟨x,H1,I1,r1,a,t,ns,ex,e,hns,hne,q⟩ => ?_);subst ex;obtain rfl:v=Value.ref a:=r1;obtain ⟨z,hd,ps,kt,ob,es,ep,h0,h2,hes,h4,_,_⟩:=PN I1.hok e;refine ⟨"dict","dict.values",OI,J0,o8,⟨ob,h0,h2.1⟩,fun b z=>by cases z;exact ⟨ob,h0,h2.2.1⟩,L3 rfl (A71 ?_)⟩;refine TR J0 ⟨ob,h0,h2.1⟩ nV (iH _) (XN hd) ⟨ob,h0,h2.1,?_⟩;refine IJ ?_
 let ov:Obj:={cls:= .type "dict_values",data:= .fields #[.ref a]}
 have k1:∀b u,s1.heap.get? b=some u->(s1.heap.push ov).get? b=some u:=fun b u z=>A4 _ z;have hv:(s1.heap.push ov).IsValuesView s1.heap.objs.size a:=⟨_,AI _ rfl,rfl,rfl⟩;have I2:Inv X pins σ H1 {s1 with heap:=s1.heap.push ov}:=I1.kept (t':=s1.toks) k1;obtain ⟨kl,kg⟩:=uG kt h4
 have ltn:ns.length=t.length:=by
  have:=KZ List.length hns;simpa using this.symm
 have val:∀(i:Nat) (hi:i<es.size),∃tk,es[i].val = .int (ns.getD i 0) tk:=fun i hi=>by
  have hi':i<t.length:=by omega
  obtain ⟨_,rv⟩:=kg i t[i] (AB hi');have e2:(t.map (·.2))[i]? = some t[i].2:=by rw [AX,AB hi'];rfl
  rw [hns,AX,AB (by omega)] at e2
  have e3:=BG e2;rw [<-e3] at rv
  obtain ⟨tk,er⟩:=rv;refine ⟨tk,?_⟩;rw [er];have:ns.getD i 0=ns[i]'(by omega):=by simp [List.getD,AB (show i<ns.length by omega)]
  rw [this]
 let s2:Shared:={s1 with heap:=s1.heap.push ov}
 refine call_max_walk (s:=s2) (dF (s:=s2) hv (k1 _ _ h0) hes ?_);have hk2:∀(o':Obj) b u,s2.heap.get? b=some u->(s2.heap.push o').get? b=some u:=fun o' b u z=>A4 _ z;have hda:a≠s2.heap.objs.size:=BP (AU (k1 _ _ h0));refine ⟨s2.heap.objs.size,[s2.heap.objs.size,a],[s2.heap.objs.size],es.size,_,_,_,rfl,dQ (A:=X.A.in1) (I1.ok.hd hc) s2.heap.objs.size a hda ob es ep hes,⟨⟨_,AI _ rfl,rfl,rfl⟩,hk2 _ _ _ (k1 _ _ h0)⟩,fun b hb=> ?_,?_,CmpOf.ints_gt (fun i=>ns.getD i 0) (fun i v ⟨hi,hv⟩=>by obtain ⟨tk,ev⟩:=val i hi;exact ⟨tk,by rw [<-hv,ev]⟩),fun v h' tk hP hk=> ?_⟩
 . rw [D1];rcases AN.mp hb with rfl | hb
   . exact GF _
   . rw [A5.mp hb];exact NJ (AU (k1 _ _ h0))
 . have:=FK.mpr hne;omega
 . obtain ⟨hi,hv'⟩:=hP;obtain ⟨tk',ev⟩:=val _ hi;have I3:Inv X pins σ H1 {s2 with heap:=s2.heap.push {cls:= .type "dict_valueiterator",data:= .fields #[.ref a, .int 0 0, .int es.size 0, .int ep 0]} }:=I2.kept (t':=s2.toks) (hk2 _);obtain ⟨b1,b2⟩:=argBest_gt (fun i=>ns.getD i 0) (es.size - 1);have hpos:0<es.size:=by have:=FK.mpr hne;omega
   refine ⟨.int _,H1,DL (I2.fpOk (AF _) (I2.hok.fresh (AF _))) I3 (t':=tk) fun b u hb z=>hk b u (fun c=>hb (A5.mp c)) z,⟨tk',by rw [<-hv',ev]⟩,q _ ?_ fun b hb=> ?_⟩
   . exact getD_mem (by omega)
   . obtain ⟨j,hj,rfl⟩:=mem_getD hb;exact b2 j (by omega)
end Tf
namespace Dm
open PySem PySem.Spec PyProof.Rows L2 Tf
section
variable {K:PySem.W.Frag} {R:Rl} [RelOk K R]
def bX(f:En->Option Sl):En->Option Sl:=fun ρ=>(f ρ).bind fun a=>(dictOf a).bind fun kvs=>(G0 (kvs.map (·.2))).bind fun ns=>ns.min?.map fun m=> .val (.int m)
def dI(f:En->Option Sl):En->Option Sl:=fun ρ=>(f ρ).bind fun a=>(dictOf a).bind fun kvs=>(G0 (kvs.map (·.2))).bind fun ns=>ns.max?.map fun m=> .val (.int m)
theorem XH{H0:Hp}{t:List (List Key×V)}{kvs:List (PyData×PyData)}{ns:List Int}(h:DctR K H0 t kvs)(hn:G0 (kvs.map (·.2))=some ns):t.map (·.2)=ns.map V.int:=by
 obtain ⟨ks,xs,ds,rfl,e2,e3,rfl⟩:=h;have l:=e3.length;have e4:((ks.map tupD).zip ds).map (·.2)=ds:=Z4 (by rw [AC];omega);have e5:(ks.zip xs).map (·.2)=xs:=Z4 (by omega);rw [e4] at hn
 rw [e5];rw [L7 hn] at e3
 exact NA e3
theorem rH{td:TE}{f:En->Option Sl}(h:RP K R td f):RE K R (uW td) (bX f):=fun HB σ ρ H0 H s e z hz Q q=>by
 obtain ⟨x,hx,hz⟩:=A3.mp hz;obtain ⟨kvs,h1,hz⟩:=A3.mp hz;obtain ⟨ns,hn,hz⟩:=A3.mp hz;obtain ⟨m,hm,rfl⟩:=AG.mp hz;refine h HB σ ρ H0 H s e x hx _ fun v H1 J1 x1 p1=> ?_;obtain ⟨a,t,rfl,g1,g2⟩:=O8 x1.s1 p1 h1;refine ⟨a,t,ns,rfl,g1,XH g2 hn,fun c=>by subst c;simp at hm,fun M hM hb=> ?_⟩;have:ns.min? = some M:=KG.mpr ⟨hM,hb⟩;rw [hm] at this
 cases this
 exact q _ _ _ x1 (.int _)
theorem qN{td:TE}{f:En->Option Sl}(h:RP K R td f):RE K R (tL td) (dI f):=fun HB σ ρ H0 H s e z hz Q q=>by
 obtain ⟨x,hx,hz⟩:=A3.mp hz;obtain ⟨kvs,h1,hz⟩:=A3.mp hz;obtain ⟨ns,hn,hz⟩:=A3.mp hz;obtain ⟨m,hm,rfl⟩:=AG.mp hz;refine h HB σ ρ H0 H s e x hx _ fun v H1 J1 x1 p1=> ?_;obtain ⟨a,t,rfl,g1,g2⟩:=O8 x1.s1 p1 h1;refine ⟨a,t,ns,rfl,g1,XH g2 hn,fun c=>by subst c;simp at hm,fun M hM hb=> ?_⟩;have:ns.max? = some M:=QQ.mpr ⟨hM,hb⟩;rw [hm] at this
 cases this
 exact q _ _ _ x1 (.int _)
def dMin2:List Sl->Option Sl
 | [.val (.int i), .val (.int j)]=>some (.val (.int (if j<i then j else i)))
 | _=>none
theorem pW:MD K (fun xs H Q=>∃i j,xs = [.int i, .int j]/\Q (.int (if j<i then j else i)) H) dMin2:=fun H0 H vs ss z s p hz Q q=>by
 unfold dMin2 at hz
 split at hz
 . cases hz
   cases p with
   | cons p1 p=>
    cases p with
    | cons p2 p=>
     cases p
     exact ⟨_,_,by rw [SlP.int p1,SlP.int p2],q _ _ _ (Ext.refl s) (.int _)⟩
 . cases hz
def A05(K:PySem.W.Frag)(te:TE):TT:=fun σ H Q=>te σ H fun x H1=>∃(p:Addr) (xs:List V),x = .ref p/\SqL K H1 p xs/\Q (!xs.isEmpty) H1
def QI(f:En->Option Sl):En->Option Bool:=fun ρ=>(f ρ).bind fun a=>match a.dat with
 | .list ds=>some (!ds.isEmpty)
 | _=>none
theorem qB{te:TE}{f:En->Option Sl}(h:RP K R te f):RT K R (A05 K te) (QI f):=fun HB σ ρ H0 H s e b hb Q q=>by
 obtain ⟨a,ha,hb⟩:=A3.mp hb;refine h HB σ ρ H0 H s e a ha _ fun v H1 J1 x1 p1=> ?_
 split at hb
 . rename_i ds hd
   cases hb
   obtain ⟨p,vs,rfl,h1,h2⟩:=p1.lst x1.s1 hd;have e2:ds.isEmpty=vs.isEmpty:=by cases h2 <;> rfl
   refine ⟨p,vs,rfl,h1,?_⟩;rw [<-e2];exact q _ _ x1
 . cases hb
end
section
variable {X:Cx} {R:Rl} [RelOk X.K R] {a b e o:Expr} {f fa fb:En->Option Sl} {p pos apos cpos:Pos} {st:Stmt}
theorem rM (hm : X.mg "min" = none) (h : DP X R o f) (hg : Gl X "min" := by rfl) (hc : X.calm = true := by rfl) (hbase : attributeBase o "values" X.env (eval o X.env) = eval o X.env := by rfl) (hline : (apos.endLine == cpos.line) = true := by rfl)
 (hs1:starEach [.Call (.Attribute o "values" apos) [] [] cpos] X.env=(false,eval (.Call (.Attribute o "values" apos) [] [] cpos) X.env)::starEach [] X.env:=by rfl) (hs0:(backTo pos (starEach [] X.env)).any (·.1)=false:=by rfl) (hs2:backTo pos (starEach [] X.env) = []:=by rfl) :
 DE X R (.Call (.Name "min" p) [.Call (.Attribute o "values" apos) [] [] cpos] [] pos) (bX f):=by
 obtain ⟨t,h1,h2⟩:=h;exact ⟨_,sI hm h1 hg hc hbase hline hs1 hs0 hs2,rH h2⟩
theorem pB (hm : X.mg "max" = none) (h : DP X R o f) (hg : Gl X "max" := by rfl) (hc : X.calm = true := by rfl) (hbase : attributeBase o "values" X.env (eval o X.env) = eval o X.env := by rfl) (hline : (apos.endLine == cpos.line) = true := by rfl)
 (hs1:starEach [.Call (.Attribute o "values" apos) [] [] cpos] X.env=(false,eval (.Call (.Attribute o "values" apos) [] [] cpos) X.env)::starEach [] X.env:=by rfl) (hs0:(backTo pos (starEach [] X.env)).any (·.1)=false:=by rfl) (hs2:backTo pos (starEach [] X.env) = []:=by rfl) :
 DE X R (.Call (.Name "max" p) [.Call (.Attribute o "values" apos) [] [] cpos] [] pos) (dI f):=by
 obtain ⟨t,h1,h2⟩:=h;exact ⟨_,qZ hm h1 hg hc hbase hline hs1 hs0 hs2,qN h2⟩
theorem qI(h:DP X R e f)(he:∀whole,isTrue e X.env whole=(do let v <-whole;standAt e.pos;holding [v] (truthy v)):=by intro _;rfl):DT X R e (QI f):=by
 obtain ⟨t,h1,h2⟩:=h;refine ⟨_,?_,qB h2⟩;intro pins s σ H Q I hw;refine isTrue_plain (thn (h1 pins s σ H _ I hw) fun v s1 ⟨x,H1,I1,r1,q1⟩ => ?_) (he _);obtain ⟨p,xs,rfl,hx,q⟩:=q1;exact jI pins s1 σ H1 (.ref p) v Q I1 r1 ⟨_, .inl ⟨xs,hx,rfl⟩,q⟩
theorem eR(hu:X.A.units+1<cLine)(ha:DP X R a fa)(hb:DP X R b fb)(hm:behindInMarks .NotIn b=false:=by with_unfolding_all rfl):DT X R (.Compare a [.NotIn] [b] pos) (mTest (mBin (iT true) fa fb)):=by
 obtain ⟨ta,h1,h2⟩:=ha;obtain ⟨tb,h3,h4⟩:=hb;exact ⟨_,vD (fO hu h1 h3) hm,bZ (fL h2 h4).rp⟩
end
end Dm
namespace Tf
open PySem PySem.Spec PyProof.Rows L2
def u7(ts:List Addr):Obj:={cls:= .type "tables",data:= .fields (ts.map Value.ref).toArray}
def CH(K:PySem.W.Frag)(ts:List Addr):PySem.W.Frag:=K.filter (fun p=>decide (p.1 ∉ ts)) ++ [(mainGlobals,u7 ts)]
def tbK(names:List Str)(K:PySem.W.Frag):List (Addr×Addr):=names.filterMap (PySem.W.tabIn K)
theorem RM(K:PySem.W.Frag)(ts:List Addr):IN (CH K ts)=ts:=by
 have e:(CH K ts).getLast? = some (mainGlobals,u7 ts):=by unfold CH;simp
 unfold IN;rw [e];show ((ts.map Value.ref).toArray.toList.filterMap _)=ts;rw [List.toList_toArray,List.filterMap_map];exact List.filterMap_some
theorem MX{ts:List Addr}{a:Addr}(h:a ∉ ts):∀K:PySem.W.Frag,List.lookup a (K.filter fun p=>decide (p.1 ∉ ts))=List.lookup a K
 | []=>rfl
 | (b,o)::K=>by
  have ih:=MX h K;rw [II]
  by_cases hb:b ∈ ts
  . have ne : (a == b) = false := by
     refine G7.mpr fun z=> ?_;have:=KQ.mp z;exact h (this ▸ hb)
    rw [AA (by simp [hb]),ih,List.lookup,ne]
  . rw [AD (by simp [hb]),List.lookup,List.lookup]
    cases a==b
    . exact ih
    . rfl
theorem UF{ts:List Addr}{a:Addr}(h:a ∈ ts):∀K:PySem.W.Frag,List.lookup a (K.filter fun p=>decide (p.1 ∉ ts))=none
 | []=>rfl
 | (b,o)::K=>by
  have ih:=UF h K;rw [II]
  by_cases hb:b ∈ ts
  . rw [AA (by simp [hb]),ih]
  . rw [AD (by simp [hb]),List.lookup]
    have ne:(a==b)=false:=by
     refine G7.mpr fun z=> ?_;have:=KQ.mp z;exact hb (this ▸ h)
    rw [ne];exact ih
theorem O1{K:PySem.W.Frag}{ts:List Addr}{a:Addr}{o:Obj}(h:a ∉ ts)(e:K.lookup a=some o):(CH K ts).lookup a=some o:=by
 unfold CH;rw [List.lookup_append,MX h,e];rfl
theorem yB{K:PySem.W.Frag}{ts:List Addr}{a:Addr}{o:Obj}(hm:∃o,K.lookup mainGlobals=some o)(hn:mainGlobals ∉ ts)(e:(CH K ts).lookup a=some o):K.lookup a=some o/\a ∉ ts:=by
 unfold CH at e
 rw [List.lookup_append] at e
 by_cases ha:a ∈ ts
 . rw [UF ha] at e
   have ne:(a==mainGlobals)=false:=by
    refine G7.mpr fun z=> ?_;have:=KQ.mp z;exact hn (this ▸ ha)
   simp [List.lookup,ne] at e
 . refine ⟨?_,ha⟩;rw [MX ha] at e
   by_cases hg:a=mainGlobals
   . subst hg;obtain ⟨o',ho'⟩:=hm;rw [ho'] at e
     simpa [ho'] using e
   . have ne:(a==mainGlobals)=false:=G7.mpr fun z=>hg (KQ.mp z)
     cases hk:K.lookup a with
     | none=>rw [hk] at e;simp [List.lookup,ne] at e
     | some o'=>rw [hk] at e;simpa using e
theorem cE{K:PySem.W.Frag}{h:Heap}{ts:List Addr}{a:Addr}{o:Obj}(KX:K.In h)(hT:∀p ∈ ts,h.get? p=some (PySem.W.tabObj #[]))(e:K.lookup a=some o)(hne:o≠PySem.W.tabObj #[]):a ∉ ts:=fun hm=>by
 have e1:=KX a o e;rw [hT a hm] at e1
 exact hne (BG e1).symm
theorem CO{K:PySem.W.Frag}{h:Heap}{ts:List Addr}{x qual:Str}{st:Stmt}{f:Addr}{fd:FuncData}(KX:K.In h)(hT:∀p ∈ ts,h.get? p=some (PySem.W.tabObj #[]))(F:Fun K x qual st f fd):Fun (CH K ts) x qual st f fd:=by
 obtain ⟨oc,od,kV,doc,pm,an,cdv,ct,osl,rfl,lk,hcd⟩:=F.ex;have l2:=O1 (cE KX hT lk (fun z=>by cases z)) lk;refine ⟨⟨oc,od,kV,doc,pm,an,cdv,ct,osl,rfl,l2,?_⟩,?_⟩
 . unfold PySem.W.codeIn at hcd ⊢
   split at hcd
   . rename_i c
     split at hcd
     . rename_i oc' od' vs sl' hc
       have hne:(⟨oc',od', .fields vs,sl'⟩:Obj)≠PySem.W.tabObj #[]:=fun z=>by
        cases z
        simp at hcd
       rw [O1 (cE KX hT hc hne) hc];exact hcd
     . cases hcd
   . cases hcd
 . unfold PySem.W.keepIn
   dsimp only
   rw [l2]
theorem gE {P : Program} {w : World} {K : PySem.W.Frag} {mg mb : Str -> Option Value} {k : Nat} {fa a : Addr} {fd : FuncData} {x : Str} {sp : Sp} {s₁ : Shared} {vs : List Value} {ns : List Int} {tb : List (Addr × Addr)}
 (KX:K.In s₁.heap) (hmain:∃o,K.lookup mainGlobals=some o) (hns:s₁.heap.Ns mainGlobals mg) (hb:s₁.heap.Ns builtinsNs mb) (hbb:∀x:Str,x ≠ "__name__" -> mb x=bootBuiltins x) (hlim:s₁.heap.NoLimit) (hg:s₁.gens = #[])
 (ha:s₁.heap.get? a=some {cls:= .type "list",data:= .seq vs.toArray}) (hi:IntsAre vs ns) (hl:ns.length<=sizeLine) (hr:Room k callerA)
 (hT:∀p ∈ tb,PySem.W.CodeHd s₁.heap p.1 p.2/\s₁.heap.get? p.2=some (PySem.W.tabObj #[])) (hbm:BM s₁.heap mg)
 (F:∀base:Heap,(CH K (tb.map (·.2))).In base->base.Ns mainGlobals mg->(∀p ∈ tb,PySem.W.CodeHd base p.1 p.2)->BM base mg->FnOk P w (CH K (tb.map (·.2))) mg base CX0 k fa fd [x] sp) (hbind:∀(s:Shared) (u:Value),BindsTo s fd ⟨[u],[]⟩ [(x,u)])
 (hsp:∀H:Hp,SqL (CH K (tb.map (·.2))) H a (ns.map V.int)->sp [.ref a] H (fun v _=>v = .bl true) fun _ _ _=>False) :
 codeAny (model P w) callerA (.call (.ref fa) ⟨[.ref a],[]⟩) (fun r s'=>r = .ok (.ret (.bool true))/\OldK s₁.heap s'.heap/\s'.os=s₁.os/\AllBare s'.gens) s₁:=by
 have rv:=QA hi;have lenV:=hi.length
 let ts:=tb.map (·.2)
 have hts:∀p ∈ ts,s₁.heap.get? p=some (PySem.W.tabObj #[]):=fun p hp=>by
  obtain ⟨q,hq,rfl⟩:=AY.mp hp;exact (hT q hq).2
 have nts:∀ {b:Addr} {o:Obj},s₁.heap.get? b=some o->o≠PySem.W.tabObj #[]->b ∉ ts:=fun {b o} e n hm=>by
  rw [hts b hm] at e
  exact n (BG e).symm
 have hat:a ∉ ts:=nts ha fun z=>by cases z
 have hmt:mainGlobals ∉ ts:=by
  obtain ⟨o,es,ep,e,d,_⟩:=hns;exact nts e fun z=>by rw [z] at d;cases d
 let ao:Obj:={cls:= .type "list",data:= .seq vs.toArray}
 let H:Hp:=fun b=>if b ∈ ts then some (.tbl #[]) else if b=a/\K.lookup a=none then some (.frz ao (.lst (ns.map V.int))) else none
 have Ht:∀ {b:Addr},b ∈ ts->H b=some (.tbl #[]):=fun {b} hm=>AD hm
 have Hc:∀b,(b ∈ ts/\H b=some (.tbl #[]))\/(b=a/\K.lookup a=none/\H b=some (.frz ao (.lst (ns.map V.int))))\/(H b=none/\b ∉ ts/\(b=a->K.lookup a≠none)):=fun b=>by
  by_cases h1:b ∈ ts
  . exact .inl ⟨h1,Ht h1⟩
  . by_cases h2:b=a/\K.lookup a=none
    . exact .inr (.inl ⟨h2.1,h2.2,(AA h1).trans (AD h2)⟩)
    . exact .inr (.inr ⟨(AA h1).trans (AA h2),h1,fun z c=>h2 ⟨z,c⟩⟩)
 have hok:HOk P w H s₁.heap:=fun b u e=>by
  rcases Hc b with ⟨h1,h2⟩ | ⟨rfl,h1,h2⟩ | ⟨h1,_,_⟩
  . rw [h2] at e
    cases e
    exact ⟨#[],hts b h1,CM,fun pos v z=>by simp [codeAmong] at z⟩
  . rw [h2] at e
    cases e
    exact ⟨ha,by rw [AC];exact hl,vs,_,rv,ha⟩
  . rw [h1] at e
    cases e
 have free:∀ {b:Addr} {o:Obj},s₁.heap.get? b=some o->o≠PySem.W.tabObj #[]->o≠ao->H b=none:=fun {b o} e n1 n2=>by
  rcases Hc b with ⟨h1,_⟩ | ⟨rfl,_,_⟩ | ⟨h1,_,_⟩
  . exact absurd h1 (nts e n1)
  . rw [ha] at e
    exact absurd (BG e).symm n2
  . exact h1
 have base_of:∀ {b:Addr} {o:Obj},s₁.heap.get? b=some o->H b=none->(TB s₁.heap H).get? b=some o:=fun e n=>nA e n;have nsK:∀ {b:Addr} {m:Str->Option Value},s₁.heap.Ns b m->(TB s₁.heap H).Ns b m:=fun {b m} ⟨o,es,ep,e,d,r⟩=>⟨o,es,ep,base_of e (free e (fun z=>by rw [z] at d;cases d) (fun z=>by rw [z] at d;cases d)),d,r⟩
 have hKb:(CH K ts).In (TB s₁.heap H):=fun b o e=>by
  obtain ⟨e1,e2⟩:=yB hmain hmt e;refine base_of (KX b o e1) ?_;rcases Hc b with ⟨h1,_⟩ | ⟨rfl,h1,_⟩ | ⟨h1,_,_⟩
  . exact absurd h1 e2
  . rw [h1] at e1;cases e1
  . exact h1
 have hM:Mod (CH K ts) mg (TB s₁.heap H):=⟨hKb,nsK hns,⟨mb,nsK hb,hbb⟩,let ⟨mc,h1,h2⟩:=hlim;⟨mc,nsK h1,h2⟩⟩
 have hCb:∀p ∈ tb,PySem.W.CodeHd (TB s₁.heap H) p.1 p.2:=fun p hp=>by
  obtain ⟨o,vs',file,tf,flags,tg,inF,text,tt,e,c,r⟩:=(hT p hp).1;exact ⟨o,vs',file,tf,flags,tg,inF,text,tt,base_of e (free e (fun z=>by rw [z] at c;cases c) (fun z=>by rw [z] at c;exact absurd (Value.type.inj c) (by decide))),c,r⟩
 have hBb:BM (TB s₁.heap H) mg:=by
  obtain ⟨b,ob,b1,b2,b3,b4,b5,b6⟩:=hbm;exact ⟨b,ob,b1,b2,base_of b3 (free b3 (fun z=>by rw [z] at b4;cases b4) (fun z=>by rw [z] at b4;exact absurd (Value.type.inj b4) (by decide))),b4,b5,b6⟩
 have e0:Env0 P w (CH K ts) mg (TB s₁.heap H) callerA [] s₁ H:=⟨rfl,hM,fun b o e=>pL e,v6 (fN _ _),trivial,fun b hb=>absurd (show b ∈ ([]:List Addr) from hb) (by simp),hok, .of_eq hg,fun p hp=>by rw [RM] at hp;exact ⟨_,Ht hp⟩⟩
 have hS:SqL (CH K ts) H a (ns.map V.int):=by
  cases hk:K.lookup a with
  | some o=>
   have e:=KX a o hk;rw [ha] at e
   cases e
   exact .inr ⟨_,vs.toArray,_,O1 hat hk,rfl,rfl,rfl,by rw [AT,lenV];exact hl,by simpa using rv⟩
  | none=>exact .inl (.inr ⟨ao,(AA hat).trans (AD ⟨rfl,hk⟩)⟩)
 refine i9 ((F _ hKb (nsK hns) hCb hBb).run callerA [] s₁ H ⟨[.ref a],[]⟩ [.ref a] [.ref a] _ _ hr e0 (hbind s₁ (.ref a)) (.cons rfl .nil) (hsp H hS)) fun r s' h=> ?_
 cases r with
 | error e=>exact False.elim h
 | ok fl=>
  cases fl with
  | next=>exact False.elim h
  | brk=>exact False.elim h
  | cont=>exact False.elim h
  | ret u=>
   obtain ⟨v,H',os,bare,un,hok',r',q⟩:=h;have q':v = .bl true:=q;subst q';obtain rfl:u=Value.bool true:=r'
   have grown:∀ {b:Addr},b ∈ ts->∃qs,s'.heap.get? b=some (PySem.W.tabObj qs):=fun {b} hm=>by
    obtain ⟨more,e⟩:=un.tbls b _ (Ht hm);obtain ⟨qs,e1,_⟩:=hok' b _ e;exact ⟨qs,e1⟩
   have keep:∀ {b:Addr} {o:Obj},b ∉ ts->s₁.heap.get? b=some o->s'.heap.get? b=some o:=fun {b o} hb' e=>by
    rcases Hc b with ⟨h1,_⟩ | ⟨rfl,_,h2⟩ | ⟨h1,_,_⟩
    . exact absurd h1 hb'
    . have z2:=un.frzs _ _ _ h2;obtain ⟨e2,_⟩:=hok' _ _ z2;rw [ha] at e
      cases e
      exact e2
    . exact un.keep b o e h1 (by intro z;exact absurd (show b ∈ ([]:List Addr) from z) (by simp)) (by simp)
   refine ⟨rfl,⟨fun b o e=> ?_,fun b o e=> ?_⟩,os,bare⟩
   . by_cases hm:b ∈ ts
     . obtain ⟨q,hq,rfl⟩:=AY.mp hm;obtain ⟨qs,e1⟩:=grown hm;rw [hts _ hm] at e
       cases e
       exact .inr (.inl ⟨((hT q hq).1.tab (hT q hq).2).isCodeTable,rfl, #[],qs,rfl,by rw [Array.empty_append];exact e1⟩)
     . exact .inl (keep hm e)
   . by_cases hm:b ∈ ts
     . obtain ⟨qs,e1⟩:=grown hm;exact ⟨_,e1⟩
     . exact ⟨o,keep hm e⟩
theorem m7 {l : PySem.W.OpenLaw} {n k : Nat} {q : Program} {loose : List Str} {XP : (Str -> Option Value) -> Heap -> Prop} {YP : World -> Heap -> Prop} {d : DefRec} {K : Params -> PySem.W.Frag} {names : List Str} {sp : PySem.W.Frag -> Sp} {x : Str}
 (hn:l.most=some n) (hn2:n<=sizeLine) (hdf:d.params.defaults = []) (hr:Room k callerA)
 (hY:∀(w:World) (h:Heap),YP w h->(K w.params).In h)
 (hrec:∀y ∈ names,∃e,(recsOf q).find? (fun e=>e.name==y)=some e)
 (F:∀(w:World) (mg:Str->Option Value) (fa:Addr) (h:Heap),(K w.params).In h->h.Ns mainGlobals mg->mg d.name=some (.ref fa)->(∀p ∈ (tbK names (K w.params)).map (·.2),h.get? p=some (PySem.W.tabObj #[])) ->
  (∃o,(K w.params).lookup mainGlobals=some o)/\∃fd:FuncData,(∀(s:Shared) (u:Value),BindsTo s fd ⟨[u],[]⟩ [(x,u)]) /\
   ∀base:Heap,(CH (K w.params) ((tbK names (K w.params)).map (·.2))).In base->base.Ns mainGlobals mg->(∀p ∈ tbK names (K w.params),PySem.W.CodeHd base p.1 p.2)->BM base mg->FnOk l.prog w (CH (K w.params) ((tbK names (K w.params)).map (·.2))) mg base CX0 k fa fd [x] (sp (CH (K w.params) ((tbK names (K w.params)).map (·.2)))))
 (hsp:∀(K:PySem.W.Frag) (H:Hp) (a:Addr) (ns:List Int),ns.length<=n->SqL K H a (ns.map V.int)->sp K [.ref a] H (fun v _=>v = .bl true) fun _ _ _=>False) :
 PySem.W.WalkO q loose XP YP l.row.toRowW d [] (fun f vs=>PySem.call f vs):=by
 refine Att.attach_call hn hdf fun w s₀ s₁ mg mb fa o pm cd doc a vs ns G Y ho hd hcd hmg hobj hints hlen hg=> ?_;have KX:=hY w _ Y
 have hT:∀p ∈ tbK names (K w.params),PySem.W.CodeHd s₁.heap p.1 p.2/\s₁.heap.get? p.2=some (PySem.W.tabObj #[]):=fun p hp=>by
  obtain ⟨y,hy,e⟩:=JC.mp hp;obtain ⟨e',he'⟩:=hrec y hy;exact PySem.W.tab_of G.T KX he' e
 obtain ⟨hmain,fd,hb,hF⟩:=F w mg fa _ KX G.T.g hmg fun p hp=>by
  obtain ⟨r,hr',rfl⟩:=AY.mp hp;exact (hT r hr').2
 obtain ⟨bm,ob,b1,b2,b3,b4⟩:=G.T.bmain;exact gE KX hmain G.T.g G.T.b G.T.builtins G.T.nolimit hg hobj hints (BQ hlen hn2) hr hT ⟨bm,ob,b1,b2,b3,b4⟩ hF hb fun H hS=>hsp _ H a ns hlen hS
theorem oX{K:PySem.W.Frag}{x:Str}{v:Option Value}(h:PySem.W.nsIn K mainGlobals x=some v):∃o,K.lookup mainGlobals=some o:=by
 unfold PySem.W.nsIn at h
 cases e:K.lookup mainGlobals with
 | none=>rw [e] at h;simp at h
 | some o=>exact ⟨o,rfl⟩
theorem lA{K:PySem.W.Frag}{x:Str}{f c P:Addr}{oc co:Value}{od cod:Option Addr}{fd:FuncData}{sl csl:Array (Option Value)}{vs:Array Value}(h1:PySem.W.nsIn K mainGlobals x=some (some (.ref f)))(h2:K.lookup f=some ⟨oc,od, .func fd,sl⟩)(h3:fd.code = .ref c)(h4:K.lookup c=some ⟨co,cod, .fields vs,csl⟩)(h5:vs[11]? = some (.ref P)):PySem.W.tabIn K x=some (c,P):=by
 unfold PySem.W.tabIn;rw [h1]
 dsimp only
 rw [h2]
 dsimp only
 rw [h3]
 dsimp only
 rw [h4]
 dsimp only
 rw [h5]
theorem aJ{names:List Str}{K:PySem.W.Frag}{x:Str}{c P:Addr}(hx:x ∈ names)(h:PySem.W.tabIn K x=some (c,P)):(c,P) ∈ tbK names K:=JC.mpr ⟨x,hx,h⟩
theorem bV{names:List Str}{K:PySem.W.Frag}{x:Str}{c P:Addr}(hx:x ∈ names)(h:PySem.W.tabIn K x=some (c,P)):P ∈ IN (CH K ((tbK names K).map (·.2))):=by
 rw [RM];exact AY.mpr ⟨_,aJ hx h,rfl⟩
end Tf
namespace Dm
open PySem PySem.Spec PyProof.Rows L2 Tf
section
variable {K:PySem.W.Frag} {P:Program} {w:World} {mg:Str->Option Value} {base:Heap}
theorem A09 {x qual : Str} {st : Stmt} {f c : Addr} {fd : FuncData} {N ps : List Str} {k n m : Nat} {g : En -> Option Out} (F : Fun K x qual st f fd) (hc : fd.code = .ref c) (S : FnScope N ps (B9 st)) (hn : N.length = n) (hm : ps.length = m)
 (hb:∀(A:Around) (outer:List Env) (s:Shared) (H:Hp) (E:XK),Room k (A.deeper (envOfC qual (B9 st) s.heap.objs.size f (.ref c)))->DSs (U3 CX0 P w K mg base N qual (B9 st) f (.ref c) A outer s H E).nox (PR K) (IB st) g) :
 FnOk P w K mg base CX0 (k+1) f fd ps (spD K (FW n g m)):=by
 subst hn hm;obtain ⟨oc,od,kV,doc,pm,an,cdv,ct,osl,rfl,lk,hcd⟩:=F.ex;obtain rfl:cdv = .ref c:=hc;refine tR lk hcd S (fun vs H Q E h=> ?_) fun A outer s H vs Q E hr h=> ?_
 . obtain ⟨H0,ds,r,s,hr,hf,_⟩:=h;unfold FW at hf
   split at hf
   . rename_i hl;rw [hr.length,hl]
   . cases hf
 . obtain ⟨t,ht,rs⟩:=hb A outer s H E hr;refine ⟨t,ht.nox,?_⟩;obtain ⟨H0,ds,r,s0,hr,hf,q⟩:=h;unfold FW at hf
   split at hf
   . obtain ⟨o,ho,hf⟩:=A3.mp hf;refine rs H H0 _ _ H0 H (Ext.refl s0) ⟨YL hr⟩ o ho _ ?_
     cases o with
     | rt r' _=>cases hf;exact fun v σ H1 J1 a _ b=>q v H1 J1 a b
     | nx _=>cases hf;exact fun σ H1 J1 a b=>q .non H1 J1 a .none
     | bk _=>cases hf
     | ct _=>cases hf
   . cases hf
end
end Dm
namespace Sp
abbrev Wd:=List Nat
def Ok(p n:Nat)(w:Wd):Prop:=w.length=n/\∀r ∈ w,r<p
def put(p:Nat)(u:Wd)(f:Nat)(w:Wd):Wd:=List.zipWith (fun a b=>(a+f*b) % p) u w
theorem K6{A B p s t:Nat}(h:A+p*s=B+p*t):A % p=B % p:=by
 rw [<-nW A p s, <-nW B p t,h]
theorem E9(A p:Nat):∃q,A=A % p+p*q:=⟨A / p,by rw [eI]⟩
theorem Ok.get{p n:Nat}{w:Wd}(h:Ok p n w){i:Nat}(hi:i<n):∃x,w[i]? = some x/\x<p:=by
 have:i<w.length:=by rw [h.1];exact hi
 exact ⟨w[i],AB this,h.2 _ (F3 this)⟩
theorem FY{p n:Nat}(hp:0<p){u w:Wd}(hu:u.length=n)(hw:w.length=n)(f:Nat):Ok p n (put p u f w):=by
 refine ⟨by unfold put;rw [List.length_zipWith,hu,hw,Nat.min_self],fun r hr=> ?_⟩;unfold put at hr
 obtain ⟨i,hi,e⟩:=HV.mp hr;rw [List.getElem_zipWith] at e
 rw [<-e];exact iI _ hp
theorem FN{p n:Nat}{u w:Wd}(hu:Ok p n u)(hw:Ok p n w){f i x y:Nat}(hx:u[i]? = some x)(hy:w[i]? = some y):(put p u f w)[i]? = some ((x+f*y) % p):=by
 unfold put;rw [List.getElem?_zipWith,hx,hy]
theorem ext{p n:Nat}{u w:Wd}(hu:Ok p n u)(hw:Ok p n w)(h:∀i x y,i<n->u[i]? = some x->w[i]? = some y->x=y):u=w:=by
 refine WS fun i=> ?_
 by_cases hi:i<n
 . obtain ⟨x,ex,_⟩:=hu.get hi;obtain ⟨y,ey,_⟩:=hw.get hi;rw [ex,ey,h i x y hi ex ey]
 . rw [EX (by rw [hu.1];omega),EX (by rw [hw.1];omega)]
theorem OM{p n:Nat}(hp:0<p){u w:Wd}(hu:Ok p n u)(hw:Ok p n w):put p u 0 w=u:=by
 refine ext (FY hp hu.1 hw.1 0) hu fun i x y hi hx hy=> ?_;obtain ⟨z,ez,_⟩:=hw.get hi;obtain ⟨y',ey,hy'⟩:=hu.get hi;rw [FN hu hw hy ez] at hx
 cases hx
 rw [hy] at ey
 cases ey
 rw [Nat.zero_mul,FB,C6 hy']
theorem rK{p n:Nat}(hp:0<p){u u' w:Wd}(hu:Ok p n u)(hu':Ok p n u')(hw:Ok p n w)(f f' h:Nat):put p (put p u f w) h (put p u' f' w)=put p (put p u h u') ((f+h*f') % p) w:=by
 have o1:=FY hp hu.1 hw.1 f;have o2:=FY hp hu'.1 hw.1 f';have o3:=FY hp hu.1 hu'.1 h;refine ext (FY hp o1.1 o2.1 h) (FY hp o3.1 hw.1 _) fun i x y hi hx hy=> ?_;obtain ⟨a,ea,_⟩:=hu.get hi;obtain ⟨b,eb,_⟩:=hu'.get hi;obtain ⟨c,ec,_⟩:=hw.get hi;rw [FN o1 o2 (FN hu hw ea ec) (FN hu' hw eb ec)] at hx
 rw [FN o3 hw (FN hu hu' ea eb) ec] at hy
 cases hx
 cases hy
 obtain ⟨q1,h1⟩:=E9 (a+f*c) p;obtain ⟨q2,h2⟩:=E9 (b+f'*c) p;obtain ⟨q3,h3⟩:=E9 (a+h*b) p;obtain ⟨q4,h4⟩:=E9 (f+h*f') p;generalize (a+f*c) % p=r at h1 ⊢
 generalize (b+f'*c) % p=r' at h2 ⊢
 generalize (a+h*b) % p=t at h3 ⊢
 generalize (f+h*f') % p=g at h4 ⊢
 refine K6 (s:=q1+h*q2) (t:=q3+q4*c) ?_
 grind
theorem cU{p n:Nat}(hp:0<p){u u' w:Wd}(hu:Ok p n u)(hu':Ok p n u')(hw:Ok p n w){f:Nat}(h:put p u f w=put p u' f w):u=u':=by
 refine ext hu hu' fun i x y hi hx hy=> ?_;obtain ⟨x',ex,bx⟩:=hu.get hi;obtain ⟨y',ey,bz⟩:=hu'.get hi;obtain ⟨c,ec,_⟩:=hw.get hi;rw [hx] at ex;cases ex
 rw [hy] at ey;cases ey
 have e:=KZ (fun l:Wd=>l[i]?) h;rw [FN hu hw hx ec,FN hu' hw hy ec] at e
 have e:=BG e;obtain ⟨q1,h1⟩:=E9 (x+f*c) p;obtain ⟨q2,h2⟩:=E9 (y+f*c) p;rw [e] at h1
 generalize (y+f*c) % p=r at h1 h2
 have h3:x+p*q2=y+p*q1:=by omega
 have:=K6 h3
 rwa [C6 bx,C6 bz] at this
theorem inv{p:Nat}(hp:p=2\/p=3\/p=5\/p=7){f f':Nat}(hf:f<p)(hf':f'<p)(h:f≠f'):∃g k,g*(f+(p - f'))=1+p*k:=by
 rcases hp with rfl | rfl | rfl | rfl
 . have:∀f<2,∀f'<2,f≠f'->∃g<2,∃k<20,g*(f+(2 - f'))=1+2*k:=by decide
   obtain ⟨g,_,k,_,e⟩:=this f hf f' hf' h;exact ⟨g,k,e⟩
 . have:∀f<3,∀f'<3,f≠f'->∃g<3,∃k<20,g*(f+(3 - f'))=1+3*k:=by decide
   obtain ⟨g,_,k,_,e⟩:=this f hf f' hf' h;exact ⟨g,k,e⟩
 . have:∀f<5,∀f'<5,f≠f'->∃g<5,∃k<20,g*(f+(5 - f'))=1+5*k:=by decide
   obtain ⟨g,_,k,_,e⟩:=this f hf f' hf' h;exact ⟨g,k,e⟩
 . have:∀f<7,∀f'<7,f≠f'->∃g<7,∃k<20,g*(f+(7 - f'))=1+7*k:=by decide
   obtain ⟨g,_,k,_,e⟩:=this f hf f' hf' h;exact ⟨g,k,e⟩
def zero(n:Nat):Wd:=List.replicate n 0
theorem LX{p:Nat}(hp:0<p)(n:Nat):Ok p n (zero n):=⟨C7,fun r hr=>by rw [(MR.mp hr).2];exact hp⟩
theorem IA{n i:Nat}(hi:i<n):(zero n)[i]? = some 0:=by unfold zero;rw [List.getElem?_replicate,if_pos hi]
theorem A42 {p n : Nat} (hp : 0 < p) {u u' w : Wd} (hu : Ok p n u) (hu' : Ok p n u') (hw : Ok p n w) {f f' g k : Nat} (hf' : f' < p) (hg : g * (f + (p - f')) = 1 + p * k) (h : put p u f w = put p u' f' w) :
 put p (put p (zero n) g u') (g*(p - 1)) u=w:=by
 have o0:=LX hp n;have o1:=FY hp o0.1 hu'.1 g;refine ext (FY hp o1.1 hu.1 _) hw fun i x y hi hx hy=> ?_;obtain ⟨a,ea,_⟩:=hu.get hi;obtain ⟨b,eb,_⟩:=hu'.get hi;obtain ⟨c,ec,bc⟩:=hw.get hi;rw [hy] at ec;cases ec
 rw [FN o1 hu (FN o0 hu' (IA hi) eb) ea] at hx
 cases hx
 have e:=KZ (fun l:Wd=>l[i]?) h;rw [FN hu hw ea hy,FN hu' hw eb hy] at e
 have e:=BG e;obtain ⟨q1,h1⟩:=E9 (a+f*y) p;obtain ⟨q2,h2⟩:=E9 (b+f'*y) p;rw [e] at h1
 generalize (b+f'*y) % p=r at h1 h2
 obtain ⟨q3,h3⟩:=E9 (0+g*b) p;generalize (0+g*b) % p=t at h3 ⊢
 rw [<-C6 bc];obtain ⟨p',rfl⟩:∃p',p=p'+1:=⟨p - 1,by omega⟩;obtain ⟨d,hd⟩:∃d,p'+1=f'+d:=⟨p'+1 - f',by omega⟩;rw [show p'+1 - f'=d by omega] at hg
 rw [show p'+1 - 1=p' by omega];have h4:b+f'*y+(p'+1)*q1=a+f*y+(p'+1)*q2:=by omega
 refine K6 (s:=q3+g*q1+g*y) (t:=g*a+y*k+g*q2) ?_
 grind
structure Cl (p n:Nat) (M:List Wd):Prop where
 ok:∀u ∈ M,Ok p n u
 z:zero n ∈ M
 put:∀u ∈ M,∀v ∈ M,∀f,put p u f v ∈ M
def mults(p:Nat)(F:List Nat)(M:List Wd)(w:Wd):List Wd:=F.flatMap fun f=>M.map fun u=>put p u f w
theorem EF{p:Nat}{F:List Nat}{M:List Wd}{w x:Wd}:x ∈ mults p F M w↔∃f ∈ F,∃u ∈ M,put p u f w=x:=by
 unfold mults;rw [List.mem_flatMap]
 constructor
 . rintro ⟨f,hf,h⟩;obtain ⟨u,hu,e⟩:=AY.mp h;exact ⟨f,hf,u,hu,e⟩
 . rintro ⟨f,hf,u,hu,e⟩;exact ⟨f,hf,AY.mpr ⟨u,hu,e⟩⟩
def stepM(p:Nat)(M:List Wd)(w:Wd):List Wd:=if w ∈ M then M else mults p (List.range p) M w
def spanM(p n:Nat)(W:List Wd):List Wd:=W.foldl (stepM p) [zero n]
def gX(acc:List Wd)(x:Wd):List Wd:=if x ∈ acc then acc else acc ++ [x]
def SQ(p:Nat)(T:List Wd)(w:Wd):List Wd:=(mults p (List.range' 1 (p - 1)) T w).foldl gX T
def t9(p n:Nat)(W:List Wd):List Wd:=W.foldl (SQ p) [zero n]
theorem lE{p n:Nat}(hp:0<p){M:List Wd}(h:Cl p n M){w:Wd}(hw:Ok p n w):Cl p n (mults p (List.range p) M w):=by
 refine ⟨fun x hx=> ?_,?_,fun x hx y hy f=> ?_⟩
 . obtain ⟨f,_,u,hu,rfl⟩:=EF.mp hx;exact FY hp (h.ok u hu).1 hw.1 f
 . exact EF.mpr ⟨0,BF.mpr hp,_,h.z,OM hp (LX hp n) hw⟩
 . obtain ⟨f1,_,u,hu,rfl⟩:=EF.mp hx;obtain ⟨f2,_,v,hv,rfl⟩:=EF.mp hy;rw [rK hp (h.ok u hu) (h.ok v hv) hw];exact EF.mpr ⟨_,BF.mpr (iI _ hp),_,h.put u hu v hv f,rfl⟩
theorem Y2{p n:Nat}(hq:p=2\/p=3\/p=5\/p=7){M:List Wd}(h:Cl p n M)(nd:M.Nodup){w:Wd}(hw:Ok p n w)(hn:w ∉ M):∀ {F:List Nat},F.Nodup->(∀f ∈ F,f<p)->(mults p F M w).Nodup:=by
 have hp:0<p:=by omega
 intro F
 induction F with
 | nil=>intro _ _;exact iC
 | cons f F ih=>
  intro hF hb;rw [G1] at hF
  have e:mults p (f::F) M w=(M.map fun u=>put p u f w)++mults p F M w:=by unfold mults;rw [List.flatMap_cons]
  rw [e,NM];refine ⟨?_,ih hF.2 fun g hg=>hb g (AK _ hg),fun x hx y hy exy=> ?_⟩
  . refine NL.mpr (o6 (fun {u v} hu hv huv e=>huv ?_) nd);exact cU hp (h.ok u hu) (h.ok v hv) hw e
  . subst exy;obtain ⟨u,hu,e1⟩:=AY.mp hx;obtain ⟨g,hg,v,hv,e2⟩:=EF.mp hy;have bf:=hb f AQ;have bg:=hb g (AK _ hg);have hfg:f≠g:=fun c=>hF.1 (c ▸ hg);obtain ⟨i,k,hi⟩:=inv hq bf bg hfg;have:=A42 hp (h.ok u hu) (h.ok v hv) hw bg hi (e1.trans e2.symm);refine hn ?_;rw [<-this];exact h.put _ (h.put _ h.z _ hv _) _ hu _
theorem V0:∀(l:List Wd) (acc:List Wd),acc.Nodup->(l.foldl gX acc).Nodup/\∀x,x ∈ l.foldl gX acc↔x ∈ acc\/x ∈ l
 | [],acc,h=>⟨h,fun x=>by simp⟩
 | y::l,acc,h=>by
  rw [QE]
  have h1:(gX acc y).Nodup/\∀x,x ∈ gX acc y↔x ∈ acc\/x=y:=by
   unfold gX
   split
   . rename_i hy;exact ⟨h,fun x=>⟨.inl,fun hx=>hx.elim id fun e=>e ▸ hy⟩⟩
   . rename_i hy;refine ⟨?_,fun x=>by simp⟩;rw [NM];exact ⟨h,by simp,fun a ha b hb e=>hy (by rw [A5.mp hb] at e;exact e ▸ ha)⟩
  obtain ⟨g1,g2⟩:=V0 l _ h1.1;refine ⟨g1,fun x=> ?_⟩;rw [g2,h1.2,AN,or_assoc]
theorem tE {p n : Nat} (hq : p = 2 \/ p = 3 \/ p = 5 \/ p = 7) {M T : List Wd} (h : Cl p n M) (nd : M.Nodup) (ndT : T.Nodup) (hs : ∀ x, x ∈ M ↔ x ∈ T) {w : Wd} (hw : Ok p n w) :
 Cl p n (stepM p M w)/\(stepM p M w).Nodup/\(SQ p T w).Nodup/\∀x,x ∈ stepM p M w↔x ∈ SQ p T w:=by
 have hp:0<p:=by omega
 obtain ⟨t1,t2⟩:=V0 (mults p (List.range' 1 (p - 1)) T w) T ndT;unfold stepM
 split
 . rename_i hin;refine ⟨h,nd,t1,fun x=> ?_⟩;unfold SQ;rw [t2,hs];refine ⟨.inl,fun hx=>hx.elim id fun hx=> ?_⟩;obtain ⟨f,_,u,hu,rfl⟩:=EF.mp hx;exact (hs _).mp (h.put u ((hs u).mpr hu) w hin f)
 . rename_i hin;refine ⟨lE hp h hw,Y2 hq h nd hw hin List.nodup_range (fun f hf=>List.mem_range.mp hf),t1,fun x=> ?_⟩;unfold SQ;rw [t2]
   constructor
   . intro hx;obtain ⟨f,hf,u,hu,rfl⟩:=EF.mp hx
     by_cases h0:f=0
     . subst h0;left;rw [OM hp (h.ok u hu) hw];exact (hs u).mp hu
     . right;have:=BF.mp hf;exact EF.mpr ⟨f,AA4.mpr ⟨by omega,by omega⟩,u,(hs u).mp hu,rfl⟩
   . rintro (hx | hx)
     . have hx:=(hs x).mpr hx;exact EF.mpr ⟨0,BF.mpr hp,x,hx,OM hp (h.ok x hx) hw⟩
     . obtain ⟨f,hf,u,hu,rfl⟩:=EF.mp hx;have:=AA4.mp hf;exact EF.mpr ⟨f,BF.mpr (by omega),u,(hs u).mpr hu,rfl⟩
theorem uF {p n : Nat} (hq : p = 2 \/ p = 3 \/ p = 5 \/ p = 7) : ∀ (W : List Wd) (M T : List Wd), (∀ w ∈ W, Ok p n w) -> Cl p n M -> M.Nodup -> T.Nodup -> (∀ x, x ∈ M ↔ x ∈ T) ->
 Cl p n (W.foldl (stepM p) M)/\(W.foldl (stepM p) M).Nodup/\(W.foldl (SQ p) T).Nodup/\∀x,x ∈ W.foldl (stepM p) M↔x ∈ W.foldl (SQ p) T
 | [],M,T,_,h,a,b,c=>⟨h,a,b,c⟩
 | w::W,M,T,hW,h,a,b,c=>by
  obtain ⟨h',a',b',c'⟩:=tE hq h a b c (hW w AQ);exact uF hq W _ _ (fun v hv=>hW v (AK _ hv)) h' a' b' c'
theorem dY{p:Nat}(hp:0<p)(n:Nat):Cl p n [zero n]:=by
 have o:=LX hp n;refine ⟨fun u hu=>by rw [A5.mp hu];exact o,A5.mpr rfl,fun u hu v hv f=> ?_⟩;rw [A5.mp hu,A5.mp hv];refine A5.mpr (ext (FY hp o.1 o.1 f) o fun i x y hi hx hy=> ?_);rw [FN o o (IA hi) (IA hi)] at hx
 rw [IA hi] at hy
 cases hx
 cases hy
 rw [GO,FB,GP]
theorem span_take{p n:Nat}(hq:p=2\/p=3\/p=5\/p=7){W:List Wd}(hW:∀w ∈ W,Ok p n w):Cl p n (spanM p n W)/\(spanM p n W).Nodup/\(t9 p n W).Nodup/\∀x,x ∈ spanM p n W↔x ∈ t9 p n W:=
 uF hq W _ _ hW (dY (by omega) n) (EE _ _) (EE _ _) fun _=>Iff.rfl
def s9(p:Nat):Nat->List Wd
 | 0=> [[]]
 | n+1=>(s9 p n).flatMap fun w=>(List.range p).map fun r=>r::w
theorem Y0(p:Nat):∀n,(s9 p n).length=p ^ n
 | 0=>rfl
 | n+1=>by
  have e:∀l:List Wd,(l.flatMap fun w=>(List.range p).map fun r=>r::w).length=l.length*p:=fun l=>by
   induction l with
   | nil=>simp
   | cons x l ih=>rw [JT,BC,ih,AC,NN,B7,PV,WR]
  rw [s9,e,Y0 p n,vA]
theorem YI{p:Nat}:∀ {n:Nat} {w:Wd},Ok p n w->w ∈ s9 p n
 | 0,w,h=>by
  have:w = []:=D4.mp h.1;rw [this]
  exact A5.mpr rfl
 | n+1,r::w,h=>by
  refine Z5.mpr ⟨w,YI ⟨by simpa using h.1,fun x hx=>h.2 x (AK _ hx)⟩,AY.mpr ⟨r,BF.mpr (h.2 r AQ),rfl⟩⟩
 | n+1,[],h=>by cases h.1
theorem len_le{p n:Nat}{M:List Wd}(nd:M.Nodup)(ok:∀w ∈ M,Ok p n w):M.length<=p ^ n:=by
 rw [<-Y0 p n];exact List.Nodup.length_le_of_subset nd fun w hw=>YI (ok w hw)
end Sp
namespace Sp
def dot(w x:Wd):Nat:=((List.zip w x).map fun q=>q.1*q.2).sum
theorem GX(a b:Nat)(w x:Wd):dot (a::w) (b::x)=a*b+dot w x:=by
 unfold dot;rw [List.zip_cons_cons,List.map_cons,List.sum_cons]
theorem J6:∀w x:Wd,dot w x=dot x w
 | [],_=>by simp [dot]
 | _::_,[]=>by simp [dot]
 | a::w,b::x=>by rw [GX,GX,J6 w x,MN]
theorem W7{A B p:Nat}(h:A % p=B % p):∃k l,A+p*k=B+p*l:=by
 refine ⟨B / p,A / p,?_⟩;have h1:=eI A p;have h2:=eI B p;rw [h] at h1
 omega
theorem OR{p:Nat}(f:Nat):∀u w x:Wd,u.length=w.length->dot (put p u f w) x % p=(dot u x+f*dot w x) % p
 | [],[],x,_=>by simp [put,dot]
 | a::u,b::w,[],_=>by simp [put,dot]
 | a::u,b::w,c::x,h=>by
  have ih:=OR (p:=p) f u w x (by simpa using h);have e:put p (a::u) f (b::w)=(a+f*b) % p::put p u f w:=by unfold put;rw [List.zipWith_cons_cons]
  rw [e,GX,GX,GX];obtain ⟨q,hq⟩:=E9 (a+f*b) p;generalize (a+f*b) % p=r at hq ⊢
  obtain ⟨k,l,ih⟩:=W7 ih;generalize dot (put p u f w) x=D at ih ⊢
  generalize dot u x=A at ih ⊢
  generalize dot w x=B at ih ⊢
  refine K6 (s:=q*c+k) (t:=l) ?_
  grind
theorem JV{p:Nat}(f:Nat)(u x y:Wd)(h:x.length=y.length):dot u (put p x f y) % p=(dot u x+f*dot u y) % p:=by
 rw [J6,OR f x y u h,J6 x u,J6 y u]
theorem OS(n:Nat):∀x:Wd,dot (zero n) x=0:=by
 induction n with
 | zero=>intro x;simp [zero,dot]
 | succ n ih=>
  intro x
  cases x with
  | nil=>simp [zero,dot]
  | cons b x=>
   have:zero (n+1)=0::zero n:=rfl;rw [this,GX,ih,Nat.zero_mul]
def JX(n i:Nat):Wd:=(List.range n).map fun j=>if j=i then 1 else 0
theorem LY{p n i:Nat}(hp:2<=p):Ok p n (JX n i):=⟨by simp [JX],fun r hr=>by
 obtain ⟨j,_,rfl⟩:=AY.mp hr
 split <;> omega⟩
theorem SG:∀(w:Wd) (n i a x:Nat),w.length=n->w[i]? = some x->dot w ((List.range' a n).map fun j=>if j=a+i then 1 else 0)=x
 | [],_,i,a,x,h,e=>by simp at e
 | b::w,0,i,a,x,h,e=>by simp at h
 | b::w,n+1,i,a,x,h,e=>by
  have hn:w.length=n:=by simpa using h
  rw [List.range'_succ,B0,GX]
  cases i with
  | zero=>
   have hb:b=x:=by simpa using e
   subst hb
   have z:∀(w:Wd) (n c:Nat),w.length=n->a<c->dot w ((List.range' c n).map fun j=>if j=a+0 then 1 else 0)=0:=by
    intro w
    induction w with
    | nil=>intro n c h _;simp [dot]
    | cons d w ih=>
     intro n c h hc
     cases n with
     | zero=>simp at h
     | succ n=>
      rw [List.range'_succ,B0,GX,AA (by omega),ih n (c+1) (by simpa using h) (by omega),GO]
   rw [AD (by omega),z w n (a+1) hn (by omega),zZ,FB]
  | succ i=>
   have e':w[i]? = some x:=by simpa using e
   have ih:=SG w n i (a+1) x hn e';rw [AA (by omega),GO,BT,show a+(i+1)=a+1+i by omega];exact ih
theorem YT{p n:Nat}(hq:p=2\/p=3\/p=5\/p=7){M:List Wd}(h:Cl p n M){u x:Wd}(hu:Ok p n u){m:Wd}(hm:m ∈ M)(f:Nat)(hx:put p m f u=x):x ∈ stepM p M u:=by
 have hp:0<p:=by omega
 unfold stepM
 split
 . rename_i hin;rw [<-hx];exact h.put m hm u hin f
 . refine EF.mpr ⟨f % p,BF.mpr (iI _ hp),m,hm,?_⟩;rw [<-hx];refine ext (FY hp (h.ok m hm).1 hu.1 _) (FY hp (h.ok m hm).1 hu.1 _) fun i a b hi ha hb=> ?_;obtain ⟨c,ec,_⟩:=(h.ok m hm).get hi;obtain ⟨d,ed,_⟩:=hu.get hi;rw [FN (h.ok m hm) hu ec ed] at ha hb
   cases ha
   cases hb
   obtain ⟨q,hq⟩:=E9 f p;generalize f % p=r at hq ⊢
   subst hq;refine K6 (s:=q*d) (t:=0) ?_
   grind
theorem lQ{p n:Nat}(hp:0<p){w u:Wd}(hw:Ok p n w)(hu:Ok p n u)(g:Nat):put p (put p w g u) (g*(p - 1)) u=w:=by
 have o1:=FY hp hw.1 hu.1 g;refine ext (FY hp o1.1 hu.1 _) hw fun i x y hi hx hy=> ?_;obtain ⟨d,ed,_⟩:=hu.get hi;obtain ⟨y',ey,by'⟩:=hw.get hi;rw [hy] at ey;cases ey
 rw [FN o1 hu (FN hw hu hy ed) ed] at hx
 cases hx
 have key:((y+g*d) % p+g*(p - 1)*d) % p=y % p:=by
  obtain ⟨q,hq⟩:=E9 (y+g*d) p;generalize (y+g*d) % p=r at hq ⊢
  obtain ⟨p',rfl⟩:∃p',p=p'+1:=⟨p - 1,by omega⟩;rw [show p'+1 - 1=p' by omega];refine K6 (s:=q) (t:=g*d) ?_;clear hw hu o1 hy ed
  grind
 rw [key,C6 by']
theorem span_cl{p n:Nat}(hq:p=2\/p=3\/p=5\/p=7){U:List Wd}(hU:∀u ∈ U,Ok p n u):Cl p n (spanM p n U):=(span_take hq hU).1
theorem A84{ p n:Nat}(hq:p=2\/p=3\/p=5\/p=7):∀(k:Nat) (U:List Wd),U.length=k->(∀u ∈ U,Ok p n u)->∀w,Ok p n w->w ∈ spanM p n U\/∃t,Ok p n t/\(∀u ∈ U,dot u t % p=0)/\dot w t % p≠0:=by
 have hp:0<p:=by omega
 have hp2:2<=p:=by omega
 intro k
 induction k with
 | zero=>
  intro U hk hU w hw;have:U = []:=D4.mp hk;subst this
  by_cases hz:w=zero n
  . left;rw [hz];exact A5.mpr rfl
  . right
    obtain ⟨i,x,hi,ex,hx⟩:∃i x,i<n/\w[i]? = some x/\x≠0:=by
     refine BL fun c=>hz ?_;refine ext hw (LX hp n) fun i x y hi hx hy=> ?_;rw [IA hi] at hy
     cases hy
     exact BL fun d=>c ⟨i,x,hi,hx,d⟩
    refine ⟨JX n i,LY hp2,fun u hu=>absurd hu (BN),?_⟩
    have e:JX n i=(List.range' 0 n).map fun j=>if j=0+i then 1 else 0:=by
     unfold JX;rw [List.range_eq_range',Nat.zero_add]
    rw [e,SG w n i 0 x hw.1 ex];obtain ⟨x',ex',bx⟩:=hw.get hi;rw [ex] at ex';cases ex'
    rw [C6 bx]
    exact hx
 | succ k ih=>
  intro U hk hU w hw
  obtain ⟨V,u,rfl⟩:∃V u,U=V ++ [u]:=by
   rcases DN U with h | ⟨V,u,h⟩
   . subst h;simp at hk
   . exact ⟨V,u,by simpa using h⟩
  have hk':V.length=k:=by simpa using hk
  have hV:∀v ∈ V,Ok p n v:=fun v hv=>hU v (List.mem_append_left _ hv);have hu:Ok p n u:=hU u (List.mem_append_right _ (List.mem_singleton.mpr rfl));have cl:=span_cl (n:=n) hq hV;have es:spanM p n (V ++ [u])=stepM p (spanM p n V) u:=by unfold spanM;rw [List.foldl_append];rfl
  rw [es];rcases ih V hk' hV w hw with h1 | ⟨t1,o1,z1,n1⟩
  . left;exact YT hq cl hu h1 0 (OM hp hw hu)
  . by_cases hz:dot u t1 % p=0
    . right;refine ⟨t1,o1,fun v hv=> ?_,n1⟩;rcases AV.mp hv with hv | hv
      . exact z1 v hv
      . rw [A5.mp hv];exact hz
    . obtain ⟨i,j,hi⟩:=inv hq (f:=dot u t1 % p) (f':=0) (iI _ hp) hp hz;rw [Nat.sub_zero] at hi
      have hi1:∃a b,i*dot u t1+p*a=1+p*b:=by
       obtain ⟨q,hq'⟩:=E9 (dot u t1) p;generalize dot u t1 % p=r at hi hq'
       refine ⟨i,j+i*q,?_⟩;rw [hq']
       grind
      obtain ⟨a1,b1,hi1⟩:=hi1;have ow':=FY hp hw.1 hu.1 ((p - 1)*(i*dot w t1));rcases ih V hk' hV _ ow' with h2 | ⟨t2,o2,z2,n2⟩
      . left;exact YT hq cl hu h2 _ (lQ hp hw hu _)
      . right;have ot:=FY hp o2.1 o1.1 ((p - 1)*(i*dot u t2));refine ⟨_,ot,fun v hv=> ?_,?_⟩
        . rcases AV.mp hv with hv | hv
          . rw [JV _ v t2 t1 (by rw [o2.1,o1.1])];obtain ⟨c1,h1⟩:=E9 (dot v t1) p;obtain ⟨c2,h2⟩:=E9 (dot v t2) p;rw [z1 v hv] at h1
            rw [z2 v hv] at h2
            rw [h1,h2];have:(0+p*c2+(p - 1)*(i*dot u t2)*(0+p*c1))=p*(c2+(p - 1)*(i*dot u t2)*c1):=by grind
            rw [this];exact Nat.mul_mod_right _ _
          . rw [A5.mp hv,JV _ u t2 t1 (by rw [o2.1,o1.1])];generalize dot u t2=A;generalize dot u t1=B at hi1
            obtain ⟨p',rfl⟩:∃p',p=p'+1:=⟨p - 1,by omega⟩;rw [show p'+1 - 1=p' by omega]
            have:(A+p'*(i*A)*B) % (p'+1)=0 % (p'+1):=by
             refine K6 (s:=p'*A*a1) (t:=A+p'*A*b1) ?_
             grind
            rw [this,GP]
        . rw [JV _ w t2 t1 (by rw [o2.1,o1.1])];rw [OR _ w u t2 (by rw [hw.1,hu.1])] at n2
          intro c;refine n2 ?_;rw [<-c];congr 1
          generalize dot u t2=A;generalize dot w t1=B;generalize dot w t2=C
          grind
theorem LZ{p A B C D:Nat}(h1:A % p=B % p)(h2:C % p=D % p)(f:Nat):(A+f*C) % p=(B+f*D) % p:=by
 obtain ⟨k,l,h1⟩:=W7 h1;obtain ⟨i,j,h2⟩:=W7 h2;refine K6 (s:=k+f*i) (t:=l+f*j) ?_
 grind
theorem ZI{p n:Nat}{M:List Wd}(ok:∀m ∈ M,Ok p n m){u x y:Wd}(hu:Ok p n u)(hM:∀m ∈ M,dot m x % p=dot m y % p)(h:dot u x % p=dot u y % p):∀m ∈ stepM p M u,dot m x % p=dot m y % p:=by
 intro m hm;unfold stepM at hm
 split at hm
 . exact hM m hm
 . obtain ⟨f,_,v,hv,rfl⟩:=EF.mp hm;have e:v.length=u.length:=by rw [(ok v hv).1,hu.1]
   rw [OR f v u x e,OR f v u y e];exact LZ (hM v hv) h f
theorem T9{p n:Nat}(hq:p=2\/p=3\/p=5\/p=7){x y:Wd}:∀(U:List Wd) (M:List Wd),(∀u ∈ U,Ok p n u)->Cl p n M->M.Nodup->(∀u ∈ U,dot u x % p=dot u y % p)->(∀m ∈ M,dot m x % p=dot m y % p)->∀m ∈ U.foldl (stepM p) M,dot m x % p=dot m y % p
 | [],M,_,_,_,_,hM=>hM
 | u::U,M,hU,cl,nd,h,hM=>by
  obtain ⟨cl',nd',_,_⟩:=tE hq cl nd nd (fun _=>Iff.rfl) (hU u AQ);exact T9 hq U _ (fun v hv=>hU v (AK _ hv)) cl' nd' (fun v hv=>h v (AK _ hv)) (ZI cl.ok (hU u AQ) hM (h u AQ))
end Sp
namespace Tr
def E:List Int->Nat->Int
 | [],0=>1
 | [],_+1=>0
 | _::_,0=>1
 | s::l,k+1=>E l (k+1)+(s - 1)*E l k
def S:List Int->Nat->Int
 | [],_=>1
 | _::_,0=>1
 | s::l,u+1=>S l (u+1)+(s - 1)*S l u
def dg:List Nat->Nat->List Nat
 | [],_=> []
 | c::r,x=>x % c::dg r (x / c)
def prodN:List Nat->Nat
 | []=>1
 | c::r=>c*prodN r
theorem prodN_app:∀a b,prodN (a++b)=prodN a*prodN b
 | [],b=>by simp [prodN]
 | c::a,b=>by simp only [OK,prodN,prodN_app a b,Nat.mul_assoc]
def tri(L:List Nat)(x:Nat):List Nat:=(dg L.reverse x).reverse
theorem jU(L:List Nat)(c x:Nat):tri (L ++ [c]) x=tri L (x / c) ++ [x % c]:=by
 unfold tri;rw [List.reverse_append];simp [dg]
def allT(L:List Nat):List (List Nat):=(List.range (prodN L)).map (tri L)
theorem U9{α:Type}(f:Nat->Nat->α)(c:Nat)(hc:0<c):∀m,(List.range (m*c)).map (fun x=>f (x / c) (x % c))=(List.range m).flatMap fun q=>(List.range c).map (f q)
 | 0=>by simp
 | m+1=>by
  rw [PV,List.range_add,G4,U9 f c hc m,List.range_succ,A72,FO];congr 1
  simp only [JT,List.flatMap_nil,EA];refine BK fun x hx=> ?_;have hx:=BF.mp hx;show f ((m*c+x) / c) ((m*c+x) % c)=f m x;rw [MN m c,Nat.mul_add_div hc,Nat.mul_add_mod,C6 hx,Nat.div_eq_of_lt hx,FB]
theorem allT_nil:allT [] = [[]]:=rfl
theorem allT_snoc(L:List Nat)(c:Nat)(hc:0<c):allT (L ++ [c])=(allT L).flatMap fun t=>(List.range c).map fun s=>t ++ [s]:=by
 unfold allT
 have e:(List.range (prodN (L ++ [c]))).map (tri (L ++ [c]))=(List.range (prodN L*c)).map (fun x=>(fun q s=>tri L q ++ [s]) (x / c) (x % c)):=by
  rw [prodN_app];simp only [prodN,zZ];exact BK fun x _=>jU L c x
 rw [e,U9 (fun q s=>tri L q ++ [s]) c hc,List.flatMap_map]
theorem prodN_pos:∀r:List Nat,(∀c ∈ r,0<c)->0<prodN r
 | [],_=>by decide
 | c::r,h=>Nat.mul_pos (h c (by simp)) (prodN_pos r fun d hd=>h d (by simp [hd]))
end Tr
namespace Ev
abbrev Wd:=List Nat
def ch(c x:Wd):Wd:=c.map fun d=>x.getD d 0
def cf(T:List Wd)(c:Wd)(g:Nat->Nat):Nat:=(T.filter fun x=>decide (∀d ∈ c,x.getD d 0=g d)).length
def count(T:List Wd)(c k:Wd):Nat:=(T.filter fun x=>decide (ch c x=k)).length
def lv(L c:Wd):Wd:=c.map fun d=>L.getD d 0
def OkT(L w:Wd):Prop:=w.length=L.length/\∀i,i<L.length->w.getD i 0<L.getD i 0
def EvF(T:List Wd)(L c:Wd):Prop:=∀g g':Nat->Nat,(∀d ∈ c,g d<L.getD d 0)->(∀d ∈ c,g' d<L.getD d 0)->cf T c g=cf T c g'
def EvC(T:List Wd)(L c:Wd):Prop:=∀k k',OkT (lv L c) k->OkT (lv L c) k'->count T c k=count T c k'
theorem OQ(T:List Wd)(c:Wd)(g:Nat->Nat):cf T c g=count T c (c.map g):=by
 unfold cf count;congr 1
 refine List.filter_congr fun x _=>decide_eq_decide.mpr ?_;unfold ch;exact List.map_inj_left.symm
theorem gex:∀(c k:Wd),c.Nodup->k.length=c.length->∃g:Nat->Nat,c.map g=k
 | [],[],_,_=>⟨fun _=>0,rfl⟩
 | [],_::_,_,h=>by simp at h
 | _::_,[],_,h=>by simp at h
 | a::c,b::k,hn,h=>by
  obtain ⟨h1,h2⟩:=G1.mp hn;obtain ⟨g,hg⟩:=gex c k h2 (by simpa using h);refine ⟨fun d=>if d=a then b else g d,?_⟩;rw [B0,AD rfl, <-hg];congr 1
  refine BK fun d hd=>AA ?_;rintro rfl;exact h1 hd
theorem okT_map{L c:Wd}{g:Nat->Nat}:OkT (lv L c) (c.map g)↔∀d ∈ c,g d<L.getD d 0:=by
 have at_:∀(f:Nat->Nat) (i:Nat) (hi:i<c.length),(c.map f).getD i 0=f c[i]:=fun f i hi=>by
  rw [List.getD,AX,AB hi];rfl
 constructor
 . rintro ⟨_,h⟩ d hd;obtain ⟨i,hi,rfl⟩:=List.mem_iff_getElem.mp hd;have:=h i (by unfold lv;rw [List.length_map];exact hi);unfold lv at this
   rw [at_ g i hi,at_ _ i hi] at this
   exact this
 . intro h;refine ⟨by unfold lv;rw [List.length_map,List.length_map],fun i hi=> ?_⟩;unfold lv at hi ⊢
   rw [AC] at hi
   rw [at_ g i hi,at_ _ i hi];exact h _ (F3 hi)
theorem evF_iff{T:List Wd}{L c:Wd}(hc:c.Nodup):EvF T L c↔EvC T L c:=by
 constructor
 . intro h k k' hk hk';obtain ⟨g,rfl⟩:=gex c k hc (by rw [hk.1];unfold lv;rw [List.length_map]);obtain ⟨g',rfl⟩:=gex c k' hc (by rw [hk'.1];unfold lv;rw [List.length_map]);rw [<-OQ, <-OQ];exact h g g' (okT_map.mp hk) (okT_map.mp hk')
 . intro h g g' hg hg';rw [OQ,OQ];exact h _ _ (okT_map.mpr hg) (okT_map.mpr hg')
theorem bI(f g:Nat->Nat):∀l:List Nat,(l.map fun v=>f v+g v).sum=(l.map f).sum+(l.map g).sum
 | []=>rfl
 | a::l=>by rw [B0,B0,B0,H9,H9,H9,bI f g l];omega
theorem iX(l:List Nat):(l.map fun _=>0).sum=0:=by
 induction l with
 | nil=>rfl
 | cons a l ih=>rw [B0,H9,ih]
theorem WM{a b:Wd}{i:Nat}(h:i<a.length):(a++b).getD i 0=a.getD i 0:=by
 rw [List.getD,List.getD,NE h]
theorem d7(a:Nat):∀K,a<K->((List.range K).map fun v=>if a=v then 1 else 0).sum=1
 | 0,h=>absurd h (AB6 _)
 | K+1,h=>by
  rw [List.range_succ,G4,List.sum_append]
  by_cases e:a=K
  . subst e;have z:((List.range a).map fun v=>if a=v then 1 else 0)=(List.range a).map fun _=>0:=BK fun v hv=>AA (by have:=BF.mp hv;omega);rw [z,iX];simp
  . rw [d7 a K (by omega)];simp [e]
theorem YE{T:List Wd}{c:Wd}{d K:Nat}(hd:d ∉ c)(hT:∀x ∈ T,x.getD d 0<K)(g:Nat->Nat):cf T c g=((List.range K).map fun v=>cf T (d::c) fun e=>if e=d then v else g e).sum:=by
 induction T with
 | nil=>
  show 0=((List.range K).map fun _=>0).sum
  rw [iX]
 | cons x T ih=>
  have ih:=ih fun y hy=>hT y (AK _ hy);have hx:=hT x AQ
  have up:∀v,(∀e ∈ d::c,x.getD e 0=if e=d then v else g e)↔(x.getD d 0=v/\∀e ∈ c,x.getD e 0=g e):=fun v=>by
   constructor
   . intro h;refine ⟨(h d AQ).trans (AD rfl),fun e he=>(h e (AK _ he)).trans (AA ?_)⟩;rintro rfl;exact hd he
   . rintro ⟨h1,h2⟩ e he;rcases AN.mp he with rfl | hm
     . rw [AD rfl];exact h1
     . rw [AA (fun (z:e=d)=>hd (z ▸ hm))];exact h2 e hm
  have one:∀(c':Wd) (g':Nat->Nat),cf (x::T) c' g'=cf T c' g'+if (∀e ∈ c',x.getD e 0=g' e) then 1 else 0:=fun c' g'=>by
   unfold cf;rw [List.filter_cons]
   by_cases h:∀e ∈ c',x.getD e 0=g' e
   . rw [AD (AR h),AD h,B7]
   . rw [AA (by rw [AZ h];exact CG),AA h];rfl
  rw [one,ih]
  have e2:((List.range K).map fun v=>cf (x::T) (d::c) fun e=>if e=d then v else g e)=(List.range K).map fun v=>cf T (d::c) (fun e=>if e=d then v else g e)+if (x.getD d 0=v/\∀e ∈ c,x.getD e 0=g e) then 1 else 0:=BK fun v _=>by
   rw [one];congr 1
   by_cases h:x.getD d 0=v/\∀e ∈ c,x.getD e 0=g e
   . rw [AD h,AD ((up v).mpr h)]
   . rw [AA h,AA fun z=>h ((up v).mp z)]
  rw [e2,bI];congr 1
  by_cases h:∀e ∈ c,x.getD e 0=g e
  . rw [AD h]
    have e3:((List.range K).map fun v=>if (x.getD d 0=v/\∀e ∈ c,x.getD e 0=g e) then 1 else 0)=(List.range K).map fun v=>if x.getD d 0=v then 1 else 0:=BK fun v _=>by
     by_cases hv:x.getD d 0=v
     . rw [AD ⟨hv,h⟩,AD hv]
     . rw [AA fun z=>hv z.1,AA hv]
    rw [e3,d7 _ K hx]
  . rw [AA h];have e3:((List.range K).map fun v=>if (x.getD d 0=v/\∀e ∈ c,x.getD e 0=g e) then 1 else 0)=(List.range K).map fun _=>0:=BK fun v _=>AA fun z=>h z.2;rw [e3,iX]
theorem sL{T:List Wd}{L c:Wd}{d:Nat}(hd:d ∉ c)(hT:∀x ∈ T,x.getD d 0<L.getD d 0)(h:EvF T L (d::c)):EvF T L c:=fun g g' hg hg'=>by
 rw [YE hd hT g,YE hd hT g'];congr 1
 refine BK fun v hv=>h _ _ (fun e he=> ?_) fun e he=> ?_
 . rcases AN.mp he with rfl | hm
   . rw [AD rfl];exact BF.mp hv
   . rw [AA (fun (z:e=d)=>hd (z ▸ hm))];exact hg e hm
 . rcases AN.mp he with rfl | hm
   . rw [AD rfl];exact BF.mp hv
   . rw [AA (fun (z:e=d)=>hd (z ▸ hm))];exact hg' e hm
theorem jD{T:List Wd}{c c':Wd}(hs:∀d,d ∈ c↔d ∈ c')(g:Nat->Nat):cf T c g=cf T c' g:=by
 unfold cf;congr 1
 exact NO fun x _=>IH.mpr ⟨fun h d hd=>h d ((hs d).mpr hd),fun h d hd=>h d ((hs d).mp hd)⟩
theorem jM{T:List Wd}{L c c':Wd}(hs:∀d,d ∈ c↔d ∈ c')(h:EvF T L c):EvF T L c':=fun g g' hg hg'=>by
 rw [<-jD hs, <-jD hs];exact h g g' (fun d hd=>hg d ((hs d).mp hd)) fun d hd=>hg' d ((hs d).mp hd)
theorem nD{T:List Wd}{L c:Wd}:∀r:Wd,(∀d ∈ r,∀x ∈ T,x.getD d 0<L.getD d 0)->EvF T L (r++c)->EvF T L c
 | [],_,h=>h
 | d::r,hT,h=>by
  refine nD r (fun e he=>hT e (AK _ he)) ?_
  by_cases hd:d ∈ r++c
  . refine jM (fun e=> ?_) h;rw [OK,AN];exact ⟨fun z=>by rcases z with rfl | z;exact hd;exact z, .inr⟩
  . exact sL hd (hT d AQ) h
theorem ev_sub{T:List Wd}{L c c':Wd}(hs:∀d ∈ c,d ∈ c')(hT:∀d ∈ c',∀x ∈ T,x.getD d 0<L.getD d 0)(h:EvF T L c'):EvF T L c:=by
 refine nD (c'.filter fun d=>decide (d ∉ c)) (fun d hd=>hT d (C8.mp hd).1) (jM (fun d=> ?_) h);rw [AV,C8,MS]
 constructor
 . intro hd
   by_cases hc:d ∈ c
   . exact .inr hc
   . exact .inl ⟨hd,hc⟩
 . rintro (⟨hd,_⟩ | hd)
   . exact hd
   . exact hs d hd
theorem nd_len{α:Type} [DecidableEq α]:∀ {l₁ l₂:List α},l₁.Nodup->(∀a ∈ l₁,a ∈ l₂)->l₁.length<=l₂.length
 | [],_,_,_=>CJ _
 | a::l₁,l₂,hn,hs=>by
  obtain ⟨h1,h2⟩:=G1.mp hn;have ha:=hs a AQ;have ih:=nd_len (l₁:=l₁) (l₂:=l₂.erase a) h2 fun b hb=>(List.mem_erase_of_ne (by rintro rfl;exact h1 hb)).mpr (hs b (AK _ hb));rw [List.length_erase_of_mem ha] at ih
  have:=vB ha;rw [B7];omega
theorem nd_all{α:Type} [DecidableEq α] {l₁ l₂:List α} (hn:l₁.Nodup) (hs:∀a ∈ l₁,a ∈ l₂) (hl:l₂.length<=l₁.length):∀a ∈ l₂,a ∈ l₁:=fun a ha=>by
 refine BL fun c=> ?_
 have:=nd_len (l₁:=a::l₁) (l₂:=l₂) (G1.mpr ⟨c,hn⟩) fun b hb=>by
  rcases AN.mp hb with rfl | hb
  . exact ha
  . exact hs b hb
 rw [B7] at this
 omega
theorem allT_mem:∀(m:Nat) (L w:Wd),L.length=m->(∀c ∈ L,0<c)->(w ∈ Tr.allT L↔OkT L w):=by
 intro m
 induction m with
 | zero=>
  intro L w hl _;have:L = []:=D4.mp hl;subst this;rw [Tr.allT_nil,A5]
  exact ⟨fun e=>by subst e;exact ⟨rfl,fun i hi=>absurd hi (AB6 _)⟩,fun h=>D4.mp h.1⟩
 | succ m ih=>
  intro L w hl hp
  obtain ⟨M,c,rfl⟩:∃M c,L=M ++ [c]:=by
   rcases DN L with h | ⟨V,u,h⟩
   . subst h;simp at hl
   . exact ⟨V,u,by simpa using h⟩
  have hM:M.length=m:=by simpa using hl
  have hc:0<c:=hp c (A8 _ (A5.mpr rfl));have ihM:=fun u=>ih M u hM fun e he=>hp e (DY _ he);rw [Tr.allT_snoc _ _ hc,Z5]
  constructor
  . rintro ⟨u,hu,hw⟩;obtain ⟨s,hs,rfl⟩:=AY.mp hw;have ou:=(ihM u).mp hu;refine ⟨by rw [BC,BC,ou.1];rfl,fun i hi=> ?_⟩;rw [BC,KD] at hi
    by_cases h:i<M.length
    . rw [WM (by rw [ou.1];exact h),WM h];exact ou.2 i h
    . have e:i=M.length:=by omega
      subst e;have h1:(u ++ [s]).getD M.length 0=s:=by rw [<-ou.1];simp [List.getD]
      have h2:(M ++ [c]).getD M.length 0=c:=by simp [List.getD]
      rw [h1,h2];exact BF.mp hs
  . intro hw
    obtain ⟨u,s,rfl⟩:∃u s,w=u ++ [s]:=by
     rcases DN w with h | ⟨V,u,h⟩
     . subst h;have:=hw.1;simp at this
     . exact ⟨V,u,by simpa using h⟩
    have hu:u.length=M.length:=by have:=hw.1;simpa using this
    refine ⟨u,(ihM u).mpr ⟨hu,fun i hi=> ?_⟩,AY.mpr ⟨s,BF.mpr ?_,rfl⟩⟩
    . have:=hw.2 i (by rw [BC,KD];omega)
      rwa [WM (by rw [hu];exact hi),WM hi] at this
    . have:=hw.2 M.length (by rw [BC,KD];omega);have h1:(u ++ [s]).getD M.length 0=s:=by rw [<-hu];simp [List.getD]
      have h2:(M ++ [c]).getD M.length 0=c:=by simp [List.getD]
      rwa [h1,h2] at this
theorem allT_nd:∀(m:Nat) (L:Wd),L.length=m->(∀c ∈ L,0<c)->(Tr.allT L).Nodup:=by
 intro m
 induction m with
 | zero=>
  intro L hl _;have:L = []:=D4.mp hl;subst this;rw [Tr.allT_nil]
  simp
 | succ m ih=>
  intro L hl hp
  obtain ⟨M,c,rfl⟩:∃M c,L=M ++ [c]:=by
   rcases DN L with h | ⟨V,u,h⟩
   . subst h;simp at hl
   . exact ⟨V,u,by simpa using h⟩
  have hM:M.length=m:=by simpa using hl
  have hc:0<c:=hp c (List.mem_append_right _ (List.mem_singleton.mpr rfl));have nM:=ih M hM fun e he=>hp e (List.mem_append_left _ he);rw [Tr.allT_snoc _ _ hc];unfold List.Nodup;rw [List.pairwise_flatMap];refine ⟨fun u _=> ?_,List.Pairwise.imp (fun {u v} huv x hx y hy e=> ?_) nM⟩
  . rw [NL];refine List.Pairwise.imp (fun {s t} h e=> ?_) (Z6 (n:=c));exact h (o7 (List.append_cancel_left e)).1
  . obtain ⟨s,_,rfl⟩:=AY.mp hx;obtain ⟨t,_,rfl⟩:=AY.mp hy;exact huv (List.append_inj_left' e rfl)
def fst(c:Wd):Nat:=match c.getLast? with
 | none=>0
 | some l=>l+1
def nx(n:Nat)(c:Wd):List Wd:=(List.range (n - fst c)).map fun i=>c ++ [fst c+i]
def CB(n:Nat):Nat->List Wd
 | 0=> [[]]
 | j+1=>(CB n j).flatMap (nx n)
def Inc(n:Nat)(c:Wd):Prop:=c.Pairwise (· < ·)/\∀d ∈ c,d<n
theorem Inc.nodup{n:Nat}{c:Wd}(h:Inc n c):c.Nodup:=h.1.imp fun h=>BP h
theorem fst_snoc(b:Wd)(l:Nat):fst (b ++ [l])=l+1:=by unfold fst;simp
theorem yG{b:Wd}(h:b.Pairwise (· < ·)):∀d ∈ b,d<fst b:=fun d hd=>by
 rcases DN b with e | ⟨V,u,e⟩
 . subst e;cases hd
 . rw [KH] at e
   subst e;rw [fst_snoc];obtain ⟨_,_,h3⟩:=HU.mp h;rcases AV.mp hd with hd | hd
   . have:=h3 d hd u (A5.mpr rfl);omega
   . rw [A5.mp hd];omega
theorem fst_le{b:Wd}{l:Nat}(h:∀d ∈ b,d<l):fst b<=l:=by
 rcases DN b with e | ⟨V,u,e⟩
 . subst e;exact CJ _
 . rw [KH] at e
   subst e;rw [fst_snoc];exact h u (A8 _ (A5.mpr rfl))
theorem mem_CB{n:Nat}:∀ {j:Nat} {c:Wd},c ∈ CB n j↔c.length=j/\Inc n c:=by
 intro j
 induction j with
 | zero=>
  intro c;rw [CB,A5]
  exact ⟨fun e=>by subst e;exact ⟨rfl,HI,fun d hd=>by cases hd⟩,fun h=>D4.mp h.1⟩
 | succ j ih=>
  intro c;rw [CB,Z5]
  constructor
  . rintro ⟨b,hb,hc⟩;obtain ⟨i,hi,rfl⟩:=AY.mp hc;obtain ⟨h1,h2,h3⟩:=ih.mp hb;have hi:=BF.mp hi;refine ⟨by rw [BC,h1];rfl,HU.mpr ⟨h2,EE _ _,fun a ha b' hb' => ?_⟩,fun d hd=> ?_⟩
    . rw [A5.mp hb'];have:=yG h2 a ha;omega
    . rcases AV.mp hd with hd | hd
      . exact h3 d hd
      . rw [A5.mp hd];omega
  . rintro ⟨h1,h2,h3⟩;rcases DN c with e | ⟨b,l,e⟩
    . subst e;simp at h1
    . rw [KH] at e
      subst e;obtain ⟨p1,_,p3⟩:=HU.mp h2;have hl:=h3 l (A8 _ (A5.mpr rfl));have hf:fst b<=l:=fst_le fun d hd=>p3 d hd l (A5.mpr rfl);refine ⟨b,ih.mpr ⟨by simpa using h1,p1,fun d hd=>h3 d (DY _ hd)⟩,AY.mpr ⟨l - fst b,BF.mpr (by omega),?_⟩⟩;rw [Nat.add_sub_cancel' hf]
theorem nx_len(n:Nat)(c:Wd):(nx n c).length<=n:=by unfold nx;rw [List.length_map,List.length_range];omega
theorem flat_le{α β:Type}{f:α->List β}{n:Nat}(h:∀a,(f a).length<=n):∀l:List α,(l.flatMap f).length<=l.length*n
 | []=>by simp
 | a::l=>by
  have:=flat_le h l;have:=h a;rw [JT,BC,B7,PV];omega
theorem CB_len(n:Nat):∀j,(CB n j).length<=n ^ j
 | 0=>by simp [CB]
 | j+1=>by
  rw [CB,vA];exact BQ (flat_le (nx_len n) _) (Nat.mul_le_mul_right _ (CB_len n j))
end Ev
namespace Ew
open Sp Ev
theorem MA{p n:Nat}{w:Sp.Wd}(h:Ok p n w){i:Nat}(hi:i<n):w[i]? = some (w.getD i 0)/\w.getD i 0<p:=by
 obtain ⟨x,e,hx⟩:=h.get hi;rw [List.getD,e];exact ⟨rfl,hx⟩
theorem TK{p n f:Nat}{u w:Sp.Wd}(hu:Ok p n u)(hw:Ok p n w){i:Nat}(hi:i<n):(put p u f w).getD i 0=(u.getD i 0+f*w.getD i 0) % p:=by
 have:=FN (f:=f) hu hw (MA hu hi).1 (MA hw hi).1;rw [List.getD,this];rfl
theorem VN{n i j:Nat}(hj:j<n):(JX n i).getD j 0=if j=i then 1 else 0:=by
 unfold JX;rw [List.getD,List.getElem?_map,List.getElem?_range hj];rfl
theorem Q4{p n:Nat}{w:Sp.Wd}(h:Ok p n w){i:Nat}(hi:i<n):dot w (JX n i)=w.getD i 0:=by
 have e:JX n i=(List.range' 0 n).map fun j=>if j=0+i then 1 else 0:=by
  unfold JX;rw [List.range_eq_range',Nat.zero_add]
 rw [e,SG w n i 0 _ h.1 (MA h hi).1]
theorem UW:∀ {w x y:Sp.Wd},x.length=w.length->y.length=w.length->(∀i,i<w.length->w.getD i 0=0\/x.getD i 0=y.getD i 0)->dot w x=dot w y
 | [],x,y,_,_,_=>by simp [dot]
 | a::w,[],_,h,_,_=>by simp at h
 | a::w,_::_,[],_,h,_=>by simp at h
 | a::w,b::x,c::y,h1,h2,h=>by
  rw [GX,GX,UW (w:=w) (x:=x) (y:=y) (by simpa using h1) (by simpa using h2) fun i hi=>by
   have:=h (i+1) (by simp;omega);simpa using this]
  have h0:=h 0 (by simp);have h0:a=0\/b=c:=by simpa using h0
  rcases h0 with rfl | rfl
  . simp
  . rfl
theorem A55{a b t p:Nat}(ha:a<p)(hb:b<p)(h:(a+t) % p=(b+t) % p):a=b:=by
 obtain ⟨k,l,e⟩:=W7 h;have h3:a+p*k=b+p*l:=by omega
 have:=K6 h3
 rwa [C6 ha,C6 hb] at this
theorem Z9{α:Type} [DecidableEq α] {T:List α} (nd:T.Nodup) {φ:α->α} (hT:∀x ∈ T,φ x ∈ T) (inj:∀x ∈ T,∀y ∈ T,φ x=φ y->x=y):(T.map φ).Perm T:=by
 have nd':(T.map φ).Nodup:=by
  unfold List.Nodup;rw [List.pairwise_map];exact List.Pairwise.imp_of_mem (fun {a b} ha hb h e=>h (inj a ha b hb e)) nd
 have sub:∀a ∈ T.map φ,a ∈ T:=fun a ha=>by
  obtain ⟨x,hx,rfl⟩:=AY.mp ha;exact hT x hx
 exact (List.perm_ext_iff_of_nodup nd' nd).mpr fun a=>⟨sub a,fun ha=>nd_all nd' sub (by rw [AC];exact AF _) a ha⟩
theorem ZB{α:Type} [DecidableEq α] {T:List α} (nd:T.Nodup) {φ:α->α} (hT:∀x ∈ T,φ x ∈ T) (inj:∀x ∈ T,∀y ∈ T,φ x=φ y->x=y) (P:α->Bool):(T.filter fun x=>P (φ x)).length=(T.filter P).length:=by
 have:=((Z9 nd hT inj).filter P).length_eq;rw [AB7,AC] at this
 exact this
structure CutOk (p n:Nat) (U:List Sp.Wd) (x0:Sp.Wd) (T:List Sp.Wd):Prop where
 nd:T.Nodup
 mem:∀x,x ∈ T↔Ok p n x/\∀u ∈ U,dot u x % p=dot u x0 % p
theorem RL{T:List Ev.Wd}{c:Ev.Wd}{g g':Nat->Nat}(h:∀d ∈ c,g d=g' d):cf T c g=cf T c g':=by
 unfold cf;congr 1
 exact NO fun x _=>IH.mpr ⟨fun z d hd=>(z d hd).trans (h d hd),fun z d hd=>(z d hd).trans (h d hd).symm⟩
theorem lU{p n:Nat}(hp:0<p){U:List Sp.Wd}{x0 t:Sp.Wd}{T:List Sp.Wd}(C:CutOk p n U x0 T)(ht:Ok p n t)(hU:∀u ∈ U,dot u t % p=0){c:Ev.Wd}{g g':Nat->Nat}(hg:∀d ∈ c,d<n/\g d<p/\g' d=(g d+t.getD d 0) % p):cf T c g=cf T c g':=by
 have okT:∀x ∈ T,Ok p n x:=fun x hx=>((C.mem x).mp hx).1;have e:=ZB (T:=T) C.nd (φ:=fun x=>put p x 1 t) (fun x hx=> ?_) (fun x hx y hy h=>cU hp (okT x hx) (okT y hy) ht h) fun y=>decide (∀d ∈ c,y.getD d 0=g' d)
 . unfold cf;rw [<-e];congr 1
   refine NO fun x hx=>IH.mpr ?_
   have key:∀d ∈ c,(put p x 1 t).getD d 0=g' d↔x.getD d 0=g d:=fun d hd=>by
    obtain ⟨h1,h2,h3⟩:=hg d hd;rw [TK (okT x hx) ht h1,h3,Nat.one_mul];exact ⟨fun z=>A55 (MA (okT x hx) h1).2 h2 z,fun z=>by rw [z]⟩
   exact ⟨fun z d hd=>(key d hd).mpr (z d hd),fun z d hd=>(key d hd).mp (z d hd)⟩
 . obtain ⟨o,h⟩:=(C.mem x).mp hx;refine (C.mem _).mpr ⟨FY hp o.1 ht.1 1,fun u hu=> ?_⟩;rw [JV 1 u x t (by rw [o.1,ht.1]), <-h u hu];have:=LZ (p:=p) (A:=dot u x) (B:=dot u x) rfl (show dot u t % p=0 % p by rw [hU u hu,GP]) 1;rw [this,GO,FB]
theorem aF{p n:Nat}(hq:p=2\/p=3\/p=5\/p=7){U:List Sp.Wd}(hU:∀u ∈ U,Ok p n u):∀(m:Nat) (E:List Nat),E.length=m->∀x ∈ spanM p n (U++E.map (JX n)),∃s ∈ spanM p n U,∀i,i<n->i ∉ E->s.getD i 0=x.getD i 0:=by
 have hp:0<p:=by omega
 have hp2:2<=p:=by omega
 intro m
 induction m with
 | zero=>
  intro E hl x hx;have:E = []:=D4.mp hl;subst this;rw [PU,EA] at hx
  exact ⟨x,hx,fun _ _ _=>rfl⟩
 | succ m ih=>
  intro E hl x hx
  obtain ⟨F,d,rfl⟩:∃F d,E=F ++ [d]:=by
   rcases DN E with h | ⟨V,u,h⟩
   . subst h;simp at hl
   . exact ⟨V,u,by simpa using h⟩
  have es:spanM p n (U++(F ++ [d]).map (JX n))=stepM p (spanM p n (U++F.map (JX n))) (JX n d):=by
   rw [List.map_append, <-List.append_assoc];unfold spanM;rw [List.foldl_append];rfl
  rw [es] at hx
  have okF:∀u ∈ U++F.map (JX n),Ok p n u:=fun u hu=>by
   rcases AV.mp hu with h | h
   . exact hU u h
   . obtain ⟨e,_,rfl⟩:=AY.mp h;exact LY hp2
  have cl:=span_cl (n:=n) hq okF
  have ⟨v,hv,hvx⟩:∃v ∈ spanM p n (U++F.map (JX n)),∀i,i<n->i≠d->v.getD i 0=x.getD i 0:=by
   unfold stepM at hx
   split at hx
   . exact ⟨x,hx,fun _ _ _=>rfl⟩
   . obtain ⟨f,_,v,hv,rfl⟩:=EF.mp hx;refine ⟨v,hv,fun i hi hid=> ?_⟩;have ov:=cl.ok v hv;rw [TK ov (LY hp2) hi,VN hi,AA hid,GO,FB,C6 (MA ov hi).2]
  obtain ⟨s,hs,hsx⟩:=ih F (by simpa using hl) v hv;refine ⟨s,hs,fun i hi hiE=> ?_⟩;rw [hsx i hi fun z=>hiE (DY _ z),hvx i hi fun z=>hiE (A8 _ (A5.mpr z))]
theorem evA{p n:Nat}(hq:p=2\/p=3\/p=5\/p=7){U:List Sp.Wd}(hU:∀u ∈ U,Ok p n u){x0:Sp.Wd}{T:List Sp.Wd}(C:CutOk p n U x0 T){c:Ev.Wd}(hc:∀d ∈ c,d<n)(h:∀w ∈ spanM p n U,(∀i,i<n->i ∉ c->w.getD i 0=0)->w=zero n):EvF T (List.replicate n p) c:=by
 have hp:0<p:=by omega
 have hp2:2<=p:=by omega
 have step:∀d ∈ c,∃t,Ok p n t/\(∀u ∈ U,dot u t % p=0)/\t.getD d 0=1/\∀e ∈ c,e≠d->t.getD e 0=0:=fun d hd=>by
  let F:=c.filter fun e=>decide (e≠d)
  have okF:∀u ∈ U++F.map (JX n),Ok p n u:=fun u hu=>by
   rcases AV.mp hu with h | h
   . exact hU u h
   . obtain ⟨e,_,rfl⟩:=AY.mp h;exact LY hp2
  have dn:=hc d hd;rcases A84 hq _ (U++F.map (JX n)) rfl okF (JX n d) (LY hp2) with hin | ⟨t,ot,zt,nt⟩
  . exfalso;obtain ⟨s,hs,hsx⟩:=aF hq hU _ F rfl _ hin
    have z:=h s hs fun i hi hic=>by
     rw [hsx i hi fun z=>hic (C8.mp z).1,VN hi,AA];rintro rfl;exact hic hd
    have e1:s.getD d 0=1:=by
     rw [hsx d dn fun z=>by have:=(C8.mp z).2;simp at this,VN dn,AD rfl]
    rw [z] at e1
    have e2:=IA (n:=n) dn;rw [List.getD,e2] at e1
    cases e1
  . have e1:dot (JX n d) t=t.getD d 0:=by rw [J6];exact Q4 ot dn
    rw [e1,C6 (MA ot dn).2] at nt
    obtain ⟨f,k,hf⟩:=inv hq (MA ot dn).2 hp nt;rw [Nat.sub_zero] at hf
    have oz:=LX hp n;have zat:∀i,i<n->(zero n).getD i 0=0:=fun i hi=>by rw [List.getD,IA hi];rfl
    refine ⟨put p (zero n) f t,FY hp oz.1 ot.1 f,fun u hu=> ?_,?_,fun e he hed=> ?_⟩
    . rw [JV f u (zero n) t (by rw [oz.1,ot.1])];have:=LZ (p:=p) (A:=dot u (zero n)) (B:=0) (by rw [J6,OS]) (show dot u t % p=0 % p by rw [zt u (DY _ hu),GP]) f;rw [this,GO,FB,GP]
    . rw [TK oz ot dn,zat d dn,BT]
      have e3:f*t.getD d 0 % p=1 % p:=K6 (s:=f) (t:=k) (by
       have:f*(t.getD d 0+p)=1+p*k:=hf;rw [Nat.mul_add] at this
       rw [MN p f];exact this)
      rw [e3,C6 hp2]
    . have en:=hc e he;have z0:=zt (JX n e) (A8 _ (AY.mpr ⟨e,C8.mpr ⟨he,AR hed⟩,rfl⟩));rw [J6,Q4 ot en,C6 (MA ot en).2] at z0
      rw [TK oz ot en,zat e en,z0,GO,FB,GP]
 have lev:∀d ∈ c,(List.replicate n p).getD d 0=p:=fun d hd=>by
  rw [List.getD,ED,AD (hc d hd)];rfl
 intro g g' hg hg';have hg:∀d ∈ c,g d<p:=fun d hd=>by have:=hg d hd;rwa [lev d hd] at this
 have hg':∀d ∈ c,g' d<p:=fun d hd=>by have:=hg' d hd;rwa [lev d hd] at this
 have walk:∀r:List Nat,(∀d ∈ r,d ∈ c)->cf T c g=cf T c fun e=>if e ∈ r then g' e else g e:=by
  intro r
  induction r with
  | nil=>intro _;exact RL fun d _=>(AA (by simp)).symm
  | cons d r ih=>
   intro hr;have ih:=ih fun e he=>hr e (AK _ he);have hd:=hr d AQ;rw [ih]
   by_cases hdr:d ∈ r
   . refine RL fun e he=> ?_
     by_cases h1:e ∈ r
     . rw [AD h1,AD (AK _ h1)]
     . rw [AA h1,AA fun z=>by rcases AN.mp z with rfl | z;exact h1 hdr;exact h1 z]
   . obtain ⟨t,ot,zt,t1,t0⟩:=step d hd;have oz:=LX hp n;have zat:∀i,i<n->(zero n).getD i 0=0:=fun i hi=>by rw [List.getD,IA hi];rfl
     let k:=g' d+(p - g d)
     have os:=FY hp oz.1 ot.1 k;refine lU hp C os (fun u hu=> ?_) fun e he=>⟨hc e he,?_,?_⟩
     . rw [JV k u (zero n) t (by rw [oz.1,ot.1])];have:=LZ (p:=p) (A:=dot u (zero n)) (B:=0) (by rw [J6,OS]) (show dot u t % p=0 % p by rw [zt u hu,GP]) k;rw [this,GO,FB,GP]
     . split
       . exact hg' e he
       . exact hg e he
     . have en:=hc e he;rw [TK oz ot en,zat e en,BT]
       by_cases hed:e=d
       . subst hed;rw [AD AQ,AA hdr,t1,zZ];have a1:=hg e he;have a2:=hg' e he;obtain ⟨q,hq'⟩:=E9 k p;generalize k % p=r' at hq' ⊢
         have:g e+r'+p*q=g' e+p*1:=by
          have:k=g' e+(p - g e):=rfl;omega
         rw [K6 this,C6 a2]
       . rw [t0 e he hed,GO,GP,FB];have m:(e ∈ d::r)↔e ∈ r:=⟨fun z=>by rcases AN.mp z with z | z;exact absurd z hed;exact z,AK _⟩
         by_cases h1:e ∈ r
         . rw [AD (m.mpr h1),AD h1,C6 (hg' e he)]
         . rw [AA fun z=>h1 (m.mp z),AA h1,C6 (hg e he)]
 rw [walk c fun d hd=>hd];exact RL fun d hd=>AD hd
theorem evB{p n:Nat}(hq:p=2\/p=3\/p=5\/p=7){U:List Sp.Wd}(hU:∀u ∈ U,Ok p n u){x0:Sp.Wd}(hx0:Ok p n x0){T:List Sp.Wd}(C:CutOk p n U x0 T){c:Ev.Wd}(hc:∀d ∈ c,d<n){w:Sp.Wd}(hw:w ∈ spanM p n U)(hwc:∀i,i<n->i ∉ c->w.getD i 0=0)(hwz:w≠zero n):¬EvF T (List.replicate n p) c:=by
 have hp:0<p:=by omega
 have hp2:2<=p:=by omega
 have ow:Ok p n w:=(span_cl hq hU).ok w hw;have mx:x0 ∈ T:=(C.mem x0).mpr ⟨hx0,fun _ _=>rfl⟩
 obtain ⟨d,hdn,hdw⟩:∃d,d<n/\w.getD d 0≠0:=by
  refine BL fun z=>hwz (Sp.ext ow (LX hp n) fun i x y hi hx hy=> ?_);rw [IA hi] at hy
  cases hy
  have:=(MA ow hi).1;rw [hx] at this
  cases this
  exact BL fun q=>z ⟨i,hi,q⟩
 have hdc:d ∈ c:=BL fun z=>hdw (hwc d hdn z)
 have lev:∀d ∈ c,(List.replicate n p).getD d 0=p:=fun d hd=>by
  rw [List.getD,ED,AD (hc d hd)];rfl
 intro ev
 let y:=put p x0 1 (JX n d)
 have oy:Ok p n y:=FY hp hx0.1 (LY (p:=p) hp2).1 1;have e:=ev (fun i=>x0.getD i 0) (fun i=>y.getD i 0) (fun i hi=>by rw [lev i hi];exact (MA hx0 (hc i hi)).2) fun i hi=>by rw [lev i hi];exact (MA oy (hc i hi)).2
 have pos:0<cf T c fun i=>x0.getD i 0:=by
  unfold cf;exact List.length_pos_of_mem (List.mem_filter.mpr ⟨mx,decide_eq_true fun _ _=>rfl⟩)
 rw [e] at pos
 obtain ⟨z,hz⟩:=L5 pos;obtain ⟨mz,hz⟩:=C8.mp hz;have hz:=AO hz;obtain ⟨oz,uz⟩:=(C.mem z).mp mz;have a1:dot w z % p=dot w x0 % p:=T9 hq U [zero n] hU (dY hp n) (EE _ _) (fun u hu=>uz u hu) (fun m hm=>by rw [A5.mp hm,OS,OS]) w hw
 have a2:dot w z=dot w y:=UW (by rw [oz.1,ow.1]) (by rw [oy.1,ow.1]) fun i hi=>by
  rw [ow.1] at hi
  by_cases hic:i ∈ c
  . exact .inr (hz i hic)
  . exact .inl (hwc i hi hic)
 rw [a2,JV 1 w x0 (JX n d) (by rw [hx0.1,(LY (p:=p) hp2).1]),Nat.one_mul,Q4 ow hdn] at a1
 have a3:(w.getD d 0+dot w x0) % p=(0+dot w x0) % p:=by rw [WR,a1,BT]
 exact hdw (A55 (MA ow hdn).2 hp a3)
end Ew
namespace K26
noncomputable section
open PySem L2 Tf Dm
def top (i : Nat) : Stmt := PySem.Challenge.pw_trialfield_k26_whole_even_as_words_say.main.body.getD i (.Pass ⟨0, 0, 0, 0⟩)
structure Bl (mg:Str->Option Value):Prop where
 all:mg "all" = none
 bool:mg "bool" = none
 int:mg "int" = none
 isinstance:mg "isinstance" = none
 len:mg "len" = none
 list:mg "list" = none
 max:mg "max" = none
 min:mg "min" = none
 range:mg "range" = none
 reversed:mg "reversed" = none
 sorted:mg "sorted" = none
 sum:mg "sum" = none
 tuple:mg "tuple" = none
 zip:mg "zip" = none
abbrev b9:Stmt:=top 1
theorem mP:FnScope ["numbers","product","number"] ["numbers"] (B9 b9):=⟨rfl,rfl,rfl,by decide +kernel,rfl,by decide +kernel,by decide +kernel⟩
abbrev dC:Stmt:=top 2
theorem nI:FnScope ["levels","place","steps","count"] ["levels","place"] (B9 dC):=⟨rfl,rfl,rfl,by decide +kernel,rfl,by decide +kernel,by decide +kernel⟩
abbrev dP:Stmt:=top 3
theorem j5:FnScope ["levels"] ["levels"] (B9 dP):=⟨rfl,rfl,rfl,by decide +kernel,rfl,by decide +kernel,by decide +kernel⟩
abbrev bO:Stmt:=top 4
theorem lT:FnScope ["trial","columns"] ["trial","columns"] (B9 bO):=⟨rfl,rfl,rfl,by decide +kernel,rfl,by decide +kernel,by decide +kernel⟩
abbrev bW:Stmt:=top 5
theorem nF:FnScope ["levels","columns"] ["levels","columns"] (B9 bW):=⟨rfl,rfl,rfl,by decide +kernel,rfl,by decide +kernel,by decide +kernel⟩
abbrev dZ:Stmt:=top 6
theorem nQ:FnScope ["plan","columns","counts","trial","choice"] ["plan","columns"] (B9 dZ):=⟨rfl,rfl,rfl,by decide +kernel,rfl,by decide +kernel,by decide +kernel⟩
abbrev dR:Stmt:=top 7
theorem mN:FnScope ["plan","levels","columns","counts"] ["plan","levels","columns"] (B9 dR):=⟨rfl,rfl,rfl,by decide +kernel,rfl,by decide +kernel,by decide +kernel⟩
abbrev dS:Stmt:=top 8
theorem jH:FnScope ["lists","things","longer","columns","first"] ["lists","things"] (B9 dS):=⟨rfl,rfl,rfl,by decide +kernel,rfl,by decide +kernel,by decide +kernel⟩
abbrev bM:Stmt:=top 9
theorem lJ:FnScope ["plan","levels","t","lists","count","columns"] ["plan","levels","t"] (B9 bM):=⟨rfl,rfl,rfl,by decide +kernel,rfl,by decide +kernel,by decide +kernel⟩
abbrev cO:Stmt:=top 10
theorem mH:FnScope ["columns","things","t","others"] ["columns","things","t"] (B9 cO):=⟨rfl,rfl,rfl,by decide +kernel,rfl,by decide +kernel,by decide +kernel⟩
abbrev UB:Stmt:=top 11
theorem kB:FnScope ["counts","levels","place","choice"] ["counts","levels"] (B9 UB):=⟨rfl,rfl,rfl,by decide +kernel,rfl,by decide +kernel,by decide +kernel⟩
abbrev V4:Stmt:=top 12
theorem n9:FnScope ["plan","levels","t","short","columns","counts","most"] ["plan","levels","t"] (B9 V4):=⟨rfl,rfl,rfl,by decide +kernel,rfl,by decide +kernel,by decide +kernel⟩
abbrev dD:Stmt:=top 14
theorem mJ:FnScope ["p","word","trial"] ["p","word","trial"] (B9 dD):=⟨rfl,rfl,rfl,by decide +kernel,rfl,by decide +kernel,by decide +kernel⟩
abbrev e7:Stmt:=top 15
theorem jN:FnScope ["n"] ["n"] (B9 e7):=⟨rfl,rfl,rfl,by decide +kernel,rfl,by decide +kernel,by decide +kernel⟩
abbrev dU:Stmt:=top 16
theorem jL:FnScope ["p","word","factor","other"] ["p","word","factor","other"] (B9 dU):=⟨rfl,rfl,rfl,by decide +kernel,rfl,by decide +kernel,by decide +kernel⟩
abbrev cM:Stmt:=top 17
theorem jY:FnScope ["p","words","factors","other","made","factor"] ["p","words","factors","other"] (B9 cM):=⟨rfl,rfl,rfl,by decide +kernel,rfl,by decide +kernel,by decide +kernel⟩
abbrev dB:Stmt:=top 18
theorem lY:FnScope ["p","n","words","members","word"] ["p","n","words"] (B9 dB):=⟨rfl,rfl,rfl,by decide +kernel,rfl,by decide +kernel,by decide +kernel⟩
abbrev dJ:Stmt:=top 19
theorem jX:FnScope ["p","rules","trial"] ["p","rules","trial"] (B9 dJ):=⟨rfl,rfl,rfl,by decide +kernel,rfl,by decide +kernel,by decide +kernel⟩
abbrev d8:Stmt:=top 20
theorem lK:FnScope ["p","n","rules"] ["p","n","rules"] (B9 d8):=⟨rfl,rfl,rfl,by decide +kernel,rfl,by decide +kernel,by decide +kernel⟩
abbrev cD:Stmt:=top 21
theorem mO:FnScope ["word"] ["word"] (B9 cD):=⟨rfl,rfl,rfl,by decide +kernel,rfl,by decide +kernel,by decide +kernel⟩
abbrev bJ:Stmt:=top 22
theorem kU:FnScope ["p","n","words","members"] ["p","n","words"] (B9 bJ):=⟨rfl,rfl,rfl,by decide +kernel,rfl,by decide +kernel,by decide +kernel⟩
abbrev sM:Stmt:=top 24
theorem uL:FnScope ["_law_found"] ["_law_found"] (B9 sM):=⟨rfl,rfl,rfl,by decide +kernel,rfl,by decide +kernel,by decide +kernel⟩
abbrev sR:Stmt:=top 25
theorem uV:FnScope ["_law_cell","_law_k","_law_one"] ["_law_cell","_law_k"] (B9 sR):=⟨rfl,rfl,rfl,by decide +kernel,rfl,by decide +kernel,by decide +kernel⟩
abbrev rS:Stmt:=top 26
theorem tS:FnScope ["_law_cell","_law_p","_law_most"] ["_law_cell"] (B9 rS):=⟨rfl,rfl,rfl,by decide +kernel,rfl,by decide +kernel,by decide +kernel⟩
abbrev oF:Stmt:=top 27
theorem uH:FnScope ["_law_cell","_law_k","_law_p","_law_n","_law_left","_law_j","_law_told","_law_number","_law_rest"] ["_law_cell","_law_k","_law_p","_law_n"] (B9 oF):=⟨rfl,rfl,rfl,by decide +kernel,rfl,by decide +kernel,by decide +kernel⟩
abbrev cQ:Stmt:=top 28
theorem kG:FnScope ["_law_cells","_law_p","_law_n","_law_told","_law_cell","_law_word_here","_law_last"] ["_law_cells","_law_p","_law_n"] (B9 cQ):=⟨rfl,rfl,rfl,by decide +kernel,rfl,by decide +kernel,by decide +kernel⟩
abbrev rE:Stmt:=top 29
theorem tV:FnScope ["_law_p","_law_word_here","_law_trial"] ["_law_p","_law_word_here","_law_trial"] (B9 rE):=⟨rfl,rfl,rfl,by decide +kernel,rfl,by decide +kernel,by decide +kernel⟩
abbrev qH:Stmt:=top 30
theorem uC:FnScope ["_law_cells","_law_at","_law_most","_law_head","_law_many_here","_law_words_here","_law_p","_law_n"] ["_law_cells","_law_at","_law_most"] (B9 qH):=⟨rfl,rfl,rfl,by decide +kernel,rfl,by decide +kernel,by decide +kernel⟩
abbrev p9:Stmt:=top 31
theorem uB:FnScope ["_law_trials","_law_columns","_law_here"] ["_law_trials","_law_columns","_law_here"] (B9 p9):=⟨rfl,rfl,rfl,by decide +kernel,rfl,by decide +kernel,by decide +kernel⟩
abbrev rT:Stmt:=top 32
theorem u9:FnScope ["_law_found","_law_p","_law_t"] ["_law_found","_law_p","_law_t"] (B9 rT):=⟨rfl,rfl,rfl,by decide +kernel,rfl,by decide +kernel,by decide +kernel⟩
abbrev pZ:Stmt:=top 33
theorem uK:FnScope ["_law_p","_law_n","_law_t","_law_trials","_law_told","_law_columns"] ["_law_p","_law_n","_law_t","_law_trials","_law_told"] (B9 pZ):=⟨rfl,rfl,rfl,by decide +kernel,rfl,by decide +kernel,by decide +kernel⟩
abbrev oN:Stmt:=top 34
theorem tW:FnScope ["_law_p","_law_n","_law_words_here","_law_cell","_law_trial","_law_trials","_law_least","_law_few","_law_t","_law_told"] ["_law_p","_law_n","_law_words_here","_law_cell"] (B9 oN):=⟨rfl,rfl,rfl,by decide +kernel,rfl,by decide +kernel,by decide +kernel⟩
abbrev SM:Stmt:=top 35
theorem lD:FnScope ["_law_script","_law_cells","_law_at","_law_head","_law_p","_law_n","_law_words_here"] ["_law_script"] (B9 SM):=⟨rfl,rfl,rfl,by decide +kernel,rfl,by decide +kernel,by decide +kernel⟩
section
variable {P:Program} {w:World} {K:PySem.W.Frag} {mg:Str->Option Value} {base:Heap} {f:Addr} {fd:FuncData}
def b_q26 : En -> Option Out :=
 (mSeq (mAsg 1 (mK (.int 1)))
 (mSeq (KW (CU (mVar 0)) (gVar 2) (mAsg 1 (mBin dRep (mPk 1) (mPk 2))))
 (mRet (mPk 1))))
def MC:List PyData->Option Sl:=FW 3 b_q26 1
theorem wU (B:Bl mg) (F:Fun K "product_of" "product_of" b9 f fd):FnOk P w K mg base CX0 1 f fd ["numbers"] (spD K MC):=by
 have sc:=mP
 exact fnD F mP rfl rfl fun cdv A outer s H E hr=>
  (AW (CD 1 B3 sc.nd)
  (AW (IP DF (FZ (AM 0)) (F8 2 sc.nd) (B6 (CD 1 (GQ (AH 1) (AH 2)) sc.nd)))
  (B6 (LS 1))))
def b_q29 : En -> Option Out :=
 (mSeq (mAsg 2 (mLst mNil))
 (mSeq (KW (iM (mCons (mVar 0) mNil)) (gVar 3) (mSeq (mApp 2 (mBin FG (mPk 1) (mPk 3)))
 (mAsg 1 (mBin EG (mPk 1) (mPk 3)))))
 (mRet (mCallP QW (mConsP (mPk 2) mNilP)))))
def SJ:List PyData->Option Sl:=FW 4 b_q29 2
theorem x9 (B:Bl mg) (F:Fun K "trial_at" "trial_at" dC f fd):FnOk P w K mg base CX0 1 f fd ["levels","place"] (spD K SJ):=by
 have sc:=nI
 exact fnD F nI rfl rfl fun cdv A outer s H E hr=>
  (AW (CD 2 (IQ BD) sc.nd)
  (AW (IP DF (xQ B.reversed (AE (AM 0) BD)) (F8 3 sc.nd) (AW (ZJ 2 (FH (AH 1) (AH 3)))
  (B6 (CD 1 (I9 (AH 1) (AH 3)) sc.nd))))
  (B6 (CY (gM B.reversed B.tuple (BO (AH 2) CQ))))))
def b_q11 : En -> Option Out :=
 (mRet (mLC (E6 [some 0,none]) (LG (mConsP (mCall MC (mCons (mVar 0) mNil)) mNilP)) (gVar 1) mYes (mCall SJ (mCons (mVar 0) (mCons (mVar 1) mNil)))))
def UA:List PyData->Option Sl:=FW 1 b_q11 1
theorem vS (B:Bl mg) (D_q26:Def P w K mg base 1 "product_of" ["numbers"] (spD K MC)) (D_q29:Def P w K mg base 1 "trial_at" ["levels","place"] (spD K SJ)) (F:Fun K "all_trials" "all_trials" dP f fd):FnOk P w K mg base CX0 2 f fd ["levels"] (spD K UA):=by
 have sc:=j5
 exact fnD F j5 rfl rfl fun cdv A outer s H E hr=>
  (B6 (CY (HN (N':= ["levels","place"]) (R':=PR K) DB D8 [some 0,none] (E6 [some 0,none]) FI (IT B.range (BO (DE.dp (BV D_q26 hr (AE (AM 0) BD))) CQ)) (fun _=>(CT 1 (show List.Nodup (α:=Str) ["levels","place"] by decide +kernel))) (fun _=>FX) (fun _=>(BV D_q29 hr (AE (AM 0) (AE (AM 1) BD)))))))
def b_q13 : En -> Option Out :=
 (mRet (mCallP dTuple (mConsP (mLC (E6 [some 0,none]) (CU (mVar 1)) (gVar 1) mYes (mBin dix (mPk 0) (mPk 1))) mNilP)))
def YR:List PyData->Option Sl:=FW 2 b_q13 2
theorem yZ (B:Bl mg) (F:Fun K "choice_of" "choice_of" bO f fd):FnOk P w K mg base CX0 1 f fd ["trial","columns"] (spD K YR):=by
 have sc:=lT
 exact fnD F lT rfl rfl fun cdv A outer s H E hr=>
  (B6 (CY (V5 GW MT J8 B.tuple (BO (DE.dp (HN (N':= ["trial","column"]) (R':=PR K) DB D8 [some 0,none] (E6 [some 0,none]) FI (FZ (AM 1)) (fun _=>(CT 1 (show List.Nodup (α:=Str) ["trial","column"] by decide +kernel))) (fun _=>FX) (fun _=>(GY (AH 0) (AH 1))))) CQ))))
def b_q20 : En -> Option Out :=
 (mRet (mLC (E6 [some 0,none]) (CU (mVar 1)) (gVar 1) mYes (mBin dix (mPk 0) (mPk 1))))
def MG:List PyData->Option Sl:=FW 2 b_q20 2
theorem xG (B:Bl mg) (F:Fun K "levels_in" "levels_in" bW f fd):FnOk P w K mg base CX0 1 f fd ["levels","columns"] (spD K MG):=by
 have sc:=nF
 exact fnD F nF rfl rfl fun cdv A outer s H E hr=>
  (B6 (CY (HN (N':= ["levels","column"]) (R':=PR K) DB D8 [some 0,none] (E6 [some 0,none]) FI (FZ (AM 1)) (fun _=>(CT 1 (show List.Nodup (α:=Str) ["levels","column"] by decide +kernel))) (fun _=>FX) (fun _=>(GY (AH 0) (AH 1))))))
def b_q12 : En -> Option Out :=
 (mSeq (mAsg 2 mDNew)
 (mSeq (KW (CU (mVar 0)) (gVar 3) (mSeq (mAsg 4 (mCall YR (mCons (mVar 3) (mCons (mVar 1) mNil))))
 (cP 2 (mPk 4) (mBin dAdd (VX (mPk 2) (mPk 4) (mK (.int 0))) (mK (.int 1))))))
 (mRet (mPk 2))))
def RY:List PyData->Option Sl:=FW 5 b_q12 2
theorem zF (B:Bl mg) (D_q13:Def P w K mg base 1 "choice_of" ["trial","columns"] (spD K YR)) (F:Fun K "choice_counts" "choice_counts" dZ f fd):FnOk P w K mg base CX0 2 f fd ["plan","columns"] (spD K RY):=by
 have sc:=nQ
 exact fnD F nQ rfl rfl fun cdv A outer s H E hr=>
  (AW (CD 2 pV sc.nd)
  (AW (IP DF (FZ (AM 0)) (F8 3 sc.nd) (AW (CD 4 (BV D_q13 hr (AE (AM 3) (AE (AM 1) BD))) sc.nd)
  (B6 (qE (YW hr) 2 (AH 4) (F5 (DE.dp (kF (YW hr) (AH 2) (AH 4) B3)) (DE.dp B3))))))
  (B6 (LS 2))))
def b_q17 : En -> Option Out :=
 (mSeq (mAsg 3 (mCall RY (mCons (mVar 0) (mCons (mVar 2) mNil))))
 (mSeq (mIf (mTest (mBin dLt (mCallP dLenD (mConsP (mPk 3) mNilP)) (mCall MC (mCons (mCall MG (mCons (mVar 1) (mCons (mVar 2) mNil))) mNil)))) (mRet (mK (.bool false))) mNext)
 (mRet (mBin deq (bX (mPk 3)) (dI (mPk 3))))))
def VA:List PyData->Option Sl:=FW 4 b_q17 3
theorem y3 (B:Bl mg) (D_q12:Def P w K mg base 2 "choice_counts" ["plan","columns"] (spD K RY)) (D_q26:Def P w K mg base 1 "product_of" ["numbers"] (spD K MC)) (D_q20:Def P w K mg base 1 "levels_in" ["levels","columns"] (spD K MG)) (F:Fun K "is_even_in" "is_even_in" dR f fd):FnOk P w K mg base CX0 3 f fd ["plan","levels","columns"] (spD K VA):=by
 have sc:=mN
 exact fnD F mN rfl rfl fun cdv A outer s H E hr=>
  (AW (CD 3 (BV D_q12 hr (AE (AM 0) (AE (AM 2) BD))) sc.nd)
  (AW (IL (lS (DE.dp (F6 UR dO HD B.len (BO (AH 3) CQ))) (DE.dp (BV D_q26 hr (AE (BV D_q20 hr (AE (AM 1) (AE (AM 2) BD))) BD)))) (B6 (CY HC)) FD)
  (B6 (CY (tU hr.units (DE.dp (rM B.min (AH 3))) (DE.dp (pB B.max (AH 3))))))))
def b_q21 : En -> Option Out :=
 (mSeq (mAsg 2 (mLst mNil))
 (mSeq (KW (CU (mVar 0)) (gVar 3) (mSeq (mAsg 4 (mIfE (QI (mPk 3)) (mBin dAdd (mBin dix (mPk 3) (mUn (iun fun i=> -i) (mK (.int 1)))) (mK (.int 1))) (mK (.int 0))))
 (aD 2 (mLC (E6 [some 3,none]) (OW (mConsP (mPk 4) (mConsP (mPk 1) mNilP))) (gVar 1) mYes (mBin dAdd (mPk 0) (mLst (mCons (mVar 1) mNil)))))))
 (mRet (mPk 2))))
def YH:List PyData->Option Sl:=FW 5 b_q21 2
theorem xK (B:Bl mg) (F:Fun K "longer_lists" "longer_lists" dS f fd):FnOk P w K mg base CX0 1 f fd ["lists","things"] (spD K YH):=by
 have sc:=jH
 exact fnD F jH rfl rfl fun cdv A outer s H E hr=>
  (AW (CD 2 (IQ BD) sc.nd)
  (AW (IP DF (FZ (AM 0)) (F8 3 sc.nd) (AW (CD 4 (zA (qI (AH 3)) (F5 (DE.dp (GY (AH 3) (DE.dp (vG (DE.dp B3))))) (DE.dp B3)) B3) sc.nd)
  (B6 (mM 2 (HN (N':= ["columns","thing"]) (R':=PR K) DB D8 [some 3,none] (E6 [some 3,none]) FI (Q7 B.range (BO (AH 4) (BO (AH 1) CQ))) (fun _=>(CT 1 (show List.Nodup (α:=Str) ["columns","thing"] by decide +kernel))) (fun _=>FX) (fun _=>(F5 (AH 0) (DE.dp (IQ (AE (AM 1) BD))))))))))
  (B6 (LS 2))))
def b_q30 : En -> Option Out :=
 (mSeq (mAsg 3 (mLst (mCons (mLst mNil) mNil)))
 (mSeq (KW (LG (mConsP (mPk 2) mNilP)) (gVar 4) (mSeq (mFrz 3 (mAsg 3 (mCall YH (mCons (mVar 3) (mCons (mCallP dLen (mConsP (mPk 1) mNilP)) mNil)))))
 (mFrz 3 (KW (CU (mVar 3)) (gVar 5) (mIf (mNot (mTest (mCall VA (mCons (mVar 0) (mCons (mVar 1) (mCons (mVar 5) mNil)))))) (mRet (mPk 5)) mNext)))))
 (mRet (mK .none))))
def YX:List PyData->Option Sl:=FW 6 b_q30 3
theorem xA (B:Bl mg) (D_q21:Def P w K mg base 1 "longer_lists" ["lists","things"] (spD K YH)) (D_q17:Def P w K mg base 3 "is_even_in" ["plan","levels","columns"] (spD K VA)) (F:Fun K "uneven_columns" "uneven_columns" bM f fd):FnOk P w K mg base CX0 4 f fd ["plan","levels","t"] (spD K YX):=by
 have sc:=lJ
 exact fnD F lJ rfl rfl fun cdv A outer s H E hr=>
  (AW (CD 3 (IQ (AE (IQ BD) BD)) sc.nd)
  (AW (IP DF (IT B.range (BO (AH 2) CQ)) (F8 4 sc.nd) (AW (FQ 3 (CD 3 (BV D_q21 hr (AE (AM 3) (AE (F6 DR IR HD B.len (BO (AH 1) CQ)) BD))) sc.nd))
  (B6 (FQ 3 (IP DF (FZ (AM 3)) (F8 5 sc.nd) (B6 (IL (K8 (K3 (DE.dp (BV D_q17 hr (AE (AM 0) (AE (AM 1) (AE (AM 5) BD))))))) (B6 (LS 5)) FD)))))))
  (B6 (CY cI))))
def b_q16 : En -> Option Out :=
 (mSeq (mAsg 3 (mLC (E6 [some 0,none]) (LG (mConsP (mPk 1) mNilP)) (gVar 1) (mTest (mBin (WL true) (mPk 1) (mPk 0))) (mVar 1)))
 (mRet (mCallP dSorted (mConsP (mBin dAdd (mPk 0) (mSl (mPk 3) mNoPart (mPart (mBin dSub (mPk 2) (mCallP dLen (mConsP (mPk 0) mNilP)))))) mNilP))))
def XD:List PyData->Option Sl:=FW 4 b_q16 3
theorem wS (B:Bl mg) (F:Fun K "filled_up" "filled_up" cO f fd):FnOk P w K mg base CX0 1 f fd ["columns","things","t"] (spD K XD):=by
 have sc:=mH
 exact fnD F mH rfl rfl fun cdv A outer s H E hr=>
  (AW (cT (N':= ["columns","thing"]) (R':=PR K) DB D8 3 [some 0,none] (E6 [some 0,none]) FI sc.nd (IT B.range (BO (AH 1) CQ)) (fun _=>(CT 1 (show List.Nodup (α:=Str) ["columns","thing"] by decide +kernel))) (fun _=>(NC (V6 hr.units (AH 1) (AH 0)))) (fun _=>(AM 1)))
  (B6 (CY (F6 YU fM UX B.sorted (BO (DE.dp (F5 (AH 0) (DE.dp (kE (AH 3) cW (R5 (DE.dp (aA (AH 2) (DE.dp (F6 DR IR HD B.len (BO (AH 0) CQ)))))))))) CQ)))))
def b_q27 : En -> Option Out :=
 (mSeq (KW (LG (mConsP (mCallP dMin2 (mConsP (mBin dAdd (mCallP dLenD (mConsP (mPk 0) mNilP)) (mK (.int 1))) (mConsP (mCall MC (mCons (mVar 1) mNil)) mNilP))) mNilP)) (gVar 2) (mSeq (mAsg 3 (mCall SJ (mCons (mVar 1) (mCons (mVar 2) mNil))))
 (mIf (mTest (mBin (iT true) (mPk 3) (mPk 0))) (mRet (mPk 3)) mNext)))
 (mRet (JJ ID 0 (mBin NT (mPk 1) (mPk 0)) (mPk 0))))
def SR:List PyData->Option Sl:=FW 4 b_q27 2
theorem zG (B:Bl mg) (D_q26:Def P w K mg base 1 "product_of" ["numbers"] (spD K MC)) (D_q29:Def P w K mg base 1 "trial_at" ["levels","place"] (spD K SJ)) {cL PL:Addr} (hcd:fd.code = .ref cL) (CL:PySem.W.CodeHd base cL PL) (hpL:PL ∈ IN K) (bm:BM base mg) (F:Fun K "rarest_choice" "rarest_choice" UB f fd):FnOk P w K mg base CX0 3 f fd ["counts","levels"] (spD K SR):=by
 have sc:=kB
 exact A09 F hcd kB rfl rfl fun A outer s H E hr=>
  (AW (IP DF (IT B.range (BO (DE.dp (F6 (gD rfl) pW W1 B.min (BO (DE.dp (F5 (DE.dp (F6 UR dO HD B.len (BO (AH 0) CQ))) (DE.dp B3))) (BO (DE.dp (BV D_q26 hr (AE (AM 1) BD))) CQ)))) CQ)) (F8 2 sc.nd) (AW (CD 3 (BV D_q29 hr (AE (AM 1) (AE (AM 2) BD))) sc.nd)
  (B6 (IL (eR (YW hr) (AH 3) (AH 0)) (B6 (LS 3)) FD))))
  (B6 (CY (fB rfl CL hpL bm hr B.min (PH rfl) (AH 0) (fun _ _ hr=>(dM (YW hr) (AH 1) (AH 0)))))))
def b_q15 : En -> Option Out :=
 (mSeq (mAsg 3 (mCall YX (mCons (mVar 0) (mCons (mVar 1) (mCons (mVar 2) mNil)))))
 (mSeq (mIf (mTest (mBin disN (mPk 3) (mK .none))) (mRet (mTup (mCons (mK (.str "even")) mNil))) mNext)
 (mSeq (mFrz 3 (mAsg 4 (mCall XD (mCons (mVar 3) (mCons (mCallP dLen (mConsP (mPk 1) mNilP)) (mCons (mVar 2) mNil))))))
 (mSeq (mFrz 4 (mAsg 5 (mCall RY (mCons (mVar 0) (mCons (mVar 4) mNil)))))
 (mSeq (b7 5 (mAsg 6 (JJ NZ 5 (mBin NT (mPk 1) (mPk 0)) (mPk 5))))
 (mFrz 6 (mFrz 5 (mFrz 4 (mRet (mTup (mCons (mK (.str "uneven")) (mCons (mVar 4) (mCons (mVar 6) (mCons (mCall SR (mCons (mVar 5) (mCons (mCall MG (mCons (mVar 1) (mCons (mVar 4) mNil))) mNil))) mNil))))))))))))))
def YF:List PyData->Option Sl:=FW 7 b_q15 3
theorem zI (B:Bl mg) (D_q30:Def P w K mg base 4 "uneven_columns" ["plan","levels","t"] (spD K YX)) (D_q16:Def P w K mg base 1 "filled_up" ["columns","things","t"] (spD K XD)) (D_q12:Def P w K mg base 2 "choice_counts" ["plan","columns"] (spD K RY)) (D_q27:Def P w K mg base 3 "rarest_choice" ["counts","levels"] (spD K SR)) (D_q20:Def P w K mg base 1 "levels_in" ["levels","columns"] (spD K MG)) {cL PL:Addr} (hcd:fd.code = .ref cL) (CL:PySem.W.CodeHd base cL PL) (hpL:PL ∈ IN K) (bm:BM base mg) (F:Fun K "even_to" "even_to" V4 f fd):FnOk P w K mg base CX0 5 f fd ["plan","levels","t"] (spD K YF):=by
 have sc:=n9
 exact A09 F hcd n9 rfl rfl fun A outer s H E hr=>
  (AW (CD 3 (BV D_q30 hr (AE (AM 0) (AE (AM 1) (AE (AM 2) BD)))) sc.nd)
  (AW (IL (wC (AH 3) (DE.dp cI)) (B6 (CY (M5 (AE OC BD)))) FD)
  (AW (FQ 3 (CD 4 (BV D_q16 hr (AE (AM 3) (AE (F6 DR IR HD B.len (BO (AH 1) CQ)) (AE (AM 2) BD)))) sc.nd))
  (AW (FQ 4 (CD 5 (BV D_q12 hr (AE (AM 0) (AE (AM 4) BD))) sc.nd))
  (AW (sS 5 (CD 6 (fZ rfl CL hpL bm hr B.max (PH rfl) (AH 5) (fun _ _ hr=>(dM (YW hr) (AH 1) (AH 0)))) sc.nd))
  (B6 (FQ 6 (FQ 5 (FQ 4 (CY (M5 (AE OC (AE (AM 4) (AE (AM 6) (AE (BV D_q27 hr (AE (AM 5) (AE (BV D_q20 hr (AE (AM 1) (AE (AM 4) BD))) BD))) BD)))))))))))))))
def b_q14 : En -> Option Out :=
 (mRet (mBin FG (mCallP dSum (mConsP (mLC (E6 [none,none]) (K7 (mCons (mVar 1) (mCons (mVar 2) mNil))) (gTupD [(gVar 0),(gVar 1)]) mYes (mBin dRep (mPk 0) (mPk 1))) mNilP)) (mPk 0)))
def V7:List PyData->Option Sl:=FW 3 b_q14 3
theorem yT (B:Bl mg) (F:Fun K "comes_to" "comes_to" dD f fd):FnOk P w K mg base CX0 1 f fd ["p","word","trial"] (spD K V7):=by
 have sc:=mJ
 exact fnD F mJ rfl rfl fun cdv A outer s H E hr=>
  (B6 (CY (FH (DE.dp (F6 (XL rfl) kD kZ B.sum (BO (DE.dp (HN (N':= ["rest","step"]) (R':=PR K) DB D8 [none,none] (E6 [none,none]) FI (QX B.zip (AE (AM 1) (AE (AM 2) BD))) (fun _=>(OO (GA (CT 0 (show List.Nodup (α:=Str) ["rest","step"] by decide +kernel)) (GA (CT 1 (show List.Nodup (α:=Str) ["rest","step"] by decide +kernel)) MZ)))) (fun _=>FX) (fun _=>(GQ (AH 0) (AH 1))))) CQ))) (AH 0))))
def b_q24 : En -> Option Out :=
 (mRet (mBin dRepT (mTup (mCons (mK (.int 0)) mNil)) (mPk 0)))
def QJ:List PyData->Option Sl:=FW 1 b_q24 1
theorem yM (B:Bl mg) (F:Fun K "nought_word" "nought_word" e7 f fd):FnOk P w K mg base CX0 1 f fd ["n"] (spD K QJ):=by
 have sc:=jN
 exact fnD F jN rfl rfl fun cdv A outer s H E hr=>
  (B6 (CY (sP (DE.dp (M5 (AE B3 BD))) (AH 0))))
def b_q22 : En -> Option Out :=
 (mRet (mCallP dTuple (mConsP (mLC (E6 [some 2,some 0,none,none]) (K7 (mCons (mVar 1) (mCons (mVar 3) mNil))) (gTupD [(gVar 2),(gVar 3)]) mYes (mBin FG (mBin dAdd (mPk 2) (mBin dRep (mPk 0) (mPk 3))) (mPk 1))) mNilP)))
def X5:List PyData->Option Sl:=FW 4 b_q22 4
theorem xY (B:Bl mg) (F:Fun K "multiple_put_to" "multiple_put_to" dU f fd):FnOk P w K mg base CX0 1 f fd ["p","word","factor","other"] (spD K X5):=by
 have sc:=jL
 exact fnD F jL rfl rfl fun cdv A outer s H E hr=>
  (B6 (CY (V5 GW MT J8 B.tuple (BO (DE.dp (HN (N':= ["factor","p","one","two"]) (R':=PR K) DB D8 [some 2,some 0,none,none] (E6 [some 2,some 0,none,none]) FI (QX B.zip (AE (AM 1) (AE (AM 3) BD))) (fun _=>(OO (GA (CT 2 (show List.Nodup (α:=Str) ["factor","p","one","two"] by decide +kernel)) (GA (CT 3 (show List.Nodup (α:=Str) ["factor","p","one","two"] by decide +kernel)) MZ)))) (fun _=>FX) (fun _=>(FH (DE.dp (F5 (AH 2) (DE.dp (GQ (AH 0) (AH 3))))) (AH 1))))) CQ))))
def b_q23 : En -> Option Out :=
 (mSeq (mAsg 4 (mLst mNil))
 (mSeq (KW (CU (mVar 2)) (gVar 5) (aD 4 (mLC (E6 [some 0,some 5,some 3,none]) (CU (mVar 1)) (gVar 3) mYes (mCall X5 (mCons (mVar 0) (mCons (mVar 3) (mCons (mVar 1) (mCons (mVar 2) mNil))))))))
 (mRet (mPk 4))))
def Y4:List PyData->Option Sl:=FW 6 b_q23 4
theorem x6 (B:Bl mg) (D_q22:Def P w K mg base 1 "multiple_put_to" ["p","word","factor","other"] (spD K X5)) (F:Fun K "multiples_put_to" "multiples_put_to" cM f fd):FnOk P w K mg base CX0 2 f fd ["p","words","factors","other"] (spD K Y4):=by
 have sc:=jY
 exact fnD F jY rfl rfl fun cdv A outer s H E hr=>
  (AW (CD 4 (IQ BD) sc.nd)
  (AW (IP DF (FZ (AM 2)) (F8 5 sc.nd) (B6 (mM 4 (HN (N':= ["p","factor","other","word"]) (R':=PR K) DB D8 [some 0,some 5,some 3,none] (E6 [some 0,some 5,some 3,none]) FI (FZ (AM 1)) (fun _=>(CT 3 (show List.Nodup (α:=Str) ["p","factor","other","word"] by decide +kernel))) (fun _=>FX) (fun _=>(BV D_q22 hr (AE (AM 0) (AE (AM 3) (AE (AM 1) (AE (AM 2) BD))))))))))
  (B6 (LS 4))))
def b_q28 : En -> Option Out :=
 (mSeq (mAsg 3 (mLst (mCons (mCall QJ (mCons (mVar 1) mNil)) mNil)))
 (mSeq (KW (CU (mVar 2)) (gVar 4) (mIf (mTest (mBin (WL true) (mPk 4) (mPk 3))) (mFrz 3 (mAsg 3 (mCall Y4 (mCons (mVar 0) (mCons (mVar 3) (mCons (mLR (mPk 0)) (mCons (mVar 4) mNil))))))) mNext))
 (mRet (mCallP dSortT (mConsP (mPk 3) mNilP)))))
def SH:List PyData->Option Sl:=FW 5 b_q28 3
theorem zL (B:Bl mg) (D_q24:Def P w K mg base 1 "nought_word" ["n"] (spD K QJ)) (D_q23:Def P w K mg base 2 "multiples_put_to" ["p","words","factors","other"] (spD K Y4)) (F:Fun K "span" "span" dB f fd):FnOk P w K mg base CX0 3 f fd ["p","n","words"] (spD K SH):=by
 have sc:=lY
 exact fnD F lY rfl rfl fun cdv A outer s H E hr=>
  (AW (CD 3 (IQ (AE (BV D_q24 hr (AE (AM 1) BD)) BD)) sc.nd)
  (AW (IP DF (FZ (AM 2)) (F8 4 sc.nd) (B6 (IL (V6 hr.units (AH 4) (AH 3)) (B6 (FQ 3 (CD 3 (BV D_q23 hr (AE (AM 0) (AE (AM 3) (AE (A28 B.list B.range (AH 0)) (AE (AM 4) BD))))) sc.nd))) FD)))
  (B6 (CY (F6 W5 lO UX B.sorted (BO (AH 3) CQ))))))
def b_q18 : En -> Option Out :=
 (mRet (mCallP dAll (mConsP (mLC (E6 [some 0,some 2,none,none]) (CU (mVar 1)) (gTupD [(gVar 2),(gVar 3)]) mYes (mBin deq (mCall V7 (mCons (mVar 0) (mCons (mVar 2) (mCons (mVar 1) mNil)))) (mPk 3))) mNilP)))
def XI:List PyData->Option Sl:=FW 3 b_q18 3
theorem yE (B:Bl mg) (D_q14:Def P w K mg base 1 "comes_to" ["p","word","trial"] (spD K V7)) (F:Fun K "keeps" "keeps" dJ f fd):FnOk P w K mg base CX0 2 f fd ["p","rules","trial"] (spD K XI):=by
 have sc:=jX
 exact fnD F jX rfl rfl fun cdv A outer s H E hr=>
  (B6 (CY (F6 (P5 rfl) WB VQ B.all (BO (DE.dp (HN (N':= ["p","trial","word","rest"]) (R':=PR K) DB D8 [some 0,some 2,none,none] (E6 [some 0,some 2,none,none]) FI (FZ (AM 1)) (fun _=>(OO (GA (CT 2 (show List.Nodup (α:=Str) ["p","trial","word","rest"] by decide +kernel)) (GA (CT 3 (show List.Nodup (α:=Str) ["p","trial","word","rest"] by decide +kernel)) MZ)))) (fun _=>FX) (fun _=>(tU hr.units (DE.dp (BV D_q14 hr (AE (AM 0) (AE (AM 2) (AE (AM 1) BD))))) (AH 3))))) CQ))))
def b_cut : En -> Option Out :=
 (mRet (mLC (E6 [some 0,some 2,none]) (CU (mCall UA (mCons (mBin dRep (mLst (mCons (mVar 0) mNil)) (mPk 1)) mNil))) (gVar 2) (mTest (mCall XI (mCons (mVar 0) (mCons (mVar 1) (mCons (mVar 2) mNil))))) (mVar 2)))
def XF:List PyData->Option Sl:=FW 3 b_cut 3
theorem xM (B:Bl mg) (D_q11:Def P w K mg base 2 "all_trials" ["levels"] (spD K UA)) (D_q18:Def P w K mg base 2 "keeps" ["p","rules","trial"] (spD K XI)) (F:Fun K "cut" "cut" d8 f fd):FnOk P w K mg base CX0 3 f fd ["p","n","rules"] (spD K XF):=by
 have sc:=lK
 exact fnD F lK rfl rfl fun cdv A outer s H E hr=>
  (B6 (CY (HN (N':= ["p","rules","trial"]) (R':=PR K) DB D8 [some 0,some 2,none] (E6 [some 0,some 2,none]) FI (FZ (BV D_q11 hr (AE (GQ (DE.dp (IQ (AE (AM 0) BD))) (AH 1)) BD))) (fun _=>(CT 2 (show List.Nodup (α:=Str) ["p","rules","trial"] by decide +kernel))) (fun _=>(NC (K3 (DE.dp (BV D_q18 hr (AE (AM 0) (AE (AM 1) (AE (AM 2) BD)))))))) (fun _=>(AM 2)))))
def b_q25 : En -> Option Out :=
 (mRet (mCallP dLen (mConsP (mLC (E6 [none]) (CU (mVar 0)) (gVar 0) (mTest (mBin dne (mPk 0) (mK (.int 0)))) (mVar 0)) mNilP)))
def NQ:List PyData->Option Sl:=FW 1 b_q25 1
theorem wR (B:Bl mg) (F:Fun K "places_of" "places_of" cD f fd):FnOk P w K mg base CX0 1 f fd ["word"] (spD K NQ):=by
 have sc:=mO
 exact fnD F mO rfl rfl fun cdv A outer s H E hr=>
  (B6 (CY (F6 DR IR HD B.len (BO (DE.dp (HN (N':= ["rest"]) (R':=PR K) DB D8 [none] (E6 [none]) FI (FZ (AM 0)) (fun _=>(CT 0 (show List.Nodup (α:=Str) ["rest"] by decide +kernel))) (fun _=>(NC (QL hr.units (AH 0) (DE.dp B3)))) (fun _=>(AM 0)))) CQ))))
def b_q19 : En -> Option Out :=
 (mSeq (mAsg 3 (mLC (E6 [some 1,none]) (CU (mCall SH (mCons (mVar 0) (mCons (mVar 1) (mCons (mVar 2) mNil))))) (gVar 1) (mTest (mBin dne (mPk 1) (mCall QJ (mCons (mVar 0) mNil)))) (mVar 1)))
 (mSeq (mIf (mNot (bK (mPk 3))) (mRet (mTup (mCons (mK (.str "none")) mNil))) mNext)
 (mRet (mTup (mCons (mK (.str "least")) (mCons (dH NQ (mPk 3)) mNil))))))
def X6:List PyData->Option Sl:=FW 4 b_q19 3
theorem wV (B:Bl mg) (D_q28:Def P w K mg base 3 "span" ["p","n","words"] (spD K SH)) (D_q24:Def P w K mg base 1 "nought_word" ["n"] (spD K QJ)) (D_q25:Def P w K mg base 1 "places_of" ["word"] (spD K NQ)) (F:Fun K "least_word" "least_word" bJ f fd):FnOk P w K mg base CX0 4 f fd ["p","n","words"] (spD K X6):=by
 have sc:=kU
 exact fnD F kU rfl rfl fun cdv A outer s H E hr=>
  (AW (cT (N':= ["n","word"]) (R':=PR K) DB D8 3 [some 1,none] (E6 [some 1,none]) FI sc.nd (FZ (BV D_q28 hr (AE (AM 0) (AE (AM 1) (AE (AM 2) BD))))) (fun _=>(CT 1 (show List.Nodup (α:=Str) ["n","word"] by decide +kernel))) (fun _=>(NC (QL hr.units (AH 1) (DE.dp (BV D_q24 hr (AE (AM 0) BD)))))) (fun _=>(AM 1)))
  (AW (IL (K8 (rL (AH 3))) (B6 (CY (M5 (AE OC BD)))) FD)
  (B6 (CY (M5 (AE OC (AE (sA D_q25 hr W1 B.min (AH 3)) BD)))))))
def b_q8 : En -> Option Out :=
 (mRet (mAndV (mIsi "int" (mPk 0)) (mNotV (mIsi "bool" (mPk 0)))))
def TW:List PyData->Option Sl:=FW 1 b_q8 1
theorem A60 (B:Bl mg) (F:Fun K "_law_whole" "_law_whole" sM f fd):FnOk P w K mg base CX0 1 f fd ["_law_found"] (spD K TW):=by
 have sc:=uL
 exact fnD F uL rfl rfl fun cdv A outer s H E hr=>
  (B6 (CY (SU (SB mU B.int B.isinstance (AH 0)) (VO (zK (SB oM B.bool B.isinstance (AH 0)))))))
def b_q4 : En -> Option Out :=
 (mSeq (mAsg 2 (mBin FG (mBin dRep (mBin dAdd (mBin dAdd (mBin FG (mPk 0) (mK (.int 2147483647))) (mBin dRep (mBin dRep (mK (.int 40503)) (mPk 1)) (mPk 1))) (mBin dRep (mK (.int 17)) (mPk 1))) (mK (.int 48271))) (mK (.int 2147483647))))
 (mRet (mBin FG (mBin dRep (mPk 2) (mBin dAdd (mBin dAdd (mBin FG (mPk 2) (mK (.int 65537))) (mBin dRep (mK (.int 3)) (mPk 1))) (mK (.int 1)))) (mK (.int 2147483629)))))
def hJ:List PyData->Option Sl:=FW 3 b_q4 2
theorem A25 (B:Bl mg) (F:Fun K "_law_mixed" "_law_mixed" sR f fd):FnOk P w K mg base CX0 1 f fd ["_law_cell","_law_k"] (spD K hJ):=by
 have sc:=uV
 exact fnD F uV rfl rfl fun cdv A outer s H E hr=>
  (AW (CD 2 (FH (DE.dp (GQ (DE.dp (F5 (DE.dp (F5 (DE.dp (FH (AH 0) (DE.dp B3))) (DE.dp (GQ (DE.dp (GQ (DE.dp B3) (AH 1))) (AH 1))))) (DE.dp (GQ (DE.dp B3) (AH 1))))) (DE.dp B3))) (DE.dp B3)) sc.nd)
  (B6 (CY (FH (DE.dp (GQ (AH 2) (DE.dp (F5 (DE.dp (F5 (DE.dp (FH (AH 2) (DE.dp B3))) (DE.dp (GQ (DE.dp B3) (AH 1))))) (DE.dp B3))))) (DE.dp B3)))))
def b_q7 : En -> Option Out :=
 (mSeq (mAsg 1 (mBin dix (mLst (mCons (mK (.int 2)) (mCons (mK (.int 3)) (mCons (mK (.int 5)) (mCons (mK (.int 7)) (mCons (mK (.int 2)) (mCons (mK (.int 3)) (mCons (mK (.int 2)) mNil)))))))) (mBin FG (mPk 0) (mK (.int 7)))))
 (mSeq (mAsg 2 (mBin dix (mLst (mCons (mK (.int 0)) (mCons (mK (.int 0)) (mCons (mK (.int 6)) (mCons (mK (.int 4)) (mCons (mK (.int 0)) (mCons (mK (.int 3)) (mCons (mK (.int 0)) (mCons (mK (.int 2)) mNil))))))))) (mPk 1)))
 (mFrz 1 (mRet (mTup (mCons (mVar 1) (mCons (mBin dAdd (mK (.int 1)) (mBin FG (mBin EG (mPk 0) (mK (.int 7))) (mPk 2))) mNil)))))))
def j4:List PyData->Option Sl:=FW 3 b_q7 1
theorem A06 (B:Bl mg) (F:Fun K "_law_size" "_law_size" rS f fd):FnOk P w K mg base CX0 1 f fd ["_law_cell"] (spD K j4):=by
 have sc:=tS
 exact fnD F tS rfl rfl fun cdv A outer s H E hr=>
  (AW (CD 1 (GY (DE.dp (IQ (AE B3 (AE B3 (AE B3 (AE B3 (AE B3 (AE B3 (AE B3 BD))))))))) (DE.dp (FH (AH 0) (DE.dp B3)))) sc.nd)
  (AW (CD 2 (GY (DE.dp (IQ (AE B3 (AE B3 (AE B3 (AE B3 (AE B3 (AE B3 (AE B3 (AE B3 BD)))))))))) (AH 1)) sc.nd)
  (B6 (FQ 1 (CY (M5 (AE (AM 1) (AE (F5 (DE.dp B3) (DE.dp (FH (DE.dp (I9 (AH 0) (DE.dp B3))) (AH 2)))) BD))))))))
def b_q9 : En -> Option Out :=
 (mSeq (mAsg 4 (mBin EG (mPk 0) (mK (.int 2))))
 (mSeq (KW (LG (mConsP (mBin dRep (mBin FG (mPk 1) (mK (.int 10))) (mPk 3)) mNilP)) (gVar 5) (mAsg 4 (mBin EG (mPk 4) (mPk 2))))
 (mSeq (mAsg 6 (mLst mNil))
 (mSeq (KW (LG (mConsP (mPk 3) mNilP)) (gVar 5) (mSeq (mAsg 7 (mCall hJ (mCons (mVar 0) (mCons (mBin dAdd (mBin dRep (mK (.int 10)) (mPk 1)) (mPk 5)) mNil))))
 (mSeq (mAsg 8 (mBin dRep (mBin FG (mBin EG (mPk 7) (mK (.int 2))) (mPk 2)) (mCallP dInt (mConsP (mBin dGt (mBin dAdd (mBin FG (mPk 7) (mK (.int 2))) (mBin FG (mBin EG (mPk 0) (mK (.int 11))) (mK (.int 2)))) (mK (.int 0))) mNilP))))
 (mSeq (mIf (mTest (mBin deq (mBin FG (mPk 0) (mK (.int 2))) (mK (.int 1)))) (mSeq (mAsg 8 (mBin FG (mPk 4) (mPk 2)))
 (mAsg 4 (mBin EG (mPk 4) (mPk 2)))) mNext)
 (mFrz 8 (mApp 6 (mVar 8)))))))
 (mRet (mCallP dTuple (mConsP (mPk 6) mNilP)))))))
def aM:List PyData->Option Sl:=FW 9 b_q9 4
theorem A24 (B:Bl mg) (D_q4:Def P w K mg base 1 "_law_mixed" ["_law_cell","_law_k"] (spD K hJ)) (F:Fun K "_law_word" "_law_word" oF f fd):FnOk P w K mg base CX0 2 f fd ["_law_cell","_law_k","_law_p","_law_n"] (spD K aM):=by
 have sc:=uH
 exact fnD F uH rfl rfl fun cdv A outer s H E hr=>
  (AW (CD 4 (I9 (AH 0) (DE.dp B3)) sc.nd)
  (AW (IP DF (IT B.range (BO (DE.dp (GQ (DE.dp (FH (AH 1) (DE.dp B3))) (AH 3))) CQ)) (F8 5 sc.nd) (B6 (CD 4 (I9 (AH 4) (AH 2)) sc.nd)))
  (AW (CD 6 (IQ BD) sc.nd)
  (AW (IP DF (IT B.range (BO (AH 3) CQ)) (F8 5 sc.nd) (AW (CD 7 (BV D_q4 hr (AE (AM 0) (AE (F5 (DE.dp (GQ (DE.dp B3) (AH 1))) (AH 5)) BD))) sc.nd)
  (AW (CD 8 (GQ (DE.dp (FH (DE.dp (I9 (AH 7) (DE.dp B3))) (AH 2))) (DE.dp (V5 gH wI mU B.int (BO (DE.dp (A21 (DE.dp (F5 (DE.dp (FH (AH 7) (DE.dp B3))) (DE.dp (FH (DE.dp (I9 (AH 0) (DE.dp B3))) (DE.dp B3))))) (DE.dp B3))) CQ)))) sc.nd)
  (AW (IL (UJ hr.units (DE.dp (FH (AH 0) (DE.dp B3))) (DE.dp B3)) (AW (CD 8 (FH (AH 4) (AH 2)) sc.nd)
  (B6 (CD 4 (I9 (AH 4) (AH 2)) sc.nd))) FD)
  (B6 (FQ 8 (ZJ 6 (AM 8))))))))
  (B6 (CY (V5 GW MT J8 B.tuple (BO (AH 6) CQ))))))))
def b_q10 : En -> Option Out :=
 (mSeq (mAsg 3 (mLst mNil))
 (mSeq (KW (CU (mVar 0)) (gVar 4) (mSeq (mAsg 5 (mCall aM (mCons (mVar 4) (mCons (mK (.int 1)) (mCons (mVar 1) (mCons (mVar 2) mNil))))))
 (mSeq (mIf (mAnd (mTest (mBin deq (mBin FG (mPk 4) (mK (.int 2))) (mK (.int 0)))) (mAnd (mTest (mBin dGt (mCallP dLen (mConsP (mPk 3) mNilP)) (mK (.int 0)))) (mTest (mBin deq (mBin FG (mBin EG (mPk 4) (mK (.int 5))) (mK (.int 4))) (mK (.int 0)))))) (mSeq (mAsg 6 (mBin dix (mPk 3) (mBin dSub (mCallP dLen (mConsP (mPk 3) mNilP)) (mK (.int 1)))))
 (mFrz 6 (mAsg 5 (mCallP dTuple (mConsP (mLC (E6 [some 4,some 1,none,none]) (K7 (mCons (mVar 6) (mCons (mBin dix (mPk 3) (mK (.int 0))) mNil))) (gTupD [(gVar 2),(gVar 3)]) mYes (mBin FG (mBin dAdd (mBin dRep (mPk 2) (mBin dAdd (mK (.int 1)) (mBin FG (mPk 0) (mPk 1)))) (mBin dRep (mPk 3) (mBin FG (mBin EG (mPk 0) (mK (.int 7))) (mK (.int 2))))) (mPk 1))) mNilP))))) mNext)
 (mFrz 5 (mApp 3 (mVar 5))))))
 (mRet (mPk 3))))
def Y5:List PyData->Option Sl:=FW 7 b_q10 3
theorem w5 (B:Bl mg) (D_q9:Def P w K mg base 2 "_law_word" ["_law_cell","_law_k","_law_p","_law_n"] (spD K aM)) (F:Fun K "_law_words" "_law_words" cQ f fd):FnOk P w K mg base CX0 3 f fd ["_law_cells","_law_p","_law_n"] (spD K Y5):=by
 have sc:=kG
 exact fnD F kG rfl rfl fun cdv A outer s H E hr=>
  (AW (CD 3 (IQ BD) sc.nd)
  (AW (IP DF (FZ (AM 0)) (F8 4 sc.nd) (AW (CD 5 (BV D_q9 hr (AE (AM 4) (AE B3 (AE (AM 1) (AE (AM 2) BD))))) sc.nd)
  (AW (IL (aG (W9 (UJ hr.units (DE.dp (FH (AH 4) (DE.dp B3))) (DE.dp B3)) (W9 (A13 (DE.dp (F6 DR IR HD B.len (BO (AH 3) CQ))) (DE.dp B3)) (WD (UJ hr.units (DE.dp (FH (DE.dp (I9 (AH 4) (DE.dp B3))) (DE.dp B3))) (DE.dp B3)))))) (AW (CD 6 (GY (AH 3) (DE.dp (aA (DE.dp (F6 DR IR HD B.len (BO (AH 3) CQ))) (DE.dp B3)))) sc.nd)
  (B6 (FQ 6 (CD 5 (V5 GW MT J8 B.tuple (BO (DE.dp (HN (N':= ["_law_cell","_law_p","_law_x","_law_y"]) (R':=PR K) DB D8 [some 4,some 1,none,none] (E6 [some 4,some 1,none,none]) FI (QX B.zip (AE (AM 6) (AE (GY (AH 3) (DE.dp B3)) BD))) (fun _=>(OO (GA (CT 2 (show List.Nodup (α:=Str) ["_law_cell","_law_p","_law_x","_law_y"] by decide +kernel)) (GA (CT 3 (show List.Nodup (α:=Str) ["_law_cell","_law_p","_law_x","_law_y"] by decide +kernel)) MZ)))) (fun _=>FX) (fun _=>(FH (DE.dp (F5 (DE.dp (GQ (AH 2) (DE.dp (F5 (DE.dp B3) (DE.dp (FH (AH 0) (AH 1))))))) (DE.dp (GQ (AH 3) (DE.dp (FH (DE.dp (I9 (AH 0) (DE.dp B3))) (DE.dp B3))))))) (AH 1))))) CQ)) sc.nd)))) FD)
  (B6 (FQ 5 (ZJ 3 (AM 5)))))))
  (B6 (LS 3))))
def b_q0 : En -> Option Out :=
 (mRet (mBin FG (mCallP dSum (mConsP (mLC (E6 [none,none]) (K7 (mCons (mVar 1) (mCons (mVar 2) mNil))) (gTupD [(gVar 0),(gVar 1)]) mYes (mBin dRep (mPk 0) (mPk 1))) mNilP)) (mPk 0)))
def fU:List PyData->Option Sl:=FW 3 b_q0 3
theorem A01 (B:Bl mg) (F:Fun K "_law_come" "_law_come" rE f fd):FnOk P w K mg base CX0 1 f fd ["_law_p","_law_word_here","_law_trial"] (spD K fU):=by
 have sc:=tV
 exact fnD F tV rfl rfl fun cdv A outer s H E hr=>
  (B6 (CY (FH (DE.dp (F6 (XL rfl) kD kZ B.sum (BO (DE.dp (HN (N':= ["_law_x","_law_y"]) (R':=PR K) DB D8 [none,none] (E6 [none,none]) FI (QX B.zip (AE (AM 1) (AE (AM 2) BD))) (fun _=>(OO (GA (CT 0 (show List.Nodup (α:=Str) ["_law_x","_law_y"] by decide +kernel)) (GA (CT 1 (show List.Nodup (α:=Str) ["_law_x","_law_y"] by decide +kernel)) MZ)))) (fun _=>FX) (fun _=>(GQ (AH 0) (AH 1))))) CQ))) (AH 0))))
def b_q2 : En -> Option Out :=
 (mSeq (mAsg 3 (mBin dix (mPk 0) (mPk 1)))
 (mSeq (mFrz 3 (mAsgT (gTupD [(gVar 6),(gVar 7)]) (mCall j4 (mCons (mVar 3) mNil))))
 (mSeq (mAsg 4 (mBin FG (mBin EG (mPk 3) (mK (.int 42))) (mBin dAdd (mPk 2) (mK (.int 1)))))
 (mSeq (mAsg 5 (mCall Y5 (mCons (mSl (mPk 0) (mPart (mBin dAdd (mPk 1) (mK (.int 1)))) (mPart (mBin dAdd (mBin dAdd (mPk 1) (mK (.int 1))) (mPk 4)))) (mCons (mVar 6) (mCons (mVar 7) mNil)))))
 (mFrz 5 (mRet (mTup (mCons (mVar 6) (mCons (mVar 7) (mCons (mVar 5) (mCons (mBin dAdd (mBin dAdd (mPk 1) (mK (.int 1))) (mPk 4)) mNil)))))))))))
def lH:List PyData->Option Sl:=FW 8 b_q2 3
theorem A26 (B:Bl mg) (D_q7:Def P w K mg base 1 "_law_size" ["_law_cell"] (spD K j4)) (D_q10:Def P w K mg base 3 "_law_words" ["_law_cells","_law_p","_law_n"] (spD K Y5)) (F:Fun K "_law_made" "_law_made" qH f fd):FnOk P w K mg base CX0 4 f fd ["_law_cells","_law_at","_law_most"] (spD K lH):=by
 have sc:=uC
 exact fnD F uC rfl rfl fun cdv A outer s H E hr=>
  (AW (CD 3 (GY (AH 0) (AH 1)) sc.nd)
  (AW (FQ 3 (dA (BV D_q7 hr (AE (AM 3) BD)) (kL (L6 (F8 6 sc.nd) (L6 (F8 7 sc.nd) cS)))))
  (AW (CD 4 (FH (DE.dp (I9 (AH 3) (DE.dp B3))) (DE.dp (F5 (AH 2) (DE.dp B3)))) sc.nd)
  (AW (CD 5 (BV D_q10 hr (AE (kE (AH 0) (R5 (DE.dp (F5 (AH 1) (DE.dp B3)))) (R5 (DE.dp (F5 (DE.dp (F5 (AH 1) (DE.dp B3))) (AH 4))))) (AE (AM 6) (AE (AM 7) BD)))) sc.nd)
  (B6 (FQ 5 (CY (M5 (AE (AM 6) (AE (AM 7) (AE (AM 5) (AE (F5 (DE.dp (F5 (AH 1) (DE.dp B3))) (AH 4)) BD))))))))))))
def b_q3 : En -> Option Out :=
 (mRet (mCallP dLen (mConsP (mLC (E6 [some 1,some 2,none]) (CU (mVar 0)) (gVar 2) (mTest (mBin deq (mCallP dTuple (mConsP (mLC (E6 [some 2,none]) (CU (mVar 0)) (gVar 1) mYes (mBin dix (mPk 0) (mPk 1))) mNilP)) (mPk 1))) (mVar 2)) mNilP)))
def gW:List PyData->Option Sl:=FW 3 b_q3 3
theorem A30 (B:Bl mg) (F:Fun K "_law_many" "_law_many" p9 f fd):FnOk P w K mg base CX0 1 f fd ["_law_trials","_law_columns","_law_here"] (spD K gW):=by
 have sc:=uB
 exact fnD F uB rfl rfl fun cdv A outer s H E hr=>
  (B6 (CY (F6 DR IR HD B.len (BO (DE.dp (HN (N':= ["_law_columns","_law_here","_law_trial"]) (R':=PR K) DB D8 [some 1,some 2,none] (E6 [some 1,some 2,none]) FI (FZ (AM 0)) (fun _=>(CT 2 (show List.Nodup (α:=Str) ["_law_columns","_law_here","_law_trial"] by decide +kernel))) (fun _=>(NC (UJ hr.units (DE.dp (V5 GW MT J8 B.tuple (BO (DE.dp (HN (N':= ["_law_trial","_law_k"]) (R':=PR K) gQ gB [some 2,none] (E6 [some 2,none]) FI (FZ (AM 0)) (fun _=>(CT 1 (show List.Nodup (α:=Str) ["_law_trial","_law_k"] by decide +kernel))) (fun _=>FX) (fun _=>(GY (AH 0) (AH 1))))) CQ))) (AH 1)))) (fun _=>(AM 2)))) CQ))))
def b_q1 : En -> Option Out :=
 (mSeq (mIf (mOr (mNot (mTest (mIsi "tuple" (mPk 0)))) (mTest (mBin dne (mCallP dLen (mConsP (mPk 0) mNilP)) (mPk 2)))) (mRet (mK (.bool false))) mNext)
 (mRet (mCallP dAll (mConsP (mLC (E6 [some 1,none]) (CU (mVar 0)) (gVar 1) mYes (mAndV (mCall TW (mCons (mVar 1) mNil)) (mAndV (mBin dLe (mK (.int 0)) (mPk 1)) (mBin dLt (mPk 1) (mPk 0))))) mNilP))))
def Y3:List PyData->Option Sl:=FW 3 b_q1 3
theorem A37 (B:Bl mg) (D_q8:Def P w K mg base 1 "_law_whole" ["_law_found"] (spD K TW)) (F:Fun K "_law_is_choice" "_law_is_choice" rT f fd):FnOk P w K mg base CX0 2 f fd ["_law_found","_law_p","_law_t"] (spD K Y3):=by
 have sc:=u9
 exact fnD F u9 rfl rfl fun cdv A outer s H E hr=>
  (AW (IL (aG (UZ (K8 (K3 (DE.dp (SB J8 B.tuple B.isinstance (AH 0))))) (WG (QL hr.units (DE.dp (F6 DR IR HD B.len (BO (AH 0) CQ))) (AH 2))))) (B6 (CY HC)) FD)
  (B6 (CY (F6 (P5 rfl) WB VQ B.all (BO (DE.dp (HN (N':= ["_law_p","_law_step"]) (R':=PR K) DB D8 [some 1,none] (E6 [some 1,none]) FI (FZ (AM 0)) (fun _=>(CT 1 (show List.Nodup (α:=Str) ["_law_p","_law_step"] by decide +kernel))) (fun _=>FX) (fun _=>(SU (BV D_q8 hr (AE (AM 1) BD)) (SU (uR (DE.dp B3) (AH 1)) (VO (kK (AH 1) (AH 0)))))))) CQ)))))
def b_q6 : En -> Option Out :=
 (mSeq (mIf (mOr (mNot (mTest (mIsi "tuple" (mPk 4)))) (mOr (mTest (mBin dne (mCallP dLen (mConsP (mPk 4) mNilP)) (mK (.int 4)))) (mOr (mTest (mBin dne (mBin dix (mPk 4) (mK (.int 0))) (mK (.str "uneven")))) (mNot (mTest (mIsi "list" (mBin dix (mPk 4) (mK (.int 1))))))))) (mRet (mK (.bool false))) mNext)
 (mSeq (mAsg 5 (mBin dix (mPk 4) (mK (.int 1))))
 (mSeq (mFrz 5 (mIf (mOr (mTest (mBin dne (mCallP dLen (mConsP (mPk 5) mNilP)) (mPk 2))) (mNot (mTest (mCallP dAll (mConsP (mLC (E6 [some 1,none]) (CU (mVar 5)) (gVar 1) mYes (mAndV (mCall TW (mCons (mVar 1) mNil)) (mAndV (mBin dLe (mK (.int 0)) (mPk 1)) (mBin dLt (mPk 1) (mPk 0))))) mNilP))))) (mRet (mK (.bool false))) mNext))
 (mSeq (mIf (mNot (mTest (mCallP dAll (mConsP (mLC (E6 [some 5,none]) (OW (mConsP (mK (.int 1)) (mConsP (mPk 2) mNilP))) (gVar 1) mYes (mBin dLt (mBin dix (mPk 0) (mBin dSub (mPk 1) (mK (.int 1)))) (mBin dix (mPk 0) (mPk 1)))) mNilP)))) (mRet (mK (.bool false))) mNext)
 (mSeq (mIf (mOr (mNot (mTest (mCall Y3 (mCons (mBin dix (mPk 4) (mK (.int 2))) (mCons (mVar 0) (mCons (mVar 2) mNil)))))) (mNot (mTest (mCall Y3 (mCons (mBin dix (mPk 4) (mK (.int 3))) (mCons (mVar 0) (mCons (mVar 2) mNil))))))) (mRet (mK (.bool false))) mNext)
 (mFrz 5 (mRet (mBin dne (mCall gW (mCons (mVar 3) (mCons (mVar 5) (mCons (mBin dix (mPk 4) (mK (.int 2))) mNil)))) (mCall gW (mCons (mVar 3) (mCons (mVar 5) (mCons (mBin dix (mPk 4) (mK (.int 3))) mNil))))))))))))
def i0:List PyData->Option Sl:=FW 6 b_q6 5
theorem A34 (B:Bl mg) (D_q8:Def P w K mg base 1 "_law_whole" ["_law_found"] (spD K TW)) (D_q1:Def P w K mg base 2 "_law_is_choice" ["_law_found","_law_p","_law_t"] (spD K Y3)) (D_q3:Def P w K mg base 1 "_law_many" ["_law_trials","_law_columns","_law_here"] (spD K gW)) (F:Fun K "_law_shown" "_law_shown" pZ f fd):FnOk P w K mg base CX0 3 f fd ["_law_p","_law_n","_law_t","_law_trials","_law_told"] (spD K i0):=by
 have sc:=uK
 exact fnD F uK rfl rfl fun cdv A outer s H E hr=>
  (AW (IL (aG (UZ (K8 (K3 (DE.dp (SB J8 B.tuple B.isinstance (AH 4))))) (UZ (QL hr.units (DE.dp (F6 DR IR HD B.len (BO (AH 4) CQ))) (DE.dp B3)) (UZ (QL hr.units (DE.dp (GY (AH 4) (DE.dp B3))) (DE.dp OC)) (WG (K8 (K3 (DE.dp (SB cG B.list B.isinstance (DE.dp (GY (AH 4) (DE.dp B3)))))))))))) (B6 (CY HC)) FD)
  (AW (CD 5 (GY (AH 4) (DE.dp B3)) sc.nd)
  (AW (FQ 5 (IL (aG (UZ (QL hr.units (DE.dp (F6 DR IR HD B.len (BO (AH 5) CQ))) (AH 2)) (WG (K8 (K3 (DE.dp (F6 (P5 rfl) WB VQ B.all (BO (DE.dp (HN (N':= ["_law_n","_law_k"]) (R':=PR K) DB D8 [some 1,none] (E6 [some 1,none]) FI (FZ (AM 5)) (fun _=>(CT 1 (show List.Nodup (α:=Str) ["_law_n","_law_k"] by decide +kernel))) (fun _=>FX) (fun _=>(SU (BV D_q8 hr (AE (AM 1) BD)) (SU (uR (DE.dp B3) (AH 1)) (VO (kK (AH 1) (AH 0)))))))) CQ)))))))) (B6 (CY HC)) FD))
  (AW (IL (K8 (K3 (DE.dp (F6 (P5 rfl) WB VQ B.all (BO (DE.dp (HN (N':= ["_law_columns","_law_k"]) (R':=PR K) DB D8 [some 5,none] (E6 [some 5,none]) FI (Q7 B.range (BO (DE.dp B3) (BO (AH 2) CQ))) (fun _=>(CT 1 (show List.Nodup (α:=Str) ["_law_columns","_law_k"] by decide +kernel))) (fun _=>FX) (fun _=>(kK (DE.dp (GY (AH 0) (DE.dp (aA (AH 1) (DE.dp B3))))) (DE.dp (GY (AH 0) (AH 1))))))) CQ))))) (B6 (CY HC)) FD)
  (AW (IL (aG (UZ (K8 (K3 (DE.dp (BV D_q1 hr (AE (GY (AH 4) (DE.dp B3)) (AE (AM 0) (AE (AM 2) BD))))))) (WG (K8 (K3 (DE.dp (BV D_q1 hr (AE (GY (AH 4) (DE.dp B3)) (AE (AM 0) (AE (AM 2) BD)))))))))) (B6 (CY HC)) FD)
  (B6 (FQ 5 (CY (A50 hr.units (DE.dp (BV D_q3 hr (AE (AM 3) (AE (AM 5) (AE (GY (AH 4) (DE.dp B3)) BD))))) (DE.dp (BV D_q3 hr (AE (AM 3) (AE (AM 5) (AE (GY (AH 4) (DE.dp B3)) BD))))))))))))))
def b_q5 : En -> Option Out :=
 (mSeq (mAsg 4 (mCall aM (mCons (mVar 3) (mCons (mK (.int 5)) (mCons (mVar 0) (mCons (mVar 1) mNil))))))
 (mSeq (mFrz 4 (mAsg 5 (mCall XF (mCons (mVar 0) (mCons (mVar 1) (mCons (mLC (E6 [some 0,some 4,none]) (CU (mVar 2)) (gVar 2) mYes (mTup (mCons (mVar 2) (mCons (mCall fU (mCons (mVar 0) (mCons (mVar 2) (mCons (mVar 1) mNil)))) mNil)))) mNil))))))
 (mSeq (mIf (mTest (mBin deq (mCallP dLen (mConsP (mPk 5) mNilP)) (mK (.int 0)))) (mRet (mK (.bool false))) mNext)
 (mSeq (mAsg 6 (mCall X6 (mCons (mVar 0) (mCons (mVar 1) (mCons (mVar 2) mNil)))))
 (mSeq (mAsg 7 (mBin dAdd (mPk 1) (mK (.int 1))))
 (mSeq (mIf (mTest (mBin deq (mBin dix (mPk 6) (mK (.int 0))) (mK (.str "least")))) (mAsg 7 (mCallP dLen (mConsP (mLC (E6 [none]) (CU (mBin dix (mPk 6) (mK (.int 1)))) (gVar 0) (mTest (mBin dne (mPk 0) (mK (.int 0)))) (mVar 0)) mNilP))) mNext)
 (mSeq (KW (OW (mConsP (mK (.int 1)) (mConsP (mBin dAdd (mPk 1) (mK (.int 1))) mNilP))) (gVar 8) (mSeq (mFrz 5 (mAsg 9 (mCall YF (mCons (mVar 5) (mCons (mLC (E6 [some 0,none]) (LG (mConsP (mPk 1) mNilP)) (gVar 1) mYes (mVar 0)) (mCons (mVar 8) mNil))))))
 (mSeq (mIf (mAnd (mTest (mBin dLt (mPk 8) (mPk 7))) (mTest (mBin dne (mPk 9) (mTup (mCons (mK (.str "even")) mNil))))) (mRet (mK (.bool false))) mNext)
 (mFrz 5 (mFrz 9 (mIf (mAnd (mTest (mBin dGe (mPk 8) (mPk 7))) (mNot (mTest (mCall i0 (mCons (mVar 0) (mCons (mVar 1) (mCons (mVar 8) (mCons (mVar 5) (mCons (mVar 9) mNil))))))))) (mRet (mK (.bool false))) mNext))))))
 (mRet (mK (.bool true))))))))))
def lP:List PyData->Option Sl:=FW 10 b_q5 4
theorem A61 (B:Bl mg) (D_q9:Def P w K mg base 2 "_law_word" ["_law_cell","_law_k","_law_p","_law_n"] (spD K aM)) (D_cut:Def P w K mg base 3 "cut" ["p","n","rules"] (spD K XF)) (D_q0:Def P w K mg base 1 "_law_come" ["_law_p","_law_word_here","_law_trial"] (spD K fU)) (D_q19:Def P w K mg base 4 "least_word" ["p","n","words"] (spD K X6)) (D_q15:Def P w K mg base 5 "even_to" ["plan","levels","t"] (spD K YF)) (D_q6:Def P w K mg base 3 "_law_shown" ["_law_p","_law_n","_law_t","_law_trials","_law_told"] (spD K i0)) (F:Fun K "_law_right" "_law_right" oN f fd):FnOk P w K mg base CX0 6 f fd ["_law_p","_law_n","_law_words_here","_law_cell"] (spD K lP):=by
 have sc:=tW
 exact fnD F tW rfl rfl fun cdv A outer s H E hr=>
  (AW (CD 4 (BV D_q9 hr (AE (AM 3) (AE B3 (AE (AM 0) (AE (AM 1) BD))))) sc.nd)
  (AW (FQ 4 (CD 5 (BV D_cut hr (AE (AM 0) (AE (AM 1) (AE (HN (N':= ["_law_p","_law_trial","_law_word_here"]) (R':=PR K) DB D8 [some 0,some 4,none] (E6 [some 0,some 4,none]) FI (FZ (AM 2)) (fun _=>(CT 2 (show List.Nodup (α:=Str) ["_law_p","_law_trial","_law_word_here"] by decide +kernel))) (fun _=>FX) (fun _=>(M5 (AE (AM 2) (AE (BV D_q0 hr (AE (AM 0) (AE (AM 2) (AE (AM 1) BD)))) BD))))) BD)))) sc.nd))
  (AW (IL (UJ hr.units (DE.dp (F6 DR IR HD B.len (BO (AH 5) CQ))) (DE.dp B3)) (B6 (CY HC)) FD)
  (AW (CD 6 (BV D_q19 hr (AE (AM 0) (AE (AM 1) (AE (AM 2) BD)))) sc.nd)
  (AW (CD 7 (F5 (AH 1) (DE.dp B3)) sc.nd)
  (AW (IL (UJ hr.units (DE.dp (GY (AH 6) (DE.dp B3))) (DE.dp OC)) (B6 (CD 7 (F6 DR IR HD B.len (BO (DE.dp (HN (N':= ["_law_one"]) (R':=PR K) DB D8 [none] (E6 [none]) FI (FZ (GY (AH 6) (DE.dp B3))) (fun _=>(CT 0 (show List.Nodup (α:=Str) ["_law_one"] by decide +kernel))) (fun _=>(NC (QL hr.units (AH 0) (DE.dp B3)))) (fun _=>(AM 0)))) CQ)) sc.nd)) FD)
  (AW (IP DF (Q7 B.range (BO (DE.dp B3) (BO (DE.dp (F5 (AH 1) (DE.dp B3))) CQ))) (F8 8 sc.nd) (AW (FQ 5 (CD 9 (BV D_q15 hr (AE (AM 5) (AE (HN (N':= ["_law_p","_law_k"]) (R':=PR K) DB D8 [some 0,none] (E6 [some 0,none]) FI (IT B.range (BO (AH 1) CQ)) (fun _=>(CT 1 (show List.Nodup (α:=Str) ["_law_p","_law_k"] by decide +kernel))) (fun _=>FX) (fun _=>(AM 0))) (AE (AM 8) BD)))) sc.nd))
  (AW (IL (aG (W9 (lS (AH 8) (AH 7)) (WD (QL hr.units (AH 9) (DE.dp (M5 (AE OC BD))))))) (B6 (CY HC)) FD)
  (B6 (FQ 5 (FQ 9 (IL (aG (W9 (A31 (AH 8) (AH 7)) (WD (K8 (K3 (DE.dp (BV D_q6 hr (AE (AM 0) (AE (AM 1) (AE (AM 8) (AE (AM 5) (AE (AM 9) BD)))))))))))) (B6 (CY HC)) FD)))))))
  (B6 (CY HC)))))))))
def b_law : En -> Option Out :=
 (mSeq (mAsg 1 (mBin dAdd (mSl (mPk 0) mNoPart (mPart (mK (.int 30)))) (mLst (mCons (mK (.int 0)) mNil))))
 (mSeq (mAsg 2 (mK (.int 0)))
 (mSeq (N4 (mTest (mBin dLt (mPk 2) (mCallP dLen (mConsP (mPk 1) mNilP)))) (mSeq (mAsg 3 (mBin dix (mPk 1) (mPk 2)))
 (mSeq (mFrz 1 (mAsgT (gTupD [(gVar 4),(gVar 5),(gVar 6),(gVar 2)]) (mCall lH (mCons (mVar 1) (mCons (mVar 2) (mCons (mK (.int 3)) mNil))))))
 (mIf (mNot (mTest (mCall lP (mCons (mVar 4) (mCons (mVar 5) (mCons (mVar 6) (mCons (mBin EG (mPk 3) (mK (.int 3))) mNil))))))) (mRet (mK (.bool false))) mNext))))
 (mRet (mK (.bool true))))))
def u6:List PyData->Option Sl:=FW 7 b_law 1
theorem w6 (B:Bl mg) (D_q2:Def P w K mg base 4 "_law_made" ["_law_cells","_law_at","_law_most"] (spD K lH)) (D_q5:Def P w K mg base 6 "_law_right" ["_law_p","_law_n","_law_words_here","_law_cell"] (spD K lP)) (F:Fun K "law" "law" SM f fd):FnOk P w K mg base CX0 7 f fd ["_law_script"] (spD K u6):=by
 have sc:=lD
 exact fnD F lD rfl rfl fun cdv A outer s H E hr=>
  (AW (CD 1 (F5 (DE.dp (kE (AH 0) cW (R5 (DE.dp B3)))) (DE.dp (IQ (AE B3 BD)))) sc.nd)
  (AW (CD 2 B3 sc.nd)
  (AW (jJ DF (lS (AH 2) (DE.dp (F6 DR IR HD B.len (BO (AH 1) CQ)))) (AW (CD 3 (GY (AH 1) (AH 2)) sc.nd)
  (AW (FQ 1 (dA (BV D_q2 hr (AE (AM 1) (AE (AM 2) (AE B3 BD)))) (kL (L6 (F8 4 sc.nd) (L6 (F8 5 sc.nd) (L6 (F8 6 sc.nd) (L6 (F8 2 sc.nd) cS)))))))
  (B6 (IL (K8 (K3 (DE.dp (BV D_q5 hr (AE (AM 4) (AE (AM 5) (AE (AM 6) (AE (I9 (AH 3) (DE.dp B3)) BD)))))))) (B6 (CY HC)) FD)))))
  (B6 (CY HC)))))
end
local macro_rules | `(tactic| walk_at "ev") => `(tactic| simp only [mSeq, mIf, mTest, mBin, mUn, mK, mPk, mVar, mAsg, mRet, mRetN, mCall, mCons, mNil, mCallP, mConsP, mNilP, mTup, mLst, mOr, mAnd, mNot, mNotV, mAndV, mOrV, mIfE, mNext, mBrk, mCt, mDrop, mApp, mSet, mFrz, frz1, mPar, mAsgT, gVar, gTupD, gsAll, mItems, mItemsT, mSl, mPart, mNoPart, mDat, Sl.dat, mYes, mIsi, tyD, isiD, iop, icmp, iun, dAddI, dSub, dAdd, dLt, dLe, dGt, dGe, deq, dne, disN, disNN, isNone, dix, dLen, dAbs, dList, dTuple, dInt, dSl, F2, GU, Option.join_some, NI, List.getElem?_cons_zero, List.getElem?_cons_succ, List.set_cons_zero, List.set_cons_succ, B7, List.length_nil, eqD_int, OK, LK, EA, B0, PU, G6, FC, CW, reduceIte, reduceCtorEq, Bool.not_true, Bool.not_false, aW, WX])
theorem B1{op:Sl->Sl->Option Sl}{fa fb:En->Option Sl}{ρ:En}{a b:Sl}(ha:fa ρ=some a)(hb:fb ρ=some b):mBin op fa fb ρ=op a b:=by
 unfold mBin;rw [ha];show Option.bind (fb ρ) _=_;rw [hb];rfl
theorem EH{f:En->Option Sl}{ρ:En}{b:Bool}(h:f ρ=some (.val (.bool b))):mTest f ρ=some b:=by
 unfold mTest;rw [h];rfl
theorem cB(i j:Int):deq (.val (.int i)) (.val (.int j))=some (.val (.bool (decide (i=j)))):=by
 show (eqD (.int i) (.int j)).map _=_;rw [eqD_int];rfl
theorem ZZ{i:Nat}{f:En->Option Sl}{ρ:En}{r:Sl}{ds:List PyData}(h:f ρ=some r)(ho:(ρ[i]?).join=some (.own ds))(hl:ds.length<sizeLine):mApp i f ρ=some (.nx (ρ.set i (some (.own (ds ++ [r.dat]))))):=by
 unfold mApp;rw [ho];show Option.bind (f ρ) _=_;rw [h];show (if ds.length<sizeLine then _ else _)=_;rw [if_pos hl]
theorem DJ{F:List Sl->Option Sl}{f:En->Option (List Sl)}{ρ:En}{ss:List Sl}{r:Sl}(h:f ρ=some ss)(k:F ss=some r):mCallP F f ρ=some r:=by
 unfold mCallP;rw [h];exact k
theorem BR{f:En->Option Sl}{g:En->Option (List PyData)}{ρ:En}{a:Sl}{as:List PyData}(h:f ρ=some a)(k:g ρ=some as):mCons f g ρ=some (a.dat::as):=by
 unfold mCons;rw [h];show Option.bind (g ρ) _=_;rw [k];rfl
theorem DZ{f:En->Option Sl}{g:En->Option (List Sl)}{ρ:En}{a:Sl}{as:List Sl}(h:f ρ=some a)(k:g ρ=some as):mConsP f g ρ=some (a::as):=by
 unfold mConsP;rw [h];show Option.bind (g ρ) _=_;rw [k];rfl
theorem EO:1000<sizeLine:=by decide
theorem iL{f:En->Option Sl}{ρ:En}{a:Sl}(h:f ρ=some a):mLst (mCons f mNil) ρ=some (.own [a.dat]):=by
 unfold mLst;rw [BR h (show mNil ρ=some [] from rfl)];exact if_pos (e:=none) (show 1<=sizeLine by decide)
theorem VR{a b:Sl}{xs ys:List PyData}(ha:a.dat = .list xs)(hb:b.dat = .list ys)(h:xs.length+ys.length<=sizeLine):dAdd a b=some (.own (xs++ys)):=by
 unfold dAdd;rw [ha,hb];exact if_pos (h)
theorem qR{xs:List PyData}{k:Nat}(h:xs.length*k<=sizeLine)(hk:k<=1000):dRep (.own xs) (.val (.int k))=some (.own (List.replicate k xs).flatten):=by
 unfold dRep;simp only;rw [if_pos ⟨by omega,by omega,by simpa using h⟩];simp
theorem LH{fg:PyData->En->Option En}{fe:En->Option Sl}{ρ0 ρ1:En}{d:PyData}{r:Sl}(h1:fg d ρ0=some ρ1)(h2:fe ρ1=some r):elM fg mYes fe ρ0 d=some (some r.dat):=by
 unfold elM;rw [h1];simp only [Option.bind_some,mYes,if_true,h2,Option.map_some]
theorem A86{j:Int}(h0:0<j)(h:j<=1000):Bt 9000 j:=by
 unfold Bt;have:2 ^ 10<=2 ^ 9000:=Nat.pow_le_pow_right (by decide) (by decide);have e:(2:Nat) ^ 10=1024:=by decide
 rw [e] at this
 refine BA ?_ this;omega
theorem NU{i j:Int}(h0:0<j)(h:j<=1000):EG (.val (.int i)) (.val (.int j))=some (.val (.int (i.fdiv j))):=A58 ⟨by omega,A86 h0 h⟩
theorem HF{α:Type}{f:PyData->Option (Option PyData)}{en g:α->PyData}{b:α->Bool}:∀ {xs:List α},(∀x ∈ xs,f (en x)=some (if b x then some (g x) else none))->MF f (xs.map en)=some ((xs.filter b).map g)
 | [],_=>rfl
 | x::xs,h=>by
  rw [B0,MF,h x AQ,HF fun y hy=>h y (AK _ hy)]
  cases e:b x <;> simp [e]
theorem V9{fg:PyData->En->Option En}{ft:En->Option Bool}{fe:En->Option Sl}{ρ0 ρ1:En}{d:PyData}{r:Sl}{b:Bool}(h1:fg d ρ0=some ρ1)(h2:ft ρ1=some b)(h3:fe ρ1=some r):elM fg ft fe ρ0 d=some (if b then some r.dat else none):=by
 unfold elM;rw [h1,Option.bind_some,h2,Option.bind_some]
 cases b
 . rfl
 . rw [AD rfl,h3];rfl
theorem bE{f g:En->Option Sl}{ρ:En}{r:Sl}(h:f ρ=some (.val (.bool true)))(k:g ρ=some r):mAndV f g ρ=some r:=by
 unfold mAndV;rw [EH h];exact k
theorem OE{i:Nat}{g:En->Option Out}{ρ:En}:mFrz i g ρ=g (frz1 i ρ):=rfl
theorem zD{f g:En->Option Sl}{ρ:En}{a b:Sl}(h1:f ρ=some a)(h2:g ρ=some b):mTup (mCons f (mCons g mNil)) ρ=some (.val (.tuple [a.dat,b.dat])):=by
 unfold mTup;rw [BR h1 (BR h2 (show mNil ρ=some [] from rfl))];exact if_pos (e:=none) (show 2<=sizeLine by decide)
theorem pM{f:En->Option Sl}{ρ:En}{a:Sl}(h1:f ρ=some a):mTup (mCons f mNil) ρ=some (.val (.tuple [a.dat])):=by
 unfold mTup;rw [BR h1 (show mNil ρ=some [] from rfl)];exact if_pos (e:=none) (show 1<=sizeLine by decide)
theorem dX{fg:PyData->En->Option En}{f:En->Option Sl}{ρ ρ':En}{r:Sl}(h:f ρ=some r)(k:fg r.dat ρ=some ρ'):mAsgT fg f ρ=some (.nx ρ'):=by
 unfold mAsgT;rw [h,Option.bind_some,k];rfl
theorem cmL{i j:Int}(h1 : -(2 ^ 64)<i)(h2:i<2 ^ 64):VB i j:= .inl (.inl ⟨h1,h2⟩)
theorem cmR{i j:Int}(h1 : -(2 ^ 64)<j)(h2:j<2 ^ 64):VB i j:= .inl (.inr ⟨h1,h2⟩)
theorem i8(c:Int){k:Int}(h0:0<=k)(h1:k<1000000):∃v,hJ [.int c, .int k]=some (.val (.int v))/\0<=v:=by
 let o1:=((c.fmod 2147483647+40503*k*k+17*k)*48271).fmod 2147483647
 refine ⟨(o1*(o1.fmod 65537+3*k+1)).fmod 2147483629,EW (ρ:= [some (.val (.int c)),some (.val (.int k)),none]) rfl rfl ?_,Int.fmod_nonneg_of_pos _ (by decide)⟩;unfold b_q4;have a1:=Int.fmod_nonneg_of_pos ((c.fmod 2147483647+40503*k*k+17*k)*48271) (show (0:Int)<2147483647 by decide);have a2:=Int.fmod_lt_of_pos ((c.fmod 2147483647+40503*k*k+17*k)*48271) (show (0:Int)<2147483647 by decide);refine CI (r:= .val (.int o1)) ?_ (DD (r:= .val (.int ((o1*(o1.fmod 65537+3*k+1)).fmod 2147483629))) ?_ rfl)
 . refine (B1 (op:=FG) ((B1 (op:=dRep) ((B1 (op:=dAdd) ((B1 (op:=dAdd) ((B1 (op:=FG) rfl rfl).trans (QV (by decide))) ((B1 (op:=dRep) ((B1 (op:=dRep) rfl rfl).trans (O0 (cmL (by decide) (by decide)))) rfl).trans (O0 (cmR (by omega) (by omega))))).trans rfl) ((B1 (op:=dRep) rfl rfl).trans (O0 (cmL (by decide) (by decide))))).trans rfl) rfl).trans (O0 (cmR (by decide) (by decide)))) rfl).trans (QV (by decide))
 . refine (B1 (op:=FG) ((B1 (op:=dRep) (a:= .val (.int o1)) rfl ((B1 (op:=dAdd) ((B1 (op:=dAdd) ((B1 (op:=FG) rfl rfl).trans (QV (by decide))) ((B1 (op:=dRep) rfl rfl).trans (O0 (cmL (by decide) (by decide))))).trans rfl) rfl).trans rfl)).trans (O0 (cmL (by show _<o1;omega) (by show o1<_;omega)))) rfl).trans (QV (by decide))
theorem nK{args:En->Option (List PyData)}{ρ:En}{c j:Int}(ha:args ρ=some [.int c, .int j])(h0:0<=j)(h1:j<1000000):∃v:Nat,mCall hJ args ρ=some (.val (.int v)):=by
 obtain ⟨v,hv,v0⟩:=i8 c h0 h1;exact ⟨v.toNat,by rw [IM v0];exact BY ha hv⟩
theorem IW{fa fb:En->Option Sl}{ρ:En}{i m:Int}(ha:fa ρ=some (.val (.int i)))(hb:fb ρ=some (.val (.int m)))(hp:0<m):∃v:Nat,mBin FG fa fb ρ=some (.val (.int v))/\(v:Int)<m:=by
 refine ⟨(i.fmod m).toNat,?_,?_⟩
 . rw [IM (JU _ hp)];exact (B1 (op:=FG) ha hb).trans (QV (by omega))
 . rw [IM (JU _ hp)];exact A82 _ hp
theorem eQ(a:Int):TW [.int a]=some (.val (.bool true)):=by
 refine EW (ρ:= [some (.val (.int a))]) rfl rfl ?_;unfold b_q8;exact DD rfl rfl
abbrev enN:Nat->PyData:=fun n=> .int (n:Int)
def AL(t:List Nat):PyData:= .tuple (nl t)
theorem PY{ρ:En}:mLst mNil ρ=some (.own []):=by
 exact AD (e:=none) (show 0<=sizeLine by decide)
theorem S7{L:List Nat}(hL:∀c ∈ L,c<=1000):MC [.list (nl L)]=some (.val (.int (Tr.prodN L:Nat))):=by
 refine EW (ρ:= [some (.val (.list (nl L))),none,none]) rfl rfl ?_;unfold b_q26;refine CI (r:= .val (.int 1)) rfl ?_;refine IS (P:=fun ρ=>∃z,ρ = [some (.val (.list (nl L))),some (.val (.int (Tr.prodN L:Nat))),z]) ?_ ?_
 . refine KO (en:=enN) (xs:=L) (fun k ρ=>∃z,ρ = [some (.val (.list (nl L))),some (.val (.int (Tr.prodN (L.take k):Nat))),z]) rfl ⟨_,rfl⟩ ?_ ?_
   . rintro k s ρ hs ⟨z,rfl⟩;have hs1:=hL s (BB hs);refine ⟨_,rfl,Q1 (r:= .val (.int ((Tr.prodN (L.take k):Int)*(s:Int)))) ((B1 (op:=dRep) rfl rfl).trans (O0 (cmR (by omega) (by omega)))) ⟨some (.val (.int s)),?_⟩⟩;rw [NP,hs];show _=([some (.val (.list (nl L))),some (.val (.int (Tr.prodN (L.take k ++ [s]):Nat))),some (.val (.int s))]:En);rw [Tr.prodN_app,show Tr.prodN [s]=s by simp [Tr.prodN],LL];rfl
   . rintro ρ ⟨z,rfl⟩;rw [BX (AF _)];exact ⟨z,rfl⟩
 . rintro ρ ⟨z,rfl⟩;exact DD rfl rfl
theorem iR{c:Nat}(h:c<=1000):Bt 9000 (c:Int):=by
 unfold Bt;have:2 ^ 10<=2 ^ 9000:=Nat.pow_le_pow_right (by decide) (by decide);have e:(2:Nat) ^ 10=1024:=by decide
 rw [e] at this
 refine BA ?_ this;omega
theorem UG{L:List Nat}(hL:∀c ∈ L,0<c/\c<=1000)(hl:L.length<=900)(x:Nat):SJ [.list (nl L), .int x]=some (.val (AL (Tr.tri L x))):=by
 have sl:=EO;refine EW (ρ:= [some (.val (.list (nl L))),some (.val (.int x)),none,none]) rfl rfl ?_;unfold b_q29;refine CI PY ?_;refine IS (P:=fun ρ=>∃z1 z3,ρ = [some (.val (.list (nl L))),z1,some (.own (nl (Tr.dg L.reverse x))),z3]) ?_ ?_
 . refine KO (en:=enN) (xs:=L.reverse) (fun k ρ=>∃(A:List Nat) (y:Nat) (z:Option Sl),ρ = [some (.val (.list (nl L))),some (.val (.int y)),some (.own (nl A)),z]/\A.length=k/\A++Tr.dg (L.reverse.drop k) y=Tr.dg L.reverse x) ?_ ⟨[],x,none,rfl,rfl,rfl⟩ ?_ ?_
   . show some (nl L).reverse=_;rw [nl,List.map_reverse]
   . rintro k c ρ hc ⟨A,y,z,rfl,hA,he⟩;have hc1:=hL c (IG.mp (BB hc));obtain ⟨hk,ek⟩:=AS.mp hc;have hk':k<L.length:=by simpa using hk
     rw [E3 hk,ek] at he
     refine ⟨_,rfl,?_⟩;have nz:(c:Int)≠0:=by omega
     refine GI (ZZ (r:= .val (.int ((y % c:Nat):Int))) (ds:=nl A) ((B1 (op:=FG) (a:= .val (.int y)) (b:= .val (.int c)) rfl rfl).trans ((QV nz).trans ?_)) rfl (by rw [GC];omega)) ?_
     . rw [HW _ (by omega)];rfl
     refine Q1 (r:= .val (.int ((y / c:Nat):Int))) ((B1 (op:=EG) (a:= .val (.int y)) (b:= .val (.int c)) rfl rfl).trans ((A58 ⟨nz,iR hc1.2⟩).trans ?_)) ⟨A ++ [y % c],y / c,some (.val (.int c)),?_,by simp [hA],?_⟩
     . rw [Int.fdiv_eq_ediv_of_nonneg _ (by omega)];rfl
     . rw [PZ];rfl
     . rw [<-he,BU];rfl
   . rintro ρ ⟨A,y,z,rfl,hA,he⟩;rw [EK (AF _)] at he
     simp only [Tr.dg,EA] at he
     subst he;exact ⟨_,_,rfl⟩
 . rintro ρ ⟨z1,z3,rfl⟩;refine DD (r:= .val (AL (Tr.tri L x))) (DJ (ss:= [.own (nl (Tr.dg L.reverse x))]) rfl ?_) rfl;show some (Sl.val (.tuple (nl (Tr.dg L.reverse x)).reverse))=_;rw [nl, <-List.map_reverse];rfl
theorem oD{L:List Nat}(hL:∀c ∈ L,0<c/\c<=1000)(hl:L.length<=900)(hp:Tr.prodN L<=900):UA [.list (nl L)]=some (.own ((Tr.allT L).map AL)):=by
 have sl:=EO;refine EW (ρ:= [some (.val (.list (nl L)))]) rfl rfl ?_;unfold b_q11;refine DD (HL (ds:=GZ 0 (Tr.prodN L)) ?_ ?_ ?_) rfl
 . exact LP (j:=Tr.prodN L) (DZ (as:= []) (BY (ds:= [.list (nl L)]) rfl (S7 fun c hc=>(hL c hc).2)) rfl) (by omega)
 . rw [show (GZ 0 (Tr.prodN L)).length=Tr.prodN L by simp [GZ]];omega
 . refine (XB (g:=fun i=>AL (Tr.tri L i)) fun i hi=>LH (r:= .val (AL (Tr.tri L i))) rfl (BY (ds:= [.list (nl L), .int (i:Nat)]) ?_ (UG hL hl i))).trans ?_
   . show some [PyData.list (nl L), .int (0+(i:Nat))]=_;rw [Int.zero_add]
   . rw [Tr.allT,FO];rfl
theorem j8(c:Int):∃p n:Nat,j4 [.int c]=some (.val (.tuple [.int p, .int n]))/\(p=2\/p=3\/p=5\/p=7)/\1<=n/\n<=6/\p ^ n<=125:=by
 have sl:=EO
 let C:Option Sl:=some (.val (.int c))
 obtain ⟨v,ev,bv⟩:=IW (fa:=mPk 0) (fb:=mK (.int 7)) (ρ:= [C,none,none]) rfl rfl (by decide);have l7:(mLst (mCons (mK (.int 2)) (mCons (mK (.int 3)) (mCons (mK (.int 5)) (mCons (mK (.int 7)) (mCons (mK (.int 2)) (mCons (mK (.int 3)) (mCons (mK (.int 2)) mNil)))))))) [C,none,none]=some (.own [.int 2, .int 3, .int 5, .int 7, .int 2, .int 3, .int 2]):=AD (e:=none) (show 7<=sizeLine by omega)
 obtain ⟨p,ep,hp⟩:∃p:Nat,[PyData.int 2, .int 3, .int 5, .int 7, .int 2, .int 3, .int 2][v]? = some (.int p)/\(p=2\/p=3\/p=5\/p=7):=by
  match v,(show v<7 by omega) with
  | 0,_=>exact ⟨2,rfl, .inl rfl⟩
  | 1,_=>exact ⟨3,rfl, .inr (.inl rfl)⟩
  | 2,_=>exact ⟨5,rfl, .inr (.inr (.inl rfl))⟩
  | 3,_=>exact ⟨7,rfl, .inr (.inr (.inr rfl))⟩
  | 4,_=>exact ⟨2,rfl, .inl rfl⟩
  | 5,_=>exact ⟨3,rfl, .inr (.inl rfl)⟩
  | 6,_=>exact ⟨2,rfl, .inl rfl⟩
 obtain ⟨m,em,m0,hm⟩:∃m:Nat,[PyData.int 0, .int 0, .int 6, .int 4, .int 0, .int 3, .int 0, .int 2][p]? = some (.int m)/\0<m/\∀n,n<=m->n<=6/\p ^ n<=125:=by
  rcases hp with rfl | rfl | rfl | rfl
  . exact ⟨6,rfl,by decide,fun n hn=>⟨hn,BQ (HX (by decide) hn) (by decide)⟩⟩
  . exact ⟨4,rfl,by decide,fun n hn=>⟨by omega,BQ (HX (by decide) hn) (by decide)⟩⟩
  . exact ⟨3,rfl,by decide,fun n hn=>⟨by omega,BQ (HX (by decide) hn) (by decide)⟩⟩
  . exact ⟨2,rfl,by decide,fun n hn=>⟨by omega,BQ (HX (by decide) hn) (by decide)⟩⟩
 let P1:Option Sl:=some (.val (.int p))
 let M2:Option Sl:=some (.val (.int m))
 have l8:(mLst (mCons (mK (.int 0)) (mCons (mK (.int 0)) (mCons (mK (.int 6)) (mCons (mK (.int 4)) (mCons (mK (.int 0)) (mCons (mK (.int 3)) (mCons (mK (.int 0)) (mCons (mK (.int 2)) mNil))))))))) [C,P1,none]=some (.own [.int 0, .int 0, .int 6, .int 4, .int 0, .int 3, .int 0, .int 2]):=if_pos (e:=none) (show 8<=sizeLine by omega);obtain ⟨w,ew,bw⟩:=IW (fa:=mBin EG (mPk 0) (mK (.int 7))) (fb:=mPk 2) (ρ:= [C,P1,M2]) ((B1 (op:=EG) rfl rfl).trans (NU (by decide) (by decide))) (i:=c.fdiv 7) (m:=m) rfl (by omega);obtain ⟨h6,h125⟩:=hm (w+1) (by omega);refine ⟨p,w+1,EW (ρ:= [C,none,none]) rfl rfl ?_,hp,by omega,h6,h125⟩;unfold b_q7;refine CI ((B1 (op:=dix) l7 ev).trans (IV (.inl rfl) ep)) (CI ((B1 (op:=dix) l8 (b:= .val (.int p)) rfl).trans (IV (.inl rfl) em)) (HH (DD (r:= .val (.tuple [.int p, .int ((w+1:Nat):Int)])) ?_ rfl)))
 have e1:mBin dAdd (mK (.int 1)) (mBin FG (mBin EG (mPk 0) (mK (.int 7))) (mPk 2)) [C,P1,M2]=some (.val (.int ((w+1:Nat):Int))):=by
  refine (B1 (op:=dAdd) (fa:=mK (.int 1)) rfl ew).trans ?_;show some (Sl.val (.int (1+(w:Int))))=_;rw [show 1+(w:Int)=((w+1:Nat):Int) by omega]
 exact zD (a:= .val (.int p)) (b:= .val (.int ((w+1:Nat):Int))) (ρ:= [C,P1,M2]) rfl e1
def LJ(p n:Nat)(w:List Nat):Prop:=w.length=n/\∀r ∈ w,r<p
theorem XE(c:Int){k p n:Nat}(hk:k<=99)(p2:2<=p)(p7:p<=7)(n6:n<=6):∃w:List Nat,aM [.int c, .int k, .int p, .int n]=some (.val (AL w))/\LJ p n w:=by
 have sl:=EO
 let C:Option Sl:=some (.val (.int c))
 let K1:Option Sl:=some (.val (.int k))
 let P2:Option Sl:=some (.val (.int p))
 let N3:Option Sl:=some (.val (.int n))
 have key:Wp b_q9 [C,K1,P2,N3,none,none,none,none,none] (fun o=>∃(w:List Nat) (ρ':En),o = .rt (.val (AL w)) ρ'/\LJ p n w):=by
  unfold b_q9;refine CI (r:= .val (.int (c.fdiv 2))) ((B1 (op:=EG) rfl rfl).trans (NU (by decide) (by decide))) ?_;refine IS (P:=fun ρ=>∃(l:Int) (z5:Option Sl),ρ = [C,K1,P2,N3,some (.val (.int l)),z5,none,none,none]) ?_ ?_
  . refine PJ (n:=k % 10*n) (fun _ ρ=>∃(l:Int) (z5:Option Sl),ρ = [C,K1,P2,N3,some (.val (.int l)),z5,none,none,none]) ?_ ⟨_,_,rfl⟩ ?_ (fun ρ h=>h)
    . refine LP (j:=k % 10*n) (DZ (a:= .val (.int ((k % 10*n:Nat):Int))) (as:= []) ((B1 (op:=dRep) ((B1 (op:=FG) (a:= .val (.int k)) (b:= .val (.int 10)) rfl rfl).trans (QV (by decide))) (b:= .val (.int n)) rfl).trans ((O0 (cmR (by omega) (by omega))).trans ?_)) rfl) ?_
      . rw [HW _ (by decide),LL];rfl
      . have:k % 10*n<=9*6:=iJ (by omega) n6;omega
    . rintro j ρ hj ⟨l,z5,rfl⟩;exact ⟨_,rfl,Q1 (r:= .val (.int (l.fdiv p))) ((B1 (op:=EG) (a:= .val (.int l)) (b:= .val (.int p)) rfl rfl).trans (NU (by omega) (by omega))) ⟨_,_,rfl⟩⟩
  rintro ρ ⟨l,z5,rfl⟩;refine CI PY ?_;refine IS (P:=fun ρ=>∃(w:List Nat) (l:Int) (z5 z7 z8:Option Sl),ρ = [C,K1,P2,N3,some (.val (.int l)),z5,some (.own (nl w)),z7,z8]/\w.length=n/\∀r ∈ w,r<p) ?_ ?_
  . refine PJ (n:=n) (fun j ρ=>∃(w:List Nat) (l:Int) (z5 z7 z8:Option Sl),ρ = [C,K1,P2,N3,some (.val (.int l)),z5,some (.own (nl w)),z7,z8]/\w.length=j/\∀r ∈ w,r<p) (LP (j:=n) rfl (by omega)) ⟨[],_,_,_,_,rfl,rfl,by simp⟩ ?_ (fun ρ h=>h);rintro j ρ hj ⟨w,l,z5,z7,z8,rfl,hw,hr⟩;refine ⟨_,rfl,?_⟩
    let J5:Option Sl:=some (.val (.int (j:Nat)))
    let WO:Option Sl:=some (.own (nl w))
    show Wp _ [C,K1,P2,N3,some (.val (.int l)),J5,WO,z7,z8] _;obtain ⟨x,ex⟩:=nK (args:=(mCons (mVar 0) (mCons (mBin dAdd (mBin dRep (mK (.int 10)) (mPk 1)) (mPk 5)) mNil))) (ρ:= [C,K1,P2,N3,some (.val (.int l)),J5,WO,z7,z8]) (c:=c) (j:=10*(k:Int)+(j:Nat)) (BR (a:= .val (.int c)) rfl (BR (a:= .val (.int (10*(k:Int)+(j:Nat)))) (as:= []) ((B1 (op:=dAdd) ((B1 (op:=dRep) (a:= .val (.int 10)) (b:= .val (.int k)) rfl rfl).trans (O0 (cmL (by decide) (by decide)))) (b:= .val (.int (j:Nat))) rfl).trans rfl) rfl)) (by omega) (by omega);refine CI ex ?_
    let X7:Option Sl:=some (.val (.int x))
    show Wp _ [C,K1,P2,N3,some (.val (.int l)),J5,WO,X7,z8] _;obtain ⟨y,ey,by1⟩:=IW (fa:=mBin EG (mPk 7) (mK (.int 2))) (fb:=mPk 2) (ρ:= [C,K1,P2,N3,some (.val (.int l)),J5,WO,X7,z8]) (i:=(x:Int).fdiv 2) (m:=p) ((B1 (op:=EG) (a:= .val (.int x)) (b:= .val (.int 2)) rfl rfl).trans (NU (by decide) (by decide))) rfl (by omega)
    obtain ⟨r8,e8,b8⟩:∃r8:Nat,(mBin dRep (mBin FG (mBin EG (mPk 7) (mK (.int 2))) (mPk 2)) (mCallP dInt (mConsP (mBin dGt (mBin dAdd (mBin FG (mPk 7) (mK (.int 2))) (mBin FG (mBin EG (mPk 0) (mK (.int 11))) (mK (.int 2)))) (mK (.int 0))) mNilP))) [C,K1,P2,N3,some (.val (.int l)),J5,WO,X7,z8]=some (.val (.int r8))/\r8<p:=by
     obtain ⟨a,ea,_⟩:=IW (fa:=mPk 7) (fb:=mK (.int 2)) (ρ:= [C,K1,P2,N3,some (.val (.int l)),J5,WO,X7,z8]) (i:=x) rfl rfl (by decide);obtain ⟨b,eb,_⟩:=IW (fa:=mBin EG (mPk 0) (mK (.int 11))) (fb:=mK (.int 2)) (ρ:= [C,K1,P2,N3,some (.val (.int l)),J5,WO,X7,z8]) (i:=c.fdiv 11) ((B1 (op:=EG) (a:= .val (.int c)) (b:= .val (.int 11)) rfl rfl).trans (NU (by decide) (by decide))) rfl (by decide);have eg:(mCallP dInt (mConsP (mBin dGt (mBin dAdd (mBin FG (mPk 7) (mK (.int 2))) (mBin FG (mBin EG (mPk 0) (mK (.int 11))) (mK (.int 2)))) (mK (.int 0))) mNilP)) [C,K1,P2,N3,some (.val (.int l)),J5,WO,X7,z8]=some (.val (.int (if decide ((a:Int)+(b:Int)>0) then 1 else 0))):=DJ (ss:= [.val (.bool (decide ((a:Int)+(b:Int)>0)))]) (DZ (as:= []) ((B1 (op:=dGt) ((B1 (op:=dAdd) ea eb).trans rfl) (b:= .val (.int 0)) rfl).trans rfl) rfl) rfl;generalize decide ((a:Int)+(b:Int)>0)=bb at eg
     cases bb
     . exact ⟨0,((B1 (op:=dRep) ey eg).trans (O0 (cmR (by decide) (by decide)))).trans (by simp),by omega⟩
     . exact ⟨y,((B1 (op:=dRep) ey eg).trans (O0 (cmR (by decide) (by decide)))).trans (by simp),by omega⟩
    refine CI e8 ?_;refine IS (P:=fun ρ=>∃(r8:Nat) (l:Int),ρ = [C,K1,P2,N3,some (.val (.int l)),J5,WO,X7,some (.val (.int r8))]/\r8<p) ?_ ?_
    . obtain ⟨q,eq,_⟩:=IW (fa:=mPk 0) (fb:=mK (.int 2)) (ρ:= [C,K1,P2,N3,some (.val (.int l)),J5,WO,X7,some (.val (.int r8))]) (i:=c) rfl rfl (by decide);refine cR (WH eq rfl) ?_
      cases decide ((q:Int)=1)
      . exact KL ⟨r8,l,rfl,b8⟩
      . obtain ⟨t,et,bt⟩:=IW (fa:=mPk 4) (fb:=mPk 2) (ρ:= [C,K1,P2,N3,some (.val (.int l)),J5,WO,X7,some (.val (.int r8))]) (i:=l) (m:=p) rfl rfl (by omega);exact CI et (Q1 (r:= .val (.int (l.fdiv p))) ((B1 (op:=EG) (a:= .val (.int l)) (b:= .val (.int p)) rfl rfl).trans (NU (by omega) (by omega))) ⟨t,_,rfl,by omega⟩)
    . rintro ρ ⟨r8,l,rfl,b8⟩;refine HH (YZ (ZZ (r:= .val (.int r8)) (ds:=nl w) rfl rfl (by rw [GC];omega)) ⟨w ++ [r8],l,J5,X7,some (.val (.int r8)),?_,by simp [hw],?_⟩)
      . rw [PZ];rfl
      . intro r hr';rcases AV.mp hr' with h | h
        . exact hr r h
        . cases A5.mp h
          exact b8
  . rintro ρ ⟨w,l,z5,z7,z8,rfl,hw,hr⟩;exact DD (r:= .val (AL w)) rfl ⟨w,_,rfl,hw,hr⟩
 obtain ⟨o,h1,w,ρ',rfl,h2⟩:=key;exact ⟨w,JL (ρ:= [C,K1,P2,N3,none,none,none,none,none]) rfl rfl ⟨ρ',h1⟩,h2⟩
def enP(q:Nat×Nat):PyData:= .tuple [.int (q.1:Int), .int (q.2:Int)]
theorem R0:∀a b:List Nat,OA (nl a) (nl b)=(List.zip a b).map enP
 | [],_=>by simp [OA,nl]
 | _::_,[]=>by simp [OA,nl]
 | x::a,y::b=>by
  have:=R0 a b;unfold OA nl at this ⊢
  simp only [B0,vC,A83,this];rfl
theorem bC{a b:List Nat}{q:Nat×Nat}(h:q ∈ List.zip a b):q.1 ∈ a/\q.2 ∈ b:=AB2 h
theorem fV{p n:Nat}(p2:2<=p)(p7:p<=7)(n6:n<=6)(cs:List Int)(hc:cs.length<=900):∃W:List (List Nat),Y5 [.list (il cs), .int p, .int n]=some (.own (W.map AL))/\W.length=cs.length/\∀w ∈ W,LJ p n w:=by
 have sl:=EO
 let CS:Option Sl:=some (.val (.list (il cs)))
 let P1:Option Sl:=some (.val (.int p))
 let N2:Option Sl:=some (.val (.int n))
 have key:Wp b_q10 [CS,P1,N2,none,none,none,none] (fun o=>∃(W:List (List Nat)) (ρ':En),o = .rt (.own (W.map AL)) ρ'/\W.length=cs.length/\∀w ∈ W,LJ p n w):=by
  unfold b_q10;refine CI PY ?_;refine IS (P:=fun ρ=>∃(W:List (List Nat)) (z4 z5 z6:Option Sl),ρ = [CS,P1,N2,some (.own (W.map AL)),z4,z5,z6]/\W.length=cs.length/\∀w ∈ W,LJ p n w) ?_ ?_
  . refine KO (en:=PyData.int) (xs:=cs) (fun i ρ=>∃(W:List (List Nat)) (z4 z5 z6:Option Sl),ρ = [CS,P1,N2,some (.own (W.map AL)),z4,z5,z6]/\W.length=i/\∀w ∈ W,LJ p n w) rfl ⟨[],_,_,_,rfl,rfl,by simp⟩ ?_ (fun ρ h=>h);rintro i c ρ hi ⟨W,z4,z5,z6,rfl,hW,hw⟩;obtain ⟨hil,_⟩:=AS.mp hi;refine ⟨_,rfl,?_⟩;obtain ⟨w,ew,ok⟩:=XE c (k:=1) (by decide) p2 p7 n6
    let C4:Option Sl:=some (.val (.int c))
    let WO:Option Sl:=some (.own (W.map AL))
    refine CI (r:= .val (AL w)) (BY (ds:= [.int c, .int (1:Nat), .int p, .int n]) rfl ew) ?_;show Wp _ [CS,P1,N2,WO,C4,some (.val (AL w)),z6] _;refine IS (P:=fun ρ=>∃(w:List Nat) (z6:Option Sl),ρ = [CS,P1,N2,WO,C4,some (.val (AL w)),z6]/\LJ p n w) ?_ ?_
    . let ρ0:En:= [CS,P1,N2,WO,C4,some (.val (AL w)),z6]
      obtain ⟨a,ea,_⟩:=IW (fa:=mPk 4) (fb:=mK (.int 2)) (ρ:=ρ0) (i:=c) rfl rfl (by decide);obtain ⟨b,eb,_⟩:=IW (fa:=mBin EG (mPk 4) (mK (.int 5))) (fb:=mK (.int 4)) (ρ:=ρ0) (i:=c.fdiv 5) ((B1 (op:=EG) (a:= .val (.int c)) (b:= .val (.int 5)) rfl rfl).trans (NU (by decide) (by decide))) rfl (by decide)
      have eg:(mTest (mBin dGt (mCallP dLen (mConsP (mPk 3) mNilP)) (mK (.int 0)))) ρ0=some (decide (((W.length:Nat):Int)>0)):=by
       refine EH ((B1 (op:=dGt) (a:= .val (.int ((W.length:Nat):Int))) (b:= .val (.int 0)) (DJ (ss:= [.own (W.map AL)]) rfl ?_) rfl).trans rfl);show some (Sl.val (.int ((W.map AL).length:Nat)))=_;rw [AC]
      refine cR (W4 (WH ea rfl) (W4 eg (WH eb rfl))) ?_;generalize hb:(decide ((a:Int)=0) && (decide (((W.length:Nat):Int)>0) && decide ((b:Int)=0)))=bb
      cases bb
      . exact KL ⟨w,z6,rfl,ok⟩
      . have hpos : 0 < W.length := by
         simp only [GE,JP] at hb
         omega
        have g1:W[W.length - 1]? = some W[W.length - 1]:=AB (by omega);have g0:W[0]? = some W[0]:=AB hpos;have o1:=hw _ (BB g1);have o0:=hw _ (BB g0);generalize W[W.length - 1]=wl at g1 o1
        generalize W[0]=wf at g0 o0
        refine CI (r:= .val (AL wl)) ((B1 (op:=dix) (a:= .own (W.map AL)) (b:= .val (.int ((W.length - 1:Nat):Int))) rfl ?_).trans (IV (.inl rfl) (by rw [AX,g1];rfl))) ?_
        . refine (B1 (op:=dSub) (a:= .val (.int ((W.length:Nat):Int))) (b:= .val (.int 1)) (DJ (ss:= [.own (W.map AL)]) rfl ?_) rfl).trans ?_
          . show some (Sl.val (.int ((W.map AL).length:Nat)))=_;rw [AC]
          . show some (Sl.val (.int (((W.length:Nat):Int) - 1)))=_;rw [show ((W.length:Nat):Int) - 1=((W.length - 1:Nat):Int) by omega]
        . let ρ1:En:= [CS,P1,N2,WO,C4,some (.val (AL w)),some (.val (AL wl))]
          let el:Nat×Nat->Int:=fun q=>((q.1:Int)*(1+c.fmod p)+(q.2:Int)*((c.fdiv 7).fmod 2)).fmod p
          let nw:List Nat:=(List.zip wl wf).map fun q=>(el q).toNat
          have el0:∀q,0<=el q/\el q<p:=fun q=>⟨JU _ (by omega),A82 _ (by omega)⟩;have zl:(List.zip wl wf).length=n:=by rw [LN,o1.1,o0.1,Nat.min_self]
          refine HH (Q1 (r:= .val (AL nw)) (DJ (DZ (a:= .own (nl nw)) (as:= []) (HL (ds:=(List.zip wl wf).map enP) ?_ ?_ ?_) rfl) rfl) ⟨nw,some (.val (AL wl)),rfl,by simp [nw,zl],?_⟩)
          . have ar:(mCons (mVar 6) (mCons (mBin dix (mPk 3) (mK (.int 0))) mNil)) ρ1=some [AL wl,AL wf]:=BR (a:= .val (AL wl)) rfl (BR (a:= .val (AL wf)) (as:= []) ((B1 (op:=dix) (a:= .own (W.map AL)) (b:= .val (.int ((0:Nat):Int))) rfl rfl).trans (IV (.inl rfl) (by rw [List.getElem?_map,g0];rfl))) rfl);show K7 (mCons (mVar 6) (mCons (mBin dix (mPk 3) (mK (.int 0))) mNil)) ρ1=_;unfold K7;rw [ar];show some (OA (nl wl) (nl wf))=_;rw [R0]
          . rw [AC];omega
          . refine (EV (en:=enP) (g:=fun q=> .int (((el q).toNat:Nat):Int)) (xs:=List.zip wl wf) fun q hq=> ?_).trans (by simp [nl,nw]);have zm:=bC hq;have b1:=o1.2 _ zm.1;have b2:=o0.2 _ zm.2;rw [IM (el0 q).1];have f2a:=JU (c.fdiv 7) (show (0:Int)<2 by decide);exact LH (fg:=gTupD [gVar 2,gVar 3]) (ρ0:= [C4,P1,none,none]) (d:=enP q) (ρ1:= [C4,P1,some (.val (.int (q.1:Nat))),some (.val (.int (q.2:Nat)))]) (r:= .val (.int (el q))) rfl ((B1 (op:=FG) ((B1 (op:=dAdd) ((B1 (op:=dRep) (a:= .val (.int (q.1:Nat))) rfl ((B1 (op:=dAdd) (a:= .val (.int 1)) rfl ((B1 (op:=FG) (a:= .val (.int c)) (b:= .val (.int p)) rfl rfl).trans (QV (by omega)))).trans rfl)).trans (O0 (cmL (by omega) (by omega)))) ((B1 (op:=dRep) (a:= .val (.int (q.2:Nat))) rfl ((B1 (op:=FG) ((B1 (op:=EG) (a:= .val (.int c)) (b:= .val (.int 7)) rfl rfl).trans (NU (by decide) (by decide))) (b:= .val (.int 2)) rfl).trans (QV (by decide)))).trans (O0 (cmL (by omega) (by omega))))).trans rfl) (b:= .val (.int p)) rfl).trans (QV (by omega)))
          . intro r hr;obtain ⟨q,_,rfl⟩:=AY.mp hr;have:=el0 q;show (el q).toNat<p;omega
    . rintro ρ ⟨w,z6,rfl,ok⟩;refine HH (YZ (ZZ (r:= .val (AL w)) (ds:=W.map AL) rfl rfl (by rw [AC];omega)) ⟨W ++ [w],C4,some (.val (AL w)),z6,?_,by simp [hW],?_⟩)
      . rw [G4];rfl
      . intro v hv;rcases AV.mp hv with h | h
        . exact hw v h
        . cases A5.mp h
          exact ok
  . rintro ρ ⟨W,z4,z5,z6,rfl,hW,hw⟩;exact DD rfl ⟨W,_,rfl,hW,hw⟩
 obtain ⟨o,h1,W,ρ',rfl,h2⟩:=key;exact ⟨W,JL (ρ:= [CS,P1,N2,none,none,none,none]) rfl rfl ⟨ρ',h1⟩,h2⟩
def QU(w x:List Nat):Nat:=((List.zip w x).map fun q=>q.1*q.2).sum
theorem mR(l:List Nat):(l.map fun n:Nat=>(n:Int)).sum=((l.sum:Nat):Int):=by
 induction l with
 | nil=>rfl
 | cons a l ih=>simp only [B0,H9,ih,Int.natCast_add]
theorem XC {p : Nat} (hp : 0 < p) {w x : List Nat} (hw : w.length <= 900) (hx : ∀ r ∈ w, r <= 1000) {ρ : En} (h0 : (ρ[0]?).join = some (.val (.int p))) (h1 : (ρ[1]?).join = some (.val (AL w))) (h2 : (ρ[2]?).join = some (.val (AL x))) :
 (mBin FG (mCallP dSum (mConsP (mLC (E6 [none,none]) (K7 (mCons (mVar 1) (mCons (mVar 2) mNil))) (gTupD [(gVar 0),(gVar 1)]) mYes (mBin dRep (mPk 0) (mPk 1))) mNilP)) (mPk 0)) ρ=some (.val (.int ((QU w x % p:Nat):Int))):=by
 have sl:=EO;have v1:mVar 1 ρ=some (.val (AL w)):=by unfold mVar;rw [h1]
 have v2:mVar 2 ρ=some (.val (AL x)):=by unfold mVar;rw [h2]
 have zi:K7 (mCons (mVar 1) (mCons (mVar 2) mNil)) ρ=some ((List.zip w x).map enP):=by
  unfold K7;rw [BR v1 (BR v2 (show mNil ρ=some [] from rfl))];show some (OA (nl w) (nl x))=_;rw [R0]
 have zl:((List.zip w x).map enP).length<sizeLine:=by
  rw [AC,LN];omega
 have sm:(mCallP dSum (mConsP (mLC (E6 [none,none]) (K7 (mCons (mVar 1) (mCons (mVar 2) mNil))) (gTupD [(gVar 0),(gVar 1)]) mYes (mBin dRep (mPk 0) (mPk 1))) mNilP)) ρ=some (.val (.int ((QU w x:Nat):Int))):=by
  refine DJ (DZ (a:= .own (nl ((List.zip w x).map fun q=>q.1*q.2))) (as:= []) (HL zi zl ?_) rfl) ?_
  . refine (EV (en:=enP) (g:=fun q=> .int ((q.1*q.2:Nat):Int)) (xs:=List.zip w x) fun q hq=> ?_).trans (by simp [nl]);have b1:=hx _ (bC hq).1;refine LH (fg:=gTupD [gVar 0,gVar 1]) (ρ0:= [none,none]) (d:=enP q) (ρ1:= [some (.val (.int (q.1:Nat))),some (.val (.int (q.2:Nat)))]) (r:= .val (.int ((q.1*q.2:Nat):Int))) rfl ((B1 (op:=dRep) (a:= .val (.int (q.1:Nat))) (b:= .val (.int (q.2:Nat))) rfl rfl).trans ((O0 (cmL (by omega) (by omega))).trans (by rw [LL])))
  . have e:nl ((List.zip w x).map fun q=>q.1*q.2)=il (((List.zip w x).map fun q=>q.1*q.2).map fun n:Nat=>(n:Int)):=by simp [nl,il]
    show (G0 (nl _)).map _=_;rw [e,Q9,GU,mR];rfl
 have v0:mPk 0 ρ=some (.val (.int p)):=h0;refine (B1 (op:=FG) sm v0).trans ((QV (by omega)).trans ?_);rw [HW _ (by omega)];rfl
theorem lC{p:Nat}(hp:0<p){w x:List Nat}(hw:w.length<=900)(hx:∀r ∈ w,r<=1000):V7 [.int p,AL w,AL x]=some (.val (.int ((QU w x % p:Nat):Int))):=by
 refine EW (ρ:= [some (.val (.int p)),some (.val (AL w)),some (.val (AL x))]) rfl rfl ?_;unfold b_q14;exact DD (XC hp hw hx rfl rfl rfl) rfl
theorem fF{p:Nat}(hp:0<p){w x:List Nat}(hw:w.length<=900)(hx:∀r ∈ w,r<=1000):fU [.int p,AL w,AL x]=some (.val (.int ((QU w x % p:Nat):Int))):=by
 refine EW (ρ:= [some (.val (.int p)),some (.val (AL w)),some (.val (AL x))]) rfl rfl ?_;unfold b_q0;exact DD (XC hp hw hx rfl rfl rfl) rfl
abbrev Rule:=List Nat×Nat
def MK(q:Rule):PyData:= .tuple [AL q.1, .int (q.2:Int)]
def Y6(p:Nat)(R:List Rule)(x:List Nat):Bool:=R.all fun q=>decide (QU q.1 x % p=q.2)
theorem fE{α:Type}(xs:List α)(b:α->Bool):dAll [.own (xs.map fun x=>PyData.bool (b x))]=some (.val (.bool (xs.all b))):=by
 have:∀xs:List α,IX (xs.map fun x=>PyData.bool (b x))=some (xs.map b):=by
  intro xs
  induction xs with
  | nil=>rfl
  | cons x xs ih=>rw [B0,IX,ih];rfl
 show (IX (xs.map fun x=>PyData.bool (b x))).map _=_;rw [this,GU];congr 3
 simp [List.all_map]
def wP(p n:Nat)(q:Rule):Prop:=LJ p n q.1
theorem Z8 {F : List PyData -> Option Sl} {p n : Nat} {R : List Rule} {x : List Nat} {ρ0 : En} (hp : 2 <= p) (p7 : p <= 7) (n6 : n <= 6) (hR : ∀ q ∈ R, wP p n q) (hF : ∀ w, LJ p n w -> F [.int p, AL w, AL x] = some (.val (.int ((QU w x % p : Nat) : Int))))
 (e0:ρ0 = [some (.val (.int p)),some (.val (AL x)),none,none]) :
 MF (elM (gTupD [(gVar 2),(gVar 3)]) mYes (mBin deq (mCall F (mCons (mVar 0) (mCons (mVar 2) (mCons (mVar 1) mNil)))) (mPk 3)) ρ0) (R.map MK)=some (R.map fun q=> .bool (decide (QU q.1 x % p=q.2))):=by
 subst e0;refine EV fun q hq=> ?_;refine LH (fg:=gTupD [gVar 2,gVar 3]) (ρ0:= [some (.val (.int p)),some (.val (AL x)),none,none]) (d:=MK q) (ρ1:= [some (.val (.int p)),some (.val (AL x)),some (.val (AL q.1)),some (.val (.int (q.2:Nat)))]) (r:= .val (.bool (decide (QU q.1 x % p=q.2)))) rfl ?_;refine (B1 (op:=deq) (BY (ds:= [.int p,AL q.1,AL x]) rfl (hF q.1 (hR q hq))) (b:= .val (.int (q.2:Nat))) rfl).trans ((cB _ _).trans ?_);congr 3
 exact IH.mpr (by omega)
theorem gG{p n:Nat}{R:List Rule}(hp:2<=p)(p7:p<=7)(n6:n<=6)(hR:∀q ∈ R,wP p n q)(hl:R.length<=900)(x:List Nat):XI [.int p, .list (R.map MK),AL x]=some (.val (.bool (Y6 p R x))):=by
 have sl:=EO;refine EW (ρ:= [some (.val (.int p)),some (.val (.list (R.map MK))),some (.val (AL x))]) rfl rfl ?_;unfold b_q18;refine DD (DJ (DZ (as:= []) (HL (ds:=R.map MK) rfl (by rw [List.length_map];omega) (Z8 (F:=V7) hp p7 n6 hR (fun w hw=>lC (by omega) (by rw [hw.1];omega) fun r hr=>by have:=hw.2 r hr;omega) rfl)) rfl) (fE _ _)) rfl
theorem nH(p n:Nat):(List.replicate n [PyData.int (p:Int)]).flatten=nl (List.replicate n p):=by
 induction n with
 | zero=>rfl
 | succ n ih=>rw [BW,EJ,ih,BW];rfl
theorem S9(p n:Nat):Tr.prodN (List.replicate n p)=p ^ n:=by
 induction n with
 | zero=>rfl
 | succ n ih=>rw [BW,Tr.prodN,ih,vA,MN]
theorem sD{p n:Nat}{R:List Rule}(hp:2<=p)(p7:p<=7)(n6:n<=6)(hpn:p ^ n<=125)(hR:∀q ∈ R,wP p n q)(hl:R.length<=900):XF [.int p, .int n, .list (R.map MK)]=some (.own (((Tr.allT (List.replicate n p)).filter (Y6 p R)).map AL)):=by
 have sl:=EO
 let P0:Option Sl:=some (.val (.int p))
 let RV:Option Sl:=some (.val (.list (R.map MK)))
 refine EW (ρ:= [P0,some (.val (.int n)),RV]) rfl rfl ?_;unfold b_cut
 have all:(mCall UA (mCons (mBin dRep (mLst (mCons (mVar 0) mNil)) (mPk 1)) mNil)) [P0,some (.val (.int n)),RV]=some (.own ((Tr.allT (List.replicate n p)).map AL)):=by
  refine BY (ds:= [.list (nl (List.replicate n p))]) (BR (a:= .own (nl (List.replicate n p))) (as:= []) ((B1 (op:=dRep) (iL (a:= .val (.int p)) rfl) (b:= .val (.int n)) rfl).trans ((qR (by show 1*n<=_;omega) (by omega)).trans ?_)) rfl) (oD (fun c hc=> ?_) (by simp;omega) (by rw [S9];omega))
  . rw [<-nH];rfl
  . have:=(MR.mp hc).2;omega
 have al:(Tr.allT (List.replicate n p)).length<=900:=by
  simp [Tr.allT,S9];omega
 refine DD (HL (ds:=(Tr.allT (List.replicate n p)).map AL) ?_ (by rw [AC];omega) ?_) rfl
 . unfold CU;rw [all];rfl
 . exact HF fun x _=>V9 (fg:=gVar 2) (ρ0:= [P0,RV,none]) (d:=AL x) (ρ1:= [P0,RV,some (.val (AL x))]) (r:= .val (AL x)) rfl (EH (BY (ds:= [.int p, .list (R.map MK),AL x]) rfl (gG hp p7 n6 hR hl x))) rfl
theorem yI(l:List Int)(lo hi:Option Int):NF (il l) lo hi=il (NF l lo hi):=by
 unfold NF il;rw [List.length_map, <-List.map_drop, <-List.map_take]
theorem cH(l:List Int)(lo hi:Option Int):(NF l lo hi).length<=l.length:=by
 unfold NF;rw [List.length_take,List.length_drop];omega
theorem iP {cs : List Int} (hcs : cs.length <= 900) {at_ most : Nat} (ha : at_ < cs.length) (hm : most <= 100) :
 ∃(p n m:Nat) (W:List (List Nat)),lH [.list (il cs), .int at_, .int most]=some (.val (.tuple [.int p, .int n, .list (W.map AL), .int ((at_+1+m:Nat):Int)]))/\(p=2\/p=3\/p=5\/p=7)/\1<=n/\n<=6/\p ^ n<=125/\m<=most/\W.length<=900/\∀w ∈ W,LJ p n w:=by
 have sl:=EO;have gc:cs[at_]? = some cs[at_]:=AB ha;generalize cs[at_]=c at gc
 let CS:Option Sl:=some (.val (.list (il cs)))
 let A1:Option Sl:=some (.val (.int at_))
 let M2:Option Sl:=some (.val (.int most))
 let C3:Option Sl:=some (.val (.int c))
 obtain ⟨p,n,esz,hp,n1,n6,hpn⟩:=j8 c
 let P6:Option Sl:=some (.val (.int p))
 let N7:Option Sl:=some (.val (.int n))
 obtain ⟨m,em,bm⟩:=IW (fa:=mBin EG (mPk 3) (mK (.int 42))) (fb:=mBin dAdd (mPk 2) (mK (.int 1))) (ρ:= [CS,A1,M2,C3,none,none,P6,N7]) (i:=c.fdiv 42) (m:=(most:Int)+1) ((B1 (op:=EG) (a:= .val (.int c)) (b:= .val (.int 42)) rfl rfl).trans (NU (by decide) (by decide))) rfl (by omega)
 let M4:Option Sl:=some (.val (.int m))
 have p2:2<=p:=by omega
 have p7:p<=7:=by omega
 let lo:Option Int:=some ((at_:Int)+1)
 let hi:Option Int:=some ((at_:Int)+1+(m:Int))
 obtain ⟨W,ew,hW,hw⟩:=fV p2 p7 n6 (NF cs lo hi) (by have:=cH cs lo hi;omega);refine ⟨p,n,m,W,EW (ρ:= [CS,A1,M2,none,none,none,none,none]) rfl rfl ?_,hp,n1,n6,hpn,by omega,by have:=cH cs lo hi;omega,hw⟩;unfold b_q2;refine CI (r:= .val (.int c)) ((B1 (op:=dix) (a:= .val (.list (il cs))) (b:= .val (.int (at_:Nat))) rfl rfl).trans (IV (.inl rfl) (by unfold il;rw [List.getElem?_map,gc];rfl))) ?_;refine GI (f:=mFrz 3 _) (ρ':= [CS,A1,M2,C3,none,none,P6,N7]) (dX (ρ:= [CS,A1,M2,C3,none,none,none,none]) (BY (ds:= [.int c]) rfl esz) rfl) ?_;refine CI em ?_;show Wp _ [CS,A1,M2,C3,M4,none,P6,N7] _
 have sle:(mSl (mPk 0) (mPart (mBin dAdd (mPk 1) (mK (.int 1)))) (mPart (mBin dAdd (mBin dAdd (mPk 1) (mK (.int 1))) (mPk 4)))) [CS,A1,M2,C3,M4,none,P6,N7]=some (.own (il (NF cs lo hi))):=by
  rw [<-yI];rfl
 refine CI (r:= .own (W.map AL)) (BY (ds:= [.list (il (NF cs lo hi)), .int p, .int n]) (BR sle rfl) ew) ?_;refine HH (DD (r:= .val (.tuple [.int p, .int n, .list (W.map AL), .int ((at_+1+m:Nat):Int)])) ?_ rfl);show mTup _ [CS,A1,M2,C3,M4,some (.val (.list (W.map AL))),P6,N7]=_
 have e4:mBin dAdd (mBin dAdd (mPk 1) (mK (.int 1))) (mPk 4) [CS,A1,M2,C3,M4,some (.val (.list (W.map AL))),P6,N7]=some (.val (.int ((at_+1+m:Nat):Int))):=by
  show some (Sl.val (.int ((at_:Int)+1+(m:Int))))=_;rw [show (at_:Int)+1+(m:Int)=((at_+1+m:Nat):Int) by omega]
 unfold mTup;rw [BR (a:= .val (.int p)) rfl (BR (a:= .val (.int n)) rfl (BR (a:= .val (.list (W.map AL))) rfl (BR e4 (show mNil _=some [] from rfl))))];exact if_pos (e:=none) (show 4<=sizeLine by omega)
theorem N8(l:List Nat):(AL l).canLay0=true:=WZ (en:=fun n:Nat=>PyData.int (n:Int)) (fun _=>rfl) l
theorem WN(l:List Nat):(AL l).depth<=3:=by
 have:=XZ (en:=fun n:Nat=>PyData.int (n:Int)) (k:=1) (fun x=>by simp [PyData.depth]) l;simp only [AL,PyData.depth,nl];omega
theorem SL{α:Type}(xs:List α):dAll [.own (xs.map fun _=>PyData.bool true)]=some (.val (.bool true)):=by
 have:∀xs:List α,IX (xs.map fun _=>PyData.bool true)=some (xs.map fun _=>true):=by
  intro xs
  induction xs with
  | nil=>rfl
  | cons x xs ih=>rw [B0,IX,ih];rfl
 show (IX (xs.map fun _=>PyData.bool true)).map _=_;rw [this,GU];congr 3
 simp
theorem lR:∀a b:List Nat,PyData.eqvAll (nl a) (nl b)=decide (a=b)
 | [],[]=>by simp [nl,PyData.eqvAll]
 | [],_::_=>by simp [nl,PyData.eqvAll]
 | _::_,[]=>by simp [nl,PyData.eqvAll]
 | x::a,y::b=>by
  have:=lR a b;simp only [nl] at this
  simp only [nl,B0,PyData.eqvAll,this,PyData.eqv]
  by_cases h:x=y
  . subst h;simp
  . have:¬((x:Int)=(y:Int)):=by omega
    simp [h,this]
theorem W8(a b:List Nat):PyData.eqv (AL a) (AL b)=decide (a=b):=by
 unfold AL;simp only [PyData.eqv];exact lR a b
theorem gP(e:List Nat)(M:List (List Nat)):inD true (AL e) (M.map AL)=some (.val (.bool (decide (e ∉ M)))):=by
 have dt:=WN e;unfold inD;rw [if_pos ⟨N8 e,by simp [N8],by omega⟩];congr 3
 simp only [G6,List.any_map]
 have:(M.any ((fun d=>PyData.eqv d (AL e)) ∘ AL))=decide (e ∈ M):=by
  induction M with
  | nil=>simp
  | cons m M ih=>
   rw [KY,ih];show (PyData.eqv (AL m) (AL e) || _)=_;rw [W8]
   by_cases h:m=e
   . subst h;simp
   . have h':e≠m:=fun z=>h z.symm;simp [h,h']
 rw [this];simp
open Classical in
def cnt(cs:List (List Key))(k:List Key):Nat:=(cs.filter fun j=>decide (j=k)).length
open Classical in
theorem T4{f:List Key->Nat}{k:List Key}:∀ {ks:List (List Key)},ks.Nodup->(ks.map fun j=>f j+if j=k then 1 else 0).sum=(ks.map f).sum+if k ∈ ks then 1 else 0
 | [],_=>by simp
 | a::ks,h=>by
  obtain ⟨h1,h2⟩:=G1.mp h;rw [B0,B0,H9,H9,T4 h2]
  by_cases e:a=k
  . subst e;rw [AD rfl,AA h1,AD AQ];omega
  . rw [AA e]
    by_cases m:k ∈ ks
    . rw [AD m,AD (AK _ m)];omega
    . rw [AA m,AA (fun z=>by rcases AN.mp z with z | z;exact e z.symm;exact m z)];omega
def FF(cs ks:List (List Key)):List (PyData×PyData):=ks.map fun k=>(tupD k, .int ((cnt cs k:Nat):Int))
open Classical in
theorem LE{cs:List (List Key)}{k:List Key}:∀ {ks:List (List Key)},HM (FF cs ks) k=if k ∈ ks then some (.int ((cnt cs k:Nat):Int)) else none
 | []=>by simp [FF,HM]
 | a::ks=>by
  show HM ((tupD a, .int ((cnt cs a:Nat):Int))::FF cs ks) k=_;rw [HM]
  by_cases e:a=k
  . subst e;rw [AD rfl,AD AQ]
  . rw [AA fun z=>e (PB z),LE]
    by_cases m:k ∈ ks
    . rw [AD m,AD (AK _ m)]
    . rw [AA m,AA (fun z=>by rcases AN.mp z with z | z;exact e z.symm;exact m z)]
open Classical in
theorem OT(cs:List (List Key))(k j:List Key):cnt (cs ++ [k]) j=cnt cs j+if j=k then 1 else 0:=by
 unfold cnt;rw [List.filter_append,List.length_append];congr 1
 by_cases e:j=k
 . subst e;rw [AD rfl,II,AD (AR rfl)];rfl
 . rw [AA e,II,AA (by rw [AZ fun z=>e z.symm];exact CG)];rfl
theorem RF{cs:List (List Key)}{k:List Key}(h:¬k ∈ cs):cnt cs k=0:=by
 unfold cnt;rw [List.length_eq_zero_iff,List.filter_eq_nil_iff];intro a ha z;rw [decide_eq_true_iff] at z
 subst z;exact h ha
open Classical in
theorem X1{cs:List (List Key)}{k:List Key}:∀ {ks:List (List Key)},QK k (.int (((cnt cs k:Nat):Int)+1)) (FF cs ks)=FF (cs ++ [k]) ks
 | []=>rfl
 | a::ks=>by
  show QK k _ ((tupD a, .int ((cnt cs a:Nat):Int))::FF cs ks)=(tupD a, .int ((cnt (cs ++ [k]) a:Nat):Int))::FF (cs ++ [k]) ks;rw [QK,X1,OT];congr 1
  by_cases e:a=k
  . subst e;rw [AD rfl,AD rfl];rfl
  . rw [AA fun z=>e (PB z),AA e];rfl
structure Cn (cs ks:List (List Key)):Prop where
 nd:ks.Nodup
 mem:∀k,k ∈ ks↔k ∈ cs
 sum:(ks.map fun k=>cnt cs k).sum=cs.length
open Classical in
theorem pD{cs ks:List (List Key)}(h:Cn cs ks)(k:List Key):∃ks',Cn (cs ++ [k]) ks'/\XT (FF cs ks) k (.int (((cnt cs k:Nat):Int)+1))=FF (cs ++ [k]) ks':=by
 have fn:(fun j=>cnt (cs ++ [k]) j)=fun j=>cnt cs j+if j=k then 1 else 0:=funext fun j=>OT cs k j
 by_cases m:k ∈ ks
 . refine ⟨ks,⟨h.nd,fun j=> ?_,?_⟩,?_⟩
   . rw [h.mem,AV,A5];exact ⟨.inl,fun z=>by rcases z with z | z;exact z;subst z;exact (h.mem j).mp m⟩
   . rw [fn,T4 h.nd,h.sum,AD m,BC];rfl
   . unfold XT;rw [LE,if_pos m];exact X1
 . have c0:cnt cs k=0:=RF fun z=>m ((h.mem k).mpr z);refine ⟨ks ++ [k],⟨?_,fun j=> ?_,?_⟩,?_⟩
   . exact NM.mpr ⟨h.nd, by simp, fun a ha b hb => by
      rw [A5] at hb
      subst hb;rintro rfl;exact m ha⟩
   . rw [AV,AV,h.mem]
   . rw [fn,G4,List.sum_append,T4 h.nd,h.sum,AA m,BC];simp [c0]
   . unfold XT;rw [LE,if_neg m];show FF cs ks++_=FF (cs ++ [k]) (ks ++ [k]);unfold FF;rw [List.map_append];congr 1
     . refine BK fun j hj=> ?_;rw [OT,AA (by rintro rfl;exact m hj),FB]
     . rw [List.map_singleton,OT,AD rfl,c0];rfl
def kN(b:List Nat):List Key:=b.map fun n:Nat=> .inl (n:Int)
theorem WI(b:List Nat):tupD (kN b)=AL b:=by
 unfold tupD kN AL nl;rw [List.map_map];rfl
theorem aK{a b:List Nat}(h:kN a=kN b):a=b:=by
 unfold kN at h
 exact A79 (fun x y e=>by cases e;rfl) |>.mp h
theorem NY:∀k:List Key,Q6 (k.map keyD)=some k
 | []=>rfl
 | .inl i::k=>by
  show (ZY (.int i)).bind (fun a=>(Q6 (k.map keyD)).map (a :: ·))=_;rw [NY k]
  rfl
 | .inr x::k=>by
  show (ZY (.str x)).bind (fun a=>(Q6 (k.map keyD)).map (a :: ·))=_;rw [NY k];rfl
theorem S5(k:List Key):ME (tupD k)=some k:=NY k
theorem NX(k:List Nat):ME (AL k)=some (kN k):=by rw [<-WI];exact S5 _
theorem W3(cs ks:List (List Key)):unD (FF cs ks)=FF cs ks:=by
 cases ks <;> rfl
theorem cZ{cs:List (List Key)}{k:List Key}(h:k ∈ cs):1<=cnt cs k:=by
 unfold cnt;exact List.length_pos_of_mem (List.mem_filter.mpr ⟨h,decide_eq_true rfl⟩)
theorem tJ{cs ks:List (List Key)}(h:Cn cs ks):ks.length<=cs.length:=by
 rw [<-h.sum]
 have gen:∀l:List (List Key),(∀k ∈ l,k ∈ cs)->l.length<=(l.map fun k=>cnt cs k).sum:=by
  intro l
  induction l with
  | nil=>intro _;exact AF _
  | cons a l ih=>
   intro hm;have h1:=ih fun k hk=>hm k (AK _ hk);have h2:=cZ (hm a AQ);rw [B0,H9,B7];omega
 exact gen ks fun k hk=>(h.mem k).mp hk
theorem VT{x:List Nat}{d:Nat}(h:d<x.length):(nl x)[d]? = some (.int ((x.getD d 0:Nat):Int)):=by
 unfold nl;rw [List.getElem?_map,List.getD,List.getElem?_eq_getElem h];rfl
theorem bH{x c:List Nat}{dx:PyData}(hx:dx = .tuple (nl x)\/dx = .list (nl x))(hc:∀d ∈ c,d<x.length)(hl:c.length<=900):(mLC (E6 [some 0,none]) (CU (mVar 1)) (gVar 1) mYes (mBin dix (mPk 0) (mPk 1))) [some (.val dx),some (.val (.list (nl c)))]=some (.own (nl (Ev.ch c x))):=by
 have sl:=EO;refine HL (ds:=nl c) rfl (by rw [GC];omega) ((EV (en:=enN) (g:=fun d=> .int ((x.getD d 0:Nat):Int)) (xs:=c) fun d hd=> ?_).trans (by unfold Ev.ch nl;rw [List.map_map];rfl));refine LH (fg:=gVar 1) (ρ0:= [some (.val dx),none]) (d:= .int (d:Nat)) (ρ1:= [some (.val dx),some (.val (.int (d:Nat)))]) (r:= .val (.int ((x.getD d 0:Nat):Int))) rfl ((B1 (op:=dix) (a:= .val dx) (b:= .val (.int (d:Nat))) rfl rfl).trans (IV ?_ (VT (hc d hd))));rcases hx with rfl | rfl
 . exact .inr rfl
 . exact .inl rfl
theorem ZW{x c:List Nat}(hc:∀d ∈ c,d<x.length)(hl:c.length<=900):YR [AL x, .list (nl c)]=some (.val (AL (Ev.ch c x))):=by
 refine EW (ρ:= [some (.val (AL x)),some (.val (.list (nl c)))]) rfl rfl ?_;unfold b_q13;exact DD (DJ (ss:= [.own (nl (Ev.ch c x))]) (DZ (as:= []) (bH (.inl rfl) hc hl) rfl) rfl) rfl
theorem NV{L c:List Nat}(hc:∀d ∈ c,d<L.length)(hl:c.length<=900):MG [.list (nl L), .list (nl c)]=some (.own (nl (Ev.lv L c))):=by
 refine EW (ρ:= [some (.val (.list (nl L))),some (.val (.list (nl c)))]) rfl rfl ?_;unfold b_q20;exact DD (bH (.inr rfl) hc hl) rfl
def JK(T:List (List Nat))(c:List Nat):List (List Key):=T.map fun x=>kN (Ev.ch c x)
theorem GM(T:List (List Nat))(c k:List Nat):cnt (JK T c) (kN k)=Ev.count T c k:=by
 unfold cnt JK Ev.count;rw [List.filter_map,List.length_map];congr 1
 refine NO fun x _=> ?_;show (@decide _ _)=_
 by_cases h:Ev.ch c x=k
 . rw [AR h];exact @AR _ _ (show kN (Ev.ch c x)=kN k by rw [h])
 . rw [AZ h];exact @AZ _ _ fun z=>h (aK z)
theorem RH{T:List (List Nat)}{c:List Nat}{n:Nat}(hT:T.length<=900)(ht:∀x ∈ T,x.length=n)(hc:∀d ∈ c,d<n)(hl:c.length<=900):∃ks,Cn (JK T c) ks/\RY [.list (T.map AL), .list (nl c)]=some (.dct (FF (JK T c) ks)):=by
 have sl:=EO
 let P0:Option Sl:=some (.val (.list (T.map AL)))
 let C1:Option Sl:=some (.val (.list (nl c)))
 have key:Wp b_q12 [P0,C1,none,none,none] (fun o=>∃ks ρ',Cn (JK T c) ks/\o = .rt (.dct (FF (JK T c) ks)) ρ'):=by
  unfold b_q12;refine CI (r:= .dct []) rfl ?_;refine IS (P:=fun ρ=>∃ks z3 z4,Cn (JK T c) ks/\VG z3=false/\VG z4=false/\ρ = [P0,C1,some (.dct (FF (JK T c) ks)),z3,z4]) ?_ ?_
  . refine KO (en:=AL) (xs:=T) (fun j ρ=>∃ks z3 z4,Cn (JK (T.take j) c) ks/\VG z3=false/\VG z4=false/\ρ = [P0,C1,some (.dct (FF (JK (T.take j) c) ks)),z3,z4]) rfl ⟨[],none,none,⟨iC,fun k=>Iff.rfl,rfl⟩,rfl,rfl,rfl⟩ ?_ (fun ρ h=>by rw [AB0] at h;exact h);rintro j x ρ hj ⟨ks,z3,z4,cn,_,d4,rfl⟩;have xl:=ht x (BB hj)
    let cs:=JK (T.take j) c
    let D:=FF cs ks
    let X3:Option Sl:=some (.val (AL x))
    let k:=kN (Ev.ch c x)
    let K4:Option Sl:=some (.val (AL (Ev.ch c x)))
    refine ⟨_,rfl,?_⟩;refine CI (r:= .val (AL (Ev.ch c x))) (BY (ds:= [AL x, .list (nl c)]) rfl (ZW (fun d hd=>by rw [xl];exact hc d hd) hl)) ?_
    let E:En:= [P0,C1,some (.dct D),X3,K4]
    show Wp _ E _
    have gv:(mBin dAdd (VX (mPk 2) (mPk 4) (mK (.int 0))) (mK (.int 1))) E=some (.val (.int (((cnt cs k:Nat):Int)+1))):=by
     refine (B1 (op:=dAdd) (a:= .val (.int ((cnt cs k:Nat):Int))) (b:= .val (.int 1)) ?_ rfl).trans rfl;show (dictOf (.dct D)).bind (fun kvs=>(ME (AL (Ev.ch c x))).map fun k=>Sl.val ((HM kvs k).getD (.int 0)))=_;rw [NX];show some (Sl.val ((HM (unD D) k).getD (.int 0)))=_;rw [W3,LE]
     by_cases mk:k ∈ ks
     . rw [AD mk];rfl
     . rw [AA mk,RF fun z=>mk ((cn.mem k).mpr z)];rfl
    obtain ⟨ks',cn',ep⟩:=pD cn k
    have tk:JK (T.take (j+1)) c=cs ++ [k]:=by
     unfold JK;rw [List.take_succ,hj,List.map_append];rfl
    have ll:D.length<sizeLine:=by
     have h1:ks.length<=cs.length:=tJ cn
     have h2:cs.length<=T.length:=by
      show ((T.take j).map _).length<=_;rw [AC,F0];omega
     show (ks.map _).length<_;rw [AC];omega
    refine YZ (o:= .nx [P0,C1,some (.dct (XT D k (.int (((cnt cs k:Nat):Int)+1)))),X3,K4]) ?_ ⟨ks',X3,K4,by rw [tk];exact cn',rfl,rfl,by rw [tk, <-ep]⟩;unfold cP;rw [gv];show (ME (AL (Ev.ch c x))).bind (fun k'=>if D.length<sizeLine/\XG 2 E=true then some (Out.nx (E.set 2 (some (.dct (XT D k' (.int (((cnt cs k:Nat):Int)+1))))))) else none)=_;rw [NX];show (if D.length<sizeLine/\XG 2 E=true then _ else _)=_;rw [if_pos ⟨ll,rfl⟩];rfl
  . rintro ρ ⟨ks,z3,z4,cn,_,_,rfl⟩;exact DD rfl ⟨ks,_,cn,rfl⟩
 obtain ⟨o,h1,ks,ρ',cn,rfl⟩:=key;exact ⟨ks,cn,JL (ρ:= [P0,C1,none,none,none]) rfl rfl ⟨ρ',h1⟩⟩
structure PlanOk (T:List (List Nat)) (L:List Nat):Prop where
 len:T.length<=900
 some_:0<T.length
 ok:∀x ∈ T,Ev.OkT L x
 lev:∀c ∈ L,0<c/\c<=1000
 few:L.length<=6
theorem XQ{L c:List Nat}(hL:∀c ∈ L,0<c/\c<=1000)(hc:∀d ∈ c,d<L.length):∀e ∈ Ev.lv L c,0<e/\e<=1000:=fun e he=>by
 obtain ⟨d,hd,rfl⟩:=AY.mp he;have:=hc d hd;rw [List.getD,AB this];exact hL _ (F3 this)
theorem uT{T:List (List Nat)}{L c:List Nat}(P:PlanOk T L)(hc:∀d ∈ c,d<L.length){x:List Nat}(hx:x ∈ T):Ev.OkT (Ev.lv L c) (Ev.ch c x):=Ev.okT_map.mpr fun d hd=>(P.ok x hx).2 d (hc d hd)
theorem S8(L:List Nat):(Tr.allT L).length=Tr.prodN L:=by unfold Tr.allT;rw [List.length_map,List.length_range]
theorem FA{L c k:List Nat}(hL:∀c ∈ L,0<c/\c<=1000)(hc:∀d ∈ c,d<L.length):k ∈ Tr.allT (Ev.lv L c)↔Ev.OkT (Ev.lv L c) k:=Ev.allT_mem _ _ _ rfl fun e he=>(XQ hL hc e he).1
theorem VW{T:List (List Nat)}{L c:List Nat}{ks:List (List Key)}(P:PlanOk T L)(hc:∀d ∈ c,d<L.length)(cn:Cn (JK T c) ks):(∀k ∈ ks,∃j ∈ Tr.allT (Ev.lv L c),k=kN j)/\ks.length<=Tr.prodN (Ev.lv L c)/\(Tr.prodN (Ev.lv L c)<=ks.length->∀j ∈ Tr.allT (Ev.lv L c),kN j ∈ ks):=by
 have h1:∀k ∈ ks,∃j ∈ Tr.allT (Ev.lv L c),k=kN j:=fun k hk=>by
  obtain ⟨x,hx,rfl⟩:=AY.mp ((cn.mem k).mp hk);exact ⟨Ev.ch c x,(FA P.lev hc).mpr (uT P hc hx),rfl⟩
 have h2:∀k ∈ ks,k ∈ (Tr.allT (Ev.lv L c)).map kN:=fun k hk=>by
  obtain ⟨j,hj,rfl⟩:=h1 k hk;exact AY.mpr ⟨j,hj,rfl⟩
 have l:((Tr.allT (Ev.lv L c)).map kN).length=Tr.prodN (Ev.lv L c):=by rw [AC,S8]
 refine ⟨h1,?_,fun hp j hj=> ?_⟩
 . have:=Ev.nd_len cn.nd h2;rw [l] at this
   exact this
 . exact Ev.nd_all cn.nd h2 (by rw [l];exact hp) _ (AY.mpr ⟨j,hj,rfl⟩)
theorem O6{T:List (List Nat)}{c k:List Nat}{ks:List (List Key)}(cn:Cn (JK T c) ks)(h:kN k ∉ ks):Ev.count T c k=0:=by
 rw [<-GM];exact RF fun z=>h ((cn.mem _).mpr z)
theorem gO{T:List (List Nat)}{c k:List Nat}{ks:List (List Key)}(cn:Cn (JK T c) ks)(h:kN k ∈ ks):1<=Ev.count T c k:=by
 rw [<-GM];exact cZ ((cn.mem _).mp h)
theorem mE(cs ks:List (List Key)):(FF cs ks).map (·.2)=(ks.map fun k=>((cnt cs k:Nat):Int)).map .int:=by
 unfold FF;rw [List.map_map,List.map_map];rfl
theorem XJ{T:List (List Nat)}{L c:List Nat}(P:PlanOk T L)(hc:∀d ∈ c,d<L.length)(hl:c.length<=900):∃b:Bool,VA [.list (T.map AL), .list (nl L), .list (nl c)]=some (.val (.bool b))/\(b=true↔Ev.EvC T L c):=by
 have sl:=EO;obtain ⟨ks,cn,hk⟩:=RH (c:=c) P.len (fun x hx=>(P.ok x hx).1) hc hl;obtain ⟨k1,k2,k3⟩:=VW P hc cn
 let P0:Option Sl:=some (.val (.list (T.map AL)))
 let L1:Option Sl:=some (.val (.list (nl L)))
 let C2:Option Sl:=some (.val (.list (nl c)))
 let D:=FF (JK T c) ks
 let D3:Option Sl:=some (.dct D)
 have len3:(mCallP dLenD (mConsP (mPk 3) mNilP)) [P0,L1,C2,D3]=some (.val (.int (ks.length:Int))):=by
  refine DJ (DZ (a:= .dct D) rfl rfl) ?_;show (dictOf (.dct D)).map (fun kvs=>Sl.val (.int ((kvs.length:Nat):Int)))=_;show some (Sl.val (.int (((unD D).length:Nat):Int)))=_;rw [W3];show some (Sl.val (.int (((ks.map _).length:Nat):Int)))=_;rw [AC]
 have prd:(mCall MC (mCons (mCall MG (mCons (mVar 1) (mCons (mVar 2) mNil))) mNil)) [P0,L1,C2,D3]=some (.val (.int (Tr.prodN (Ev.lv L c):Nat))):=BY (ds:= [.list (nl (Ev.lv L c))]) (BR (a:= .own (nl (Ev.lv L c))) (as:= []) (BY (ds:= [.list (nl L), .list (nl c)]) rfl (NV hc hl)) rfl) (S7 fun e he=>(XQ P.lev hc e he).2);have tst:(mTest (mBin dLt (mCallP dLenD (mConsP (mPk 3) mNilP)) (mCall MC (mCons (mCall MG (mCons (mVar 1) (mCons (mVar 2) mNil))) mNil)))) [P0,L1,C2,D3]=some (decide ((ks.length:Int)<(Tr.prodN (Ev.lv L c):Nat))):=EH ((B1 (op:=dLt) len3 prd).trans rfl);have ppos:0<Tr.prodN (Ev.lv L c):=Tr.prodN_pos _ fun e he=>(XQ P.lev hc e he).1
 have key:Wp b_q17 [P0,L1,C2,none] (fun o=>∃(b:Bool) (ρ':En),o = .rt (.val (.bool b)) ρ'/\(b=true↔Ev.EvC T L c)):=by
  unfold b_q17;refine CI (BY (ds:= [.list (T.map AL), .list (nl c)]) rfl hk) ?_;show Wp _ [P0,L1,C2,D3] _
  by_cases hlt:ks.length<Tr.prodN (Ev.lv L c)
  . refine ON (TL (tst.trans (by rw [AR (by omega)])) (DD (r:= .val (.bool false)) rfl ⟨false,_,rfl,iff_of_false (by simp) fun ev=> ?_⟩))
    have ⟨j,hj,hn⟩:∃j ∈ Tr.allT (Ev.lv L c),kN j ∉ ks:=by
     refine BL fun z=> ?_;have all:∀j ∈ Tr.allT (Ev.lv L c),kN j ∈ ks:=fun j hj=>BL fun y=>z ⟨j,hj,y⟩
     have nd:((Tr.allT (Ev.lv L c)).map kN).Nodup:=by
      unfold List.Nodup;rw [List.pairwise_map];exact (Ev.allT_nd _ _ rfl fun e he=>(XQ P.lev hc e he).1).imp fun h e=>h (aK e)
     have:=Ev.nd_len nd fun a ha=>by
      obtain ⟨j,hj,rfl⟩:=AY.mp ha;exact all j hj
     rw [AC,S8] at this
     omega
    obtain ⟨x,hx⟩:=L5 P.some_;have c1:1<=Ev.count T c (Ev.ch c x):=gO cn ((cn.mem _).mpr (AY.mpr ⟨x,hx,rfl⟩));have e:=ev _ _ (uT P hc hx) ((FA P.lev hc).mp hj);rw [O6 cn hn] at e
    omega
  . refine IU (tst.trans (by rw [AZ (by omega)])) ?_;have all:=k3 (by omega);have kne:ks ≠ []:=fun z=>by subst z;simp at hlt;omega
    let ns:=ks.map fun k=>((cnt (JK T c) k:Nat):Int)
    have nsne:ns ≠ []:=fun z=>kne (A73.mp z)
    have io:G0 ((unD D).map (·.2))=some ns:=by
     rw [W3,mE];exact Q9 ns
    obtain ⟨lo,hlo⟩:∃m,ns.min? = some m:=by
     cases h:ns.min? with
     | none=>exact absurd (QR.mp h) nsne
     | some m=>exact ⟨m,rfl⟩
    obtain ⟨hi,hhi⟩:∃m,ns.max? = some m:=by
     cases h:ns.max? with
     | none=>exact absurd (zT.mp h) nsne
     | some m=>exact ⟨m,rfl⟩
    have e1:(bX (mPk 3)) [P0,L1,C2,D3]=some (.val (.int lo)):=by
     show (G0 ((unD D).map (·.2))).bind (fun ns=>ns.min?.map fun m=>Sl.val (.int m))=_;rw [io,F2,hlo];rfl
    have e2:(dI (mPk 3)) [P0,L1,C2,D3]=some (.val (.int hi)):=by
     show (G0 ((unD D).map (·.2))).bind (fun ns=>ns.max?.map fun m=>Sl.val (.int m))=_;rw [io,F2,hhi];rfl
    refine DD ((B1 (op:=deq) e1 e2).trans (cB lo hi)) ⟨decide (lo=hi),_,rfl,?_⟩;obtain ⟨lm,ll⟩:=KG.mp hlo;obtain ⟨hm,hh⟩:=QQ.mp hhi;rw [MS]
    constructor
    . rintro rfl k k' hk1 hk2
      have v:∀k,Ev.OkT (Ev.lv L c) k->((Ev.count T c k:Nat):Int)=lo:=fun k ok=>by
       have m:((cnt (JK T c) (kN k):Nat):Int) ∈ ns:=AY.mpr ⟨kN k,all k ((FA P.lev hc).mpr ok),rfl⟩;have a1:=ll _ m;have a2:=hh _ m;rw [<-GM];omega
      have a1:=v k hk1;have a2:=v k' hk2;omega
    . intro ev;obtain ⟨q1,m1,rfl⟩:=AY.mp lm;obtain ⟨q2,m2,rfl⟩:=AY.mp hm;obtain ⟨j1,hj1,rfl⟩:=k1 q1 m1;obtain ⟨j2,hj2,rfl⟩:=k1 q2 m2;rw [GM,GM,ev j1 j2 ((FA P.lev hc).mp hj1) ((FA P.lev hc).mp hj2)]
 obtain ⟨o,h1,b,ρ',rfl,h2⟩:=key;exact ⟨b,JL (ρ:= [P0,L1,C2,none]) rfl rfl ⟨ρ',h1⟩,h2⟩
def lN(c:List Nat):PyData:= .list (nl c)
theorem g6{c:List Nat}{ρ:En}(h3:(ρ[3]?).join=some (.val (lN c))):(mIfE (QI (mPk 3)) (mBin dAdd (mBin dix (mPk 3) (mUn (iun fun i=> -i) (mK (.int 1)))) (mK (.int 1))) (mK (.int 0))) ρ=some (.val (.int (Ev.fst c:Nat))):=by
 have p3:mPk 3 ρ=some (.val (lN c)):=h3;rcases DN c with e | ⟨b,l,e⟩
 . subst e
   have tr:QI (mPk 3) ρ=some false:=by
    unfold QI;rw [p3];rfl
   unfold mIfE;rw [tr];rfl
 . rw [KH] at e
   subst e
   have tr:QI (mPk 3) ρ=some true:=by
    unfold QI;rw [p3];show some (!(nl (b ++ [l])).isEmpty)=_;rw [PZ]
    cases hb:nl b <;> rfl
   unfold mIfE;rw [tr];show (mBin dAdd (mBin dix (mPk 3) (mUn (iun fun i=> -i) (mK (.int 1)))) (mK (.int 1))) ρ=_
   have ix:(mBin dix (mPk 3) (mUn (iun fun i=> -i) (mK (.int 1)))) ρ=some (.val (.int (l:Int))):=by
    refine (B1 (op:=dix) (a:= .val (lN (b ++ [l]))) (b:= .val (.int (-1))) p3 rfl).trans ?_;show (atI (nl (b ++ [l])) (-1)).map Sl.val=_
    have:atI (nl (b ++ [l])) (-1)=some (.int (l:Int)):=by
     unfold atI ixN;rw [PZ,List.length_append];have h1:¬((0:Int) <= -1):=by decide
     rw [AA h1]
     have h2 : -(((nl b).length+(nl [l]).length:Nat):Int)<=(-1:Int):=by
      show -(((nl b).length+1:Nat):Int)<=(-1:Int);omega
     rw [AD h2]
     have h3:((-1:Int)+(((nl b).length+(nl [l]).length:Nat):Int)).toNat=(nl b).length:=by
      show ((-1:Int)+(((nl b).length+1:Nat):Int)).toNat=_;omega
     rw [h3,F2,MP (AF _),Nat.sub_self];rfl
    rw [this];rfl
   rw [Ev.fst_snoc];exact (B1 (op:=dAdd) ix (b:= .val (.int 1)) rfl).trans rfl
theorem oW(n:Nat)(c:List Nat):(Ev.nx n c).map lN=((List.range (n - Ev.fst c)).map fun i=>lN (c ++ [Ev.fst c+i])):=by
 unfold Ev.nx;rw [List.map_map];rfl
theorem kT{f:En->Option (List Sl)}{ρ:En}{i j:Nat}(h:f ρ=some [.val (.int i), .val (.int j)])(hi:i<=1000)(hj:j<=1000):OW f ρ=some (GZ (i:Int) (j - i)):=by
 have b:∀k:Nat,k<=1000->inB (k:Int):=fun k hk=>by
  constructor
  . have : -(2 ^ 62:Int)<=0:=by decide
    omega
  . have:(1000:Int)<2 ^ 62:=by decide
    omega
 unfold OW;rw [h];show (if inB (i:Int)/\inB (j:Int) then some (GZ (i:Int) ((j:Int) - (i:Int)).toNat) else none)=_;rw [if_pos ⟨b i hi,b j hj⟩];congr 2
 omega
theorem ZT{ls:List (List Nat)}{n:Nat}(hn:n<=6)(hc:∀c ∈ ls,c.length<=6/\Ev.Inc n c)(hl:ls.length<=46656):YH [.list (ls.map lN), .int (n:Int)]=some (.own ((ls.flatMap (Ev.nx n)).map lN)):=by
 have sz:300000<sizeLine:=by decide
 let L0:Option Sl:=some (.val (.list (ls.map lN)))
 let N1:Option Sl:=some (.val (.int n))
 refine EW (ρ:= [L0,N1,none,none,none]) rfl rfl ?_;unfold b_q21;refine CI PY ?_;refine IS (P:=fun ρ=>∃z3 z4,ρ = [L0,N1,some (.own ((ls.flatMap (Ev.nx n)).map lN)),z3,z4]) ?_ (by rintro ρ ⟨z3,z4,rfl⟩;exact DD rfl rfl);refine KO (en:=lN) (xs:=ls) (fun j ρ=>∃z3 z4,ρ = [L0,N1,some (.own (((ls.take j).flatMap (Ev.nx n)).map lN)),z3,z4]) rfl ⟨_,_,rfl⟩ ?_ (fun ρ h=>by rw [List.take_length] at h;exact h);rintro j c ρ hj ⟨z3,z4,rfl⟩;have tk:ls.take (j+1)=ls.take j ++ [c]:=by rw [List.take_add_one,hj];rfl
 obtain ⟨cl,ci⟩:=hc c (BB hj);have hf:Ev.fst c<=n:=Ev.fst_le ci.2
 let D:=((ls.take j).flatMap (Ev.nx n)).map lN
 let C3:Option Sl:=some (.val (lN c))
 let F4:Option Sl:=some (.val (.int (Ev.fst c:Nat)))
 refine ⟨_,rfl,?_⟩;refine CI (g6 (ρ:= [L0,N1,some (.own D),C3,z4]) rfl) ?_;show Wp _ [L0,N1,some (.own D),C3,F4] _
 have dl:D.length<=46656*6:=by
  show (((ls.take j).flatMap (Ev.nx n)).map lN).length<=_;rw [AC];have h1:=Ev.flat_le (n:=n) (Ev.nx_len n) (ls.take j);have h2:(ls.take j).length<=46656:=by rw [F0];omega
  exact BQ h1 (iJ h2 hn)
 refine YZ (j0 (ds:=D) (es:=(Ev.nx n c).map lN) (HL (ds:=GZ (Ev.fst c:Nat) (n - Ev.fst c)) (kT rfl (by omega) (by omega)) (by unfold GZ;rw [List.length_map,List.length_range];omega) ?_) rfl ?_) ⟨C3,F4,?_⟩
 . rw [oW];unfold GZ;refine EV (en:=fun i:Nat=> .int (((Ev.fst c:Nat):Int)+(i:Nat))) (g:=fun i=>lN (c ++ [Ev.fst c+i])) (xs:=List.range (n - Ev.fst c)) fun i hi=> ?_;refine LH (fg:=gVar 1) (ρ0:= [C3,none]) (d:= .int (((Ev.fst c:Nat):Int)+(i:Nat))) (ρ1:= [C3,some (.val (.int (((Ev.fst c:Nat):Int)+(i:Nat))))]) (r:= .own (nl (c ++ [Ev.fst c+i]))) rfl ?_;refine (B1 (op:=dAdd) (a:= .val (lN c)) rfl (iL (a:= .val (.int (((Ev.fst c:Nat):Int)+(i:Nat)))) rfl)).trans ((VR rfl rfl ?_).trans ?_)
   . rw [GC];show c.length+1<=sizeLine;omega
   . rw [PZ];rfl
 . have e:((Ev.nx n c).map lN).length=(Ev.nx n c).length:=AC ..;have:=Ev.nx_len n c;show D.length+((Ev.nx n c).map lN).length<=sizeLine;rw [e];omega
 . rw [tk,A72,G4];show _ = [L0,N1,some (.own (D++([c].flatMap (Ev.nx n)).map lN)),C3,F4];rw [JT,List.flatMap_nil,EA];rfl
theorem A87{n j:Nat}(hn:n<=6)(hj:j<=6):n ^ j<=46656:=BQ (Nat.pow_le_pow_left hn j) (BQ (HX (by decide) hj) (by decide))
theorem aP {T : List (List Nat)} {L : List Nat} {t : Nat} (P : PlanOk T L) (ht : t <= 6) : ∃ r : Sl, YX [.list (T.map AL), .list (nl L), .int (t : Int)] = some r /\
 ((r = .val .none/\∀j,1<=j->j<=t->∀c ∈ Ev.CB L.length j,Ev.EvC T L c)\/∃c j,r = .val (lN c)/\1<=j/\j<=t/\c ∈ Ev.CB L.length j/\¬Ev.EvC T L c):=by
 have hn:=P.few;have sz:300000<sizeLine:=by decide
 let P0:Option Sl:=some (.val (.list (T.map AL)))
 let L1:Option Sl:=some (.val (.list (nl L)))
 let T2:Option Sl:=some (.val (.int t))
 let n:=L.length
 let Z:Out->Prop:=fun o=>∃(r:Sl) (ρ':En),o = .rt r ρ'/\((r = .val .none/\∀j,1<=j->j<=t->∀c ∈ Ev.CB L.length j,Ev.EvC T L c)\/∃c j,r = .val (lN c)/\1<=j/\j<=t/\c ∈ Ev.CB L.length j/\¬Ev.EvC T L c)
 have key:Wp b_q30 [P0,L1,T2,none,none,none] Z:=by
  unfold b_q30;refine CI (r:= .own [.list []]) (iL (a:= .own []) PY) ?_;refine ON ?_;refine PJ (n:=t) (fun j ρ=>∃s3 z4 z5,ρ = [P0,L1,T2,some s3,z4,z5]/\(s3 = .own ((Ev.CB n j).map lN)\/s3 = .val (.list ((Ev.CB n j).map lN)))/\∀i,1<=i->i<=j->∀c ∈ Ev.CB n i,Ev.EvC T L c) (LP rfl (by omega)) ⟨_,_,_,rfl, .inl rfl,fun i h1 h2=>by omega⟩ ?_ ?_
  . rintro j ρ hj ⟨s3,z4,z5,rfl,hs,all⟩;refine ⟨_,rfl,?_⟩
    let J4:Option Sl:=some (.val (.int (j:Nat)))
    let O3:Option Sl:=some (.val (.list ((Ev.CB n j).map lN)))
    let N3:Option Sl:=some (.val (.list ((Ev.CB n (j+1)).map lN)))
    have fz:frz1 3 [P0,L1,T2,some s3,J4,z5] = [P0,L1,T2,O3,J4,z5]:=by rcases hs with rfl | rfl <;> rfl
    refine GI (ρ':= [P0,L1,T2,some (.own ((Ev.CB n (j+1)).map lN)),J4,z5]) ?_ ?_
    . rw [OE];show mAsg 3 _ (frz1 3 [P0,L1,T2,some s3,J4,z5])=_;rw [fz];refine M7 (ρ:= [P0,L1,T2,O3,J4,z5]) (BY (ds:= [.list ((Ev.CB n j).map lN), .int (n:Int)]) (BR (a:= .val (.list ((Ev.CB n j).map lN))) rfl (BR (a:= .val (.int (n:Int))) (as:= []) (DJ (ss:= [.val (.list (nl L))]) rfl ?_) rfl)) (ZT hn (fun c hc=> ?_) ?_))
      . show some (Sl.val (.int (((nl L).length:Nat):Int)))=_;rw [GC]
      . obtain ⟨h1,h2⟩:=Ev.mem_CB.mp hc;exact ⟨by omega,h2⟩
      . exact BQ (Ev.CB_len n j) (A87 hn (by omega))
    . refine HH ?_;show Wp _ [P0,L1,T2,N3,J4,z5] _;refine KO (en:=lN) (xs:=Ev.CB n (j+1)) (fun i ρ=>∃z5,ρ = [P0,L1,T2,N3,J4,z5]/\∀c ∈ (Ev.CB n (j+1)).take i,Ev.EvC T L c) rfl ⟨_,rfl,fun c hc=>by simp at hc⟩ ?_ ?_
      . rintro i c ρ hi ⟨z5,rfl,al⟩;have mc:=BB hi;obtain ⟨h1,h2⟩:=Ev.mem_CB.mp mc;obtain ⟨b,eb,hb⟩:=XJ P (c:=c) h2.2 (by omega)
        let C5:Option Sl:=some (.val (lN c))
        have tst:(mTest (mCall VA (mCons (mVar 0) (mCons (mVar 1) (mCons (mVar 5) mNil))))) [P0,L1,T2,N3,J4,C5]=some b:=EH (BY (ds:= [.list (T.map AL), .list (nl L), .list (nl c)]) rfl eb);refine ⟨_,rfl,?_⟩
        cases b with
        | true=>
         refine QD (KU tst) (KL ⟨C5,rfl,fun c' hc' => ?_⟩);rw [NP,hi] at hc'
         rcases AV.mp hc' with h | h
         . exact al c' h
         . rw [A5.mp h];exact hb.mp rfl
        | false=>
         exact TL (KU tst) (DD (r:= .val (lN c)) rfl ⟨_,_,rfl, .inr ⟨c,j+1,rfl,by omega,by omega,mc,fun z=>by have:=hb.mpr z;cases this⟩⟩)
      . rintro ρ ⟨z5,rfl,al⟩;rw [AB0] at al
        refine ⟨.val (.list ((Ev.CB n (j+1)).map lN)),J4,z5,rfl, .inr rfl,fun i h1 h2=> ?_⟩
        by_cases e:i=j+1
        . subst e;exact al
        . exact all i h1 (by omega)
  . rintro ρ ⟨s3,z4,z5,rfl,_,all⟩;exact DD (r:= .val .none) rfl ⟨_,_,rfl, .inl ⟨rfl,all⟩⟩
 obtain ⟨o,h1,r,ρ',rfl,h2⟩:=key;exact ⟨r,JL (ρ:= [P0,L1,T2,none,none,none]) rfl rfl ⟨ρ',h1⟩,h2⟩
theorem gY(e:Nat)(c:List Nat):inD true (.int (e:Int)) (nl c)=some (.val (.bool (decide (e ∉ c)))):=by
 unfold inD;rw [if_pos ⟨rfl,by unfold nl;simp [PyData.canLay0],by simp [PyData.depth]⟩];congr 3
 simp only [G6]
 have:((nl c).any fun d=>PyData.eqv d (.int (e:Int)))=decide (e ∈ c):=by
  induction c with
  | nil=>simp [nl]
  | cons m c ih=>
   show (PyData.eqv (.int (m:Int)) (.int (e:Int)) || (nl c).any _)=_;rw [ih]
   by_cases h:m=e
   . subst h;simp [PyData.eqv]
   . have h1:¬((m:Int)=(e:Int)):=by omega
     have h':e≠m:=fun z=>h z.symm;simp [PyData.eqv,h1,h']
 rw [this];simp
theorem SS{c:List Nat}{n t:Nat}(hn:n<=6)(hc:Ev.Inc n c)(hl:c.length<=t)(ht:t<=n):∃c',XD [.list (nl c), .int (n:Int), .int (t:Int)]=some (.own (nl c'))/\c' ∈ Ev.CB n t/\∀d ∈ c,d ∈ c':=by
 have sl:=EO
 let C0:Option Sl:=some (.val (.list (nl c)))
 let N1:Option Sl:=some (.val (.int n))
 let T2:Option Sl:=some (.val (.int t))
 let O:=(List.range n).filter fun d=>decide (d ∉ c)
 have clen:c.length<=n:=by omega
 have lc:(mLC (E6 [some 0,none]) (LG (mConsP (mPk 1) mNilP)) (gVar 1) (mTest (mBin (WL true) (mPk 1) (mPk 0))) (mVar 1)) [C0,N1,T2,none]=some (.own (nl O)):=by
  refine HL (ds:=GZ 0 n) (LP rfl (by omega)) (by unfold GZ;rw [List.length_map,List.length_range];omega) ?_
  have er:GZ 0 n=(List.range n).map enN:=by
   unfold GZ;refine List.map_congr_left fun i _=> ?_;show PyData.int (0+(i:Nat)) = .int (i:Nat);rw [Int.zero_add]
  rw [er];refine (HF (en:=enN) (g:=enN) (b:=fun d=>decide (d ∉ c)) fun d _=> ?_).trans rfl;exact V9 (fg:=gVar 1) (ρ0:= [C0,none]) (d:= .int (d:Nat)) (ρ1:= [C0,some (.val (.int (d:Nat)))]) (r:= .val (.int (d:Nat))) rfl (EH ((B1 (op:=WL true) (a:= .val (.int (d:Nat))) (b:= .val (.list (nl c))) rfl rfl).trans (gY d c))) rfl
 let k:=t - c.length
 let A:=c++O.take k
 have sle:(mSl (mPk 3) mNoPart (mPart (mBin dSub (mPk 2) (mCallP dLen (mConsP (mPk 0) mNilP))))) [C0,N1,T2,some (.own (nl O))]=some (.own (nl (O.take k))):=by
  have cut:NF (nl O) none (some ((k:Nat):Int))=nl (O.take k):=by
   unfold NF nl;rw [HT.sIx_none,HT.sIx_nat,List.length_map,List.drop_zero,Nat.sub_zero, <-List.map_take];congr 1
   by_cases h:k<=O.length
   . rw [QG h]
   . rw [Nat.min_eq_right (by omega),BX (AF _),BX (by omega)]
  rw [<-cut];have e:((k:Nat):Int)=(t:Int) - (((nl c).length:Nat):Int):=by rw [GC];show ((t - c.length:Nat):Int)=_;omega
  rw [e];rfl
 have an:A.Nodup:=NM.mpr ⟨hc.nodup,((Z6 (n:=n)).filter _).sublist (WQ _ _),fun a ha b hb=>by
  rintro rfl;have:=(C8.mp (G9 hb)).2;rw [MS] at this
  exact this ha⟩
 have ol:O.length=n - c.length:=by
  have h1:((List.range n).filter fun d=>decide (d ∈ c)).length=c.length:=by
   refine Nat.le_antisymm (Ev.nd_len ((Z6 (n:=n)).filter _) fun a ha=> ?_) (Ev.nd_len hc.nodup fun a ha=>C8.mpr ⟨BF.mpr (hc.2 a ha),AR ha⟩);have:=(C8.mp ha).2
   rwa [MS] at this
  have h2:∀l:List Nat,(l.filter fun d=>decide (d ∈ c)).length+(l.filter fun d=>decide (d ∉ c)).length=l.length:=by
   intro l
   induction l with
   | nil=>rfl
   | cons a l ih=>
    rw [II,II]
    by_cases h:a ∈ c
    . rw [AD (AR h),AA (by simp [h]),B7,B7];omega
    . rw [AA (by simp [h]),AD (AR h),B7,B7];omega
  have:=h2 (List.range n);rw [h1,NN] at this
  show ((List.range n).filter fun d=>decide (d ∉ c)).length=_;omega
 have al:A.length=t:=by
  show (c++O.take k).length=t;rw [BC,F0,ol];show c.length+min (t - c.length) (n - c.length)=t;omega
 let S:=srt (A.map fun d:Nat=>(d:Int))
 have sp:S.Perm (A.map fun d:Nat=>(d:Int)):=YC _
 let C':=S.map Int.toNat
 have sc:C'.map (fun d:Nat=>(d:Int))=S:=by
  show (S.map Int.toNat).map _=S;rw [FO];refine (BK fun z hz=> ?_).trans (RD _);obtain ⟨d,_,rfl⟩:=AY.mp (sp.mem_iff.mp hz);show ((((d:Int)).toNat:Nat):Int)=d;rw [DU]
 have cp:C'.Perm A:=by
  have:=sp.map Int.toNat;rw [FO] at this
  refine this.trans (eG ?_);exact (BK fun d _=>DU d).trans (RD _)
 refine ⟨C',EW (ρ:= [C0,N1,T2,none]) rfl rfl ?_,Ev.mem_CB.mpr ⟨cp.length_eq.trans al,?_,fun d hd=> ?_⟩,fun d hd=>cp.mem_iff.mpr (DY _ hd)⟩
 . unfold b_q16;refine CI lc ?_;show Wp _ [C0,N1,T2,some (.own (nl O))] _
   have ad:(mBin dAdd (mPk 0) (mSl (mPk 3) mNoPart (mPart (mBin dSub (mPk 2) (mCallP dLen (mConsP (mPk 0) mNilP)))))) [C0,N1,T2,some (.own (nl O))]=some (.own (nl A)):=by
    refine (B1 (op:=dAdd) (a:= .val (.list (nl c))) rfl sle).trans ((VR rfl rfl ?_).trans ?_)
    . rw [GC,GC];have:(O.take k).length<=n:=by rw [F0,ol];omega
      omega
    . rw [<-PZ]
   refine DD (DJ (ss:= [.own (nl A)]) (DZ (as:= []) ad rfl) ?_) rfl;show (G0 (nl A)).bind (fun ns=>if ns.length<64 then some (Sl.own ((srt ns).map .int)) else none)=_;have e:nl A=il (A.map fun d:Nat=>(d:Int)):=by unfold nl il;rw [List.map_map];rfl
   rw [e,Q9,Option.bind_some,List.length_map,if_pos (by omega)];show some (Sl.own (S.map .int))=some (Sl.own (nl C'));rw [<-sc];unfold nl;rw [List.map_map];rfl
 . have nd:C'.Nodup:=cp.nodup_iff.mpr an
   have le:C'.Pairwise (· <= ·):=by
    have this:S.Pairwise (· <= ·):=YV (A.map fun d:Nat=>(d:Int));rw [<-sc,NL] at this
    exact this.imp fun h=>by omega
   exact List.Pairwise.imp₂ (fun a b h1 h2=>Nat.lt_of_le_of_ne h1 h2) le nd
 . rcases AV.mp (cp.mem_iff.mp hd) with h | h
   . exact hc.2 d h
   . exact BF.mp (C8.mp (G9 h)).1
theorem Q8{cs:List (List Key)}{ks:List (List Key)}:∀(qs:List (List Key)),(∀k ∈ qs,k ∈ ks)->RU (mBin NT (mPk 1) (mPk 0)) (some (.val (.dict (mkD::FF cs ks)))) (qs.map tupD)=some (qs.map fun k=>((cnt cs k:Nat):Int))
 | [],_=>rfl
 | k::qs,h=>by
  have ih:=Q8 (cs:=cs) (ks:=ks) qs fun j hj=>h j (AK _ hj)
  have ev:(mBin NT (mPk 1) (mPk 0)) [some (.val (tupD k)),some (.val (.dict (mkD::FF cs ks)))]=some (.val (.int ((cnt cs k:Nat):Int))):=by
   refine (B1 (op:=NT) (a:= .val (.dict (mkD::FF cs ks))) (b:= .val (tupD k)) rfl rfl).trans ?_;show (ME (tupD k)).bind (fun k=>(HM (FF cs ks) k).map Sl.val)=_;rw [S5,F2,LE,AD (h k AQ)];rfl
  show ((mBin NT (mPk 1) (mPk 0) [some (.val (tupD k)),_]).bind S6).bind _=_;rw [ev];show (RU _ _ (qs.map tupD)).map _=_;rw [ih];rfl
theorem yC{ns:List Int}(p:Int->Bool)(h:∃m ∈ ns,p m=true):ns.findIdx p<ns.length:=WY h
theorem XW {cs ks : List (List Key)} (hne : ks ≠ []) (q : Int -> Int -> Bool) (hq : ∃ m ∈ ks.map fun k => ((cnt cs k : Nat) : Int), ∀ b ∈ ks.map fun k => ((cnt cs k : Nat) : Int), q m b = true) :
 ∃k ∈ ks,(ks.map tupD)[(ks.map fun k=>((cnt cs k:Nat):Int)).findIdx fun m=>(ks.map fun k=>((cnt cs k:Nat):Int)).all fun b=>q m b]? = some (tupD k)/\∀j ∈ ks,q ((cnt cs k:Nat):Int) ((cnt cs j:Nat):Int)=true:=by
 let ns:=ks.map fun k=>((cnt cs k:Nat):Int)
 obtain ⟨m,hm,hb⟩:=hq;have lt:ns.findIdx (fun m=>ns.all fun b=>q m b)<ns.length:=yC _ ⟨m,hm,F1.mpr hb⟩;have pr:=A00 (p:=fun m=>ns.all fun b=>q m b) (w:=lt);have lk:ns.findIdx (fun m=>ns.all fun b=>q m b)<ks.length:=by have:ns.length=ks.length:=AC ..;omega
 refine ⟨ks[ns.findIdx fun m=>ns.all fun b=>q m b],F3 lk,?_,fun j hj=> ?_⟩
 . rw [AX,AB lk];rfl
 . have e:ns[ns.findIdx fun m=>ns.all fun b=>q m b]=((cnt cs ks[ns.findIdx fun m=>ns.all fun b=>q m b]:Nat):Int):=List.getElem_map ..;rw [e] at pr
   exact F1.mp pr _ (AY.mpr ⟨j,hj,rfl⟩)
theorem ZM:∀ {ns:List Int},ns ≠ []->∃m ∈ ns,∀b ∈ ns,decide (b<=m)=true
 | ns,h=>by
  obtain ⟨m,hm⟩:∃m,ns.max? = some m:=by
   cases e:ns.max? with
   | none=>exact absurd (zT.mp e) h
   | some m=>exact ⟨m,rfl⟩
  obtain ⟨h1,h2⟩:=QQ.mp hm;exact ⟨m,h1,fun b hb=>AR (h2 b hb)⟩
theorem aS:∀ {ns:List Int},ns ≠ []->∃m ∈ ns,∀b ∈ ns,decide (m<=b)=true
 | ns,h=>by
  obtain ⟨m,hm⟩:∃m,ns.min? = some m:=by
   cases e:ns.min? with
   | none=>exact absurd (QR.mp e) h
   | some m=>exact ⟨m,rfl⟩
  obtain ⟨h1,h2⟩:=KG.mp hm;exact ⟨m,h1,fun b hb=>AR (h2 b hb)⟩
theorem Y8(cs ks:List (List Key)):(FF cs ks).map (·.1)=ks.map tupD:=by
 unfold FF;rw [List.map_map];rfl
theorem qK {cs ks : List (List Key)} (hne : ks ≠ []) {j : Nat} {fe : En -> Option Sl} {ρ : En} (h1 : fe ρ = some (.val (.dict (mkD :: FF cs ks)))) (h2 : (ρ[j]?).join = some (.val (.dict (mkD :: FF cs ks)))) :
 ∃k ∈ ks,(JJ NZ j (mBin NT (mPk 1) (mPk 0)) fe) ρ=some (.val (tupD k))/\∀i ∈ ks,cnt cs i<=cnt cs k:=by
 obtain ⟨k,hk,e,hb⟩:=XW (cs:=cs) hne (fun m b=>decide (b<=m)) (ZM fun z=>hne (List.map_eq_nil_iff.mp z));refine ⟨k,hk,?_,fun i hi=>by have:=of_decide_eq_true (hb i hi);omega⟩;have cp:TX j ρ=some (.val (.dict (mkD::FF cs ks))):=by unfold TX;rw [h2]
 unfold JJ;rw [h1,cp];show (RU _ _ ((FF cs ks).map (·.1))).bind (fun ns=>(((FF cs ks).map (·.1))[NZ ns]?).map Sl.val)=_;rw [Y8,Q8 ks fun _ h=>h,Option.bind_some];unfold NZ;rw [e];rfl
theorem rY {cs ks : List (List Key)} (hne : ks ≠ []) {j : Nat} {fe : En -> Option Sl} {ρ : En} (h1 : fe ρ = some (.val (.dict (mkD :: FF cs ks)))) (h2 : (ρ[j]?).join = some (.val (.dict (mkD :: FF cs ks)))) :
 ∃k ∈ ks,(JJ ID j (mBin NT (mPk 1) (mPk 0)) fe) ρ=some (.val (tupD k))/\∀i ∈ ks,cnt cs k<=cnt cs i:=by
 obtain ⟨k,hk,e,hb⟩:=XW (cs:=cs) hne (fun m b=>decide (m<=b)) (aS fun z=>hne (List.map_eq_nil_iff.mp z));refine ⟨k,hk,?_,fun i hi=>by have:=of_decide_eq_true (hb i hi);omega⟩;have cp:TX j ρ=some (.val (.dict (mkD::FF cs ks))):=by unfold TX;rw [h2]
 unfold JJ;rw [h1,cp];show (RU _ _ ((FF cs ks).map (·.1))).bind (fun ns=>(((FF cs ks).map (·.1))[ID ns]?).map Sl.val)=_;rw [Y8,Q8 ks fun _ h=>h,Option.bind_some];unfold ID;rw [e];rfl
theorem oC{L:List Nat}{x:Nat}(h:x<Tr.prodN L):Tr.tri L x ∈ Tr.allT L:=AY.mpr ⟨x,BF.mpr h,rfl⟩
theorem vH{L:List Nat}(hp:∀c ∈ L,0<c){m:Nat}(h:m<=Tr.prodN L):((List.range m).map (Tr.tri L)).Nodup:=by
 have nd:=Ev.allT_nd _ L rfl hp;unfold Tr.allT at nd
 have:(List.range m).Sublist (List.range (Tr.prodN L)):=List.range_sublist.mpr h;exact nd.sublist (this.map _)
theorem ZL{T:List (List Nat)}{L c:List Nat}{ks:List (List Key)}(P:PlanOk T L)(hc:∀d ∈ c,d<L.length)(hl:c.length<=900)(cn:Cn (JK T c) ks):∃k,SR [.dict (mkD::FF (JK T c) ks), .list (nl (Ev.lv L c))]=some (.val (AL k))/\k ∈ Tr.allT (Ev.lv L c)/\∀j ∈ Tr.allT (Ev.lv L c),Ev.count T c k<=Ev.count T c j:=by
 have sl:=EO;obtain ⟨k1,k2,k3⟩:=VW P hc cn
 let M:=Ev.lv L c
 have ML:∀e ∈ M,0<e/\e<=1000:=XQ P.lev hc;have Ml:M.length<=900:=by show (c.map _).length<=900;rw [AC];exact hl
 let cs:=JK T c
 let DV:PyData:= .dict (mkD::FF cs ks)
 let D0:Option Sl:=some (.val DV)
 let L1:Option Sl:=some (.val (.list (nl M)))
 have kl:ks.length<=900:=by
  have:=tJ cn;have e:(JK T c).length=T.length:=AC ..;have:=P.len;omega
 let m:=min (ks.length+1) (Tr.prodN M)
 have mm:(LG (mConsP (mCallP dMin2 (mConsP (mBin dAdd (mCallP dLenD (mConsP (mPk 0) mNilP)) (mK (.int 1))) (mConsP (mCall MC (mCons (mVar 1) mNil)) mNilP))) mNilP)) [D0,L1,none,none]=some (GZ 0 m):=by
  refine LP (j:=m) (DZ (a:= .val (.int (m:Int))) (as:= []) (DJ (ss:= [.val (.int ((ks.length:Int)+1)), .val (.int (Tr.prodN M:Nat))]) (DZ ((B1 (op:=dAdd) (a:= .val (.int (ks.length:Int))) (b:= .val (.int 1)) (DJ (DZ (a:= .val DV) rfl rfl) ?_) rfl).trans rfl) (DZ (as:= []) (BY (ds:= [.list (nl M)]) rfl (S7 fun e he=>(ML e he).2)) rfl)) ?_) rfl) (by show min _ _<=1000;omega)
  . show some (Sl.val (.int (((FF cs ks).length:Nat):Int)))=_;unfold FF;rw [List.length_map]
  . show some (Sl.val (.int (if ((Tr.prodN M:Nat):Int)<(ks.length:Int)+1 then ((Tr.prodN M:Nat):Int) else (ks.length:Int)+1)))=some (Sl.val (.int ((min (ks.length+1) (Tr.prodN M):Nat):Int)));congr 3
    by_cases h:((Tr.prodN M:Nat):Int)<(ks.length:Int)+1
    . rw [AD h];omega
    . rw [AA h];omega
 have key:Wp b_q27 [D0,L1,none,none] (fun o=>∃k ρ',o = .rt (.val (AL k)) ρ'/\k ∈ Tr.allT M/\∀j ∈ Tr.allT M,Ev.count T c k<=Ev.count T c j):=by
  unfold b_q27;refine ON ?_;refine PJ (n:=m) (fun i ρ=>∃z2 z3,ρ = [D0,L1,z2,z3]/\∀a,a<i->kN (Tr.tri M a) ∈ ks) mm ⟨_,_,rfl,fun a h=>absurd h (Nat.not_lt_zero _)⟩ ?_ ?_
  . rintro i ρ hi ⟨z2,z3,rfl,al⟩;refine ⟨_,rfl,?_⟩
    let I2:Option Sl:=some (.val (.int (i:Nat)))
    let t:=Tr.tri M i
    let T3:Option Sl:=some (.val (AL t))
    refine CI (r:= .val (AL t)) (BY (ds:= [.list (nl M), .int (i:Nat)]) rfl (UG ML Ml i)) ?_;show Wp _ [D0,L1,I2,T3] _
    have tst:(mTest (mBin (iT true) (mPk 3) (mPk 0))) [D0,L1,I2,T3]=some (!(HM (FF cs ks) (kN t)).isSome):=by
     refine EH ((B1 (op:=iT true) (a:= .val (AL t)) (b:= .val DV) rfl rfl).trans ?_);show (ME (AL t)).map (fun k=>Sl.val (.bool (xor true (HM (FF cs ks) k).isSome)))=_;rw [NX,GU];congr 3
     cases (HM (FF cs ks) (kN t)).isSome <;> rfl
    rw [LE] at tst
    by_cases h:kN t ∈ ks
    . rw [AD h] at tst
      refine QD tst (KL ⟨I2,T3,rfl,fun a ha=> ?_⟩)
      by_cases e:a=i
      . subst e;exact h
      . exact al a (by omega)
    . rw [AA h] at tst
      refine TL tst (DD (r:= .val (AL t)) rfl ⟨t,_,rfl,oC (by have:m<=Tr.prodN M:=AA6 _ _;omega),fun j _=> ?_⟩);rw [O6 cn h];exact CJ _
  . rintro ρ ⟨z2,z3,rfl,al⟩
    have pk:Tr.prodN M<=ks.length:=by
     refine BL fun z=> ?_;have e:m=ks.length+1:=QG (by omega)
     have nd:(((List.range m).map (Tr.tri M)).map kN).Nodup:=by
      unfold List.Nodup;rw [List.pairwise_map];exact (vH (fun c hc=>(ML c hc).1) (Nat.min_le_right _ _)).imp fun h q=>h (aK q)
     have:=Ev.nd_len nd fun a ha=>by
      obtain ⟨b,hb,rfl⟩:=AY.mp ha;obtain ⟨i,hi,rfl⟩:=AY.mp hb;exact al i (BF.mp hi)
     rw [AC,AC,NN] at this
     omega
    have all:=k3 pk;have ppos:0<Tr.prodN M:=Tr.prodN_pos _ fun e he=>(ML e he).1;have kne:ks ≠ []:=fun z=>by subst z;simp at pk;omega
    obtain ⟨k,hk,ev,hmin⟩:=rY (cs:=cs) (ks:=ks) kne (j:=0) (fe:=mPk 0) (ρ:= [D0,L1,z2,z3]) rfl rfl;obtain ⟨j,hj,rfl⟩:=k1 k hk;rw [WI] at ev
    refine DD ev ⟨j,_,rfl,hj,fun i hi=> ?_⟩;rw [<-GM, <-GM];exact hmin _ (all i hi)
 obtain ⟨o,h1,k,ρ',rfl,h2,h3⟩:=key;exact ⟨k,JL (ρ:= [D0,L1,none,none]) rfl rfl ⟨ρ',h1⟩,h2,h3⟩
def evenD:PyData:= .tuple [.str "even"]
def M9(c k k':List Nat):PyData:= .tuple [.str "uneven",lN c,AL k,AL k']
theorem evF{T:List (List Nat)}{L c c':List Nat}(P:PlanOk T L)(h1:Ev.Inc L.length c)(h2:Ev.Inc L.length c')(hs:∀d ∈ c,d ∈ c')(h:Ev.EvC T L c'):Ev.EvC T L c:=
 (Ev.evF_iff h1.nodup).mp (Ev.ev_sub hs (fun d hd x hx=>(P.ok x hx).2 d (h2.2 d hd)) ((Ev.evF_iff h2.nodup).mpr h))
theorem YA {T : List (List Nat)} {L : List Nat} {t : Nat} (P : PlanOk T L) (h1 : 1 <= t) (ht : t <= L.length) : ∃ d, YF [.list (T.map AL), .list (nl L), .int (t : Int)] = some (.val d) /\
 ((d=evenD/\∀c ∈ Ev.CB L.length t,Ev.EvC T L c)\/∃c k k',d=M9 c k k'/\c ∈ Ev.CB L.length t/\k ∈ Tr.allT (Ev.lv L c)/\k' ∈ Tr.allT (Ev.lv L c)/\Ev.count T c k≠Ev.count T c k'):=by
 have sl:=EO;have hn:=P.few
 let P0:Option Sl:=some (.val (.list (T.map AL)))
 let L1:Option Sl:=some (.val (.list (nl L)))
 let T2:Option Sl:=some (.val (.int t))
 obtain ⟨r,er,hr⟩:=aP P (t:=t) (by omega)
 have key:Wp b_q15 [P0,L1,T2,none,none,none,none] (fun o=>∃d ρ',o = .rt (.val d) ρ'/\((d=evenD/\∀c ∈ Ev.CB L.length t,Ev.EvC T L c)\/∃c k k',d=M9 c k k'/\c ∈ Ev.CB L.length t/\k ∈ Tr.allT (Ev.lv L c)/\k' ∈ Tr.allT (Ev.lv L c)/\Ev.count T c k≠Ev.count T c k')):=by
  unfold b_q15;refine CI (BY (ds:= [.list (T.map AL), .list (nl L), .int (t:Int)]) rfl er) ?_;rcases hr with ⟨rfl,all⟩ | ⟨c,j,rfl,j1,jt,mc,nev⟩
  . refine ON (TL rfl (DD (pM (a:= .val (.str "even")) rfl) ⟨evenD,_,rfl, .inl ⟨rfl,all t h1 (AF _)⟩⟩))
  . let S3:Option Sl:=some (.val (lN c))
    show Wp _ [P0,L1,T2,S3,none,none,none] _;refine IU rfl ?_;obtain ⟨cj,ci⟩:=Ev.mem_CB.mp mc;obtain ⟨c',ef,mc',hsub⟩:=SS hn ci (by omega) ht;obtain ⟨cj',ci'⟩:=Ev.mem_CB.mp mc'
    have lenL:(mCallP dLen (mConsP (mPk 1) mNilP)) [P0,L1,T2,S3,none,none,none]=some (.val (.int (L.length:Int))):=by
     refine DJ (ss:= [.val (.list (nl L))]) rfl ?_;show some (Sl.val (.int (((nl L).length:Nat):Int)))=_;rw [GC]
    refine GI (ρ':= [P0,L1,T2,S3,some (.own (nl c')),none,none]) ?_ ?_
    . rw [OE];exact M7 (ρ:= [P0,L1,T2,S3,none,none,none]) (BY (ds:= [.list (nl c), .int (L.length:Int), .int (t:Int)]) (BR (a:= .val (lN c)) rfl (BR lenL (BR (a:= .val (.int t)) (as:= []) rfl rfl))) ef)
    obtain ⟨ks,cn,hk⟩:=RH (c:=c') P.len (fun x hx=>(P.ok x hx).1) ci'.2 (by omega)
    let C4:Option Sl:=some (.val (lN c'))
    let cs:=JK T c'
    let D:=FF cs ks
    refine GI (ρ':= [P0,L1,T2,S3,C4,some (.dct D),none]) ?_ ?_
    . rw [OE];exact M7 (ρ:= [P0,L1,T2,S3,C4,none,none]) (BY (ds:= [.list (T.map AL), .list (nl c')]) rfl hk)
    let D5:Option Sl:=some (.val (.dict (mkD::D)))
    obtain ⟨k1,k2,k3⟩:=VW P ci'.2 cn
    have kne:ks ≠ []:=fun z=>by
     obtain ⟨x,hx⟩:=L5 P.some_;have:=(cn.mem (kN (Ev.ch c' x))).mpr (AY.mpr ⟨x,hx,rfl⟩);rw [z] at this
     cases this
    obtain ⟨q,hq,ev,hmax⟩:=qK (cs:=cs) (ks:=ks) kne (j:=5) (fe:=mPk 5) (ρ:= [P0,L1,T2,S3,C4,D5,none]) rfl rfl;obtain ⟨k,hkm,rfl⟩:=k1 q hq;rw [WI] at ev
    let M6:Option Sl:=some (.val (AL k))
    refine GI (ρ':= [P0,L1,T2,S3,C4,D5,M6]) ?_ ?_
    . unfold b7
      have fz:j6 5 [P0,L1,T2,S3,C4,some (.dct D),none]=some [P0,L1,T2,S3,C4,D5,none]:=by
       show (if XG 5 [P0,L1,T2,S3,C4,some (.dct D),none]=true then some _ else none)=_;rw [AD (show XG 5 [P0,L1,T2,S3,C4,some (.dct D),none]=true from rfl)];rfl
      rw [fz];exact M7 (ρ:= [P0,L1,T2,S3,C4,D5,none]) ev
    . refine HH (HH (HH ?_));show Wp _ [P0,L1,T2,S3,C4,D5,M6] _;obtain ⟨k',ek',hkm',hmin⟩:=ZL P ci'.2 (by omega) cn;have lvl:(mCall MG (mCons (mVar 1) (mCons (mVar 4) mNil))) [P0,L1,T2,S3,C4,D5,M6]=some (.own (nl (Ev.lv L c'))):=BY (ds:= [.list (nl L), .list (nl c')]) rfl (NV ci'.2 (by omega));have rar:(mCall SR (mCons (mVar 5) (mCons (mCall MG (mCons (mVar 1) (mCons (mVar 4) mNil))) mNil))) [P0,L1,T2,S3,C4,D5,M6]=some (.val (AL k')):=BY (ds:= [.dict (mkD::D), .list (nl (Ev.lv L c'))]) (BR (a:= .val (.dict (mkD::D))) rfl (BR (as:= []) lvl rfl)) ek'
      have tup:(mTup (mCons (mK (.str "uneven")) (mCons (mVar 4) (mCons (mVar 6) (mCons (mCall SR (mCons (mVar 5) (mCons (mCall MG (mCons (mVar 1) (mCons (mVar 4) mNil))) mNil))) mNil))))) [P0,L1,T2,S3,C4,D5,M6]=some (.val (M9 c' k k')):=by
       unfold mTup;rw [BR (a:= .val (.str "uneven")) rfl (BR (a:= .val (lN c')) rfl (BR (a:= .val (AL k)) rfl (BR rar (show mNil _=some [] from rfl))))];exact if_pos (e:=none) (show 4<=sizeLine by omega)
      refine DD tup ⟨M9 c' k k',_,rfl, .inr ⟨c',k,k',rfl,mc',hkm,hkm',fun e=> ?_⟩⟩;refine nev (evF P ci ci' hsub fun a b ha hb=> ?_)
      have mx:∀a ∈ Tr.allT (Ev.lv L c'),Ev.count T c' a<=Ev.count T c' k:=fun a ha=>by
       by_cases h:kN a ∈ ks
       . rw [<-GM, <-GM];exact hmax _ h
       . rw [O6 cn h];exact CJ _
      have a1:=(FA P.lev ci'.2).mpr ha;have b1:=(FA P.lev ci'.2).mpr hb;have h1:=mx a a1;have h2:=mx b b1;have h3:=hmin a a1;have h4:=hmin b b1;omega
 obtain ⟨o,h1,d,ρ',rfl,h2⟩:=key;exact ⟨d,JL (ρ:= [P0,L1,T2,none,none,none,none]) rfl rfl ⟨ρ',h1⟩,h2⟩
theorem A11(a:PyData):∀n:Nat,(List.replicate n [a]).flatten=List.replicate n a
 | 0=>rfl
 | n+1=>by rw [BW,EJ,A11 a n,BW];rfl
theorem jO{n:Nat}(r:Nat)(h1:1<=n)(h2:n<=900):dRepT (.val (.tuple [.int (r:Int)])) (.val (.int (n:Int)))=some (.val (AL (List.replicate n r))):=by
 show (if [PyData.int (r:Int)] ≠ []/\1<=(n:Int)/\(n:Int)<=1000 /\ [PyData.int (r:Int)].length*(n:Int).toNat<=1000 then some (Sl.val (.tuple (List.replicate (n:Int).toNat [PyData.int (r:Int)]).flatten)) else none)=_;rw [if_pos ⟨by simp,by omega,by omega,by simp;omega⟩,Int.toNat_natCast,A11];unfold AL nl;rw [List.map_replicate]
theorem RK{n:Nat}(h1:1<=n)(h2:n<=900):QJ [.int (n:Int)]=some (.val (AL (Sp.zero n))):=by
 refine EW (ρ:= [some (.val (.int n))]) rfl rfl ?_;unfold b_q24;exact DD ((B1 (op:=dRepT) (pM (a:= .val (.int 0)) rfl) (b:= .val (.int n)) rfl).trans (jO 0 h1 h2)) rfl
theorem bB(p f:Nat):∀u w:List Nat,Sp.put p u f w=(List.zip u w).map fun q=>(q.1+f*q.2) % p
 | [],_=>by simp [Sp.put]
 | _::_,[]=>by simp [Sp.put]
 | a::u,b::w=>by
  have:=bB p f u w;unfold Sp.put at this ⊢
  rw [vC,A83,B0,this]
theorem nN {p f : Nat} (hp : 0 < p) (p7 : p <= 7) (hf : f <= 7) {u w : List Nat} (hu : u.length <= 900) {jf jp ju jw : Nat} {ρ : En} (hs : E6 [some jf, some jp, none, none] ρ = [some (.val (.int (f : Int))), some (.val (.int (p : Int))), none, none]) (h1 : (ρ[ju]?).join = some (.val (AL u))) (h2 : (ρ[jw]?).join = some (.val (AL w))) :
 (mCallP dTuple (mConsP (mLC (E6 [some jf,some jp,none,none]) (K7 (mCons (mVar ju) (mCons (mVar jw) mNil))) (gTupD [(gVar 2),(gVar 3)]) mYes (mBin FG (mBin dAdd (mPk 2) (mBin dRep (mPk 0) (mPk 3))) (mPk 1))) mNilP)) ρ=some (.val (AL (Sp.put p u f w))):=by
 have sl:=EO;have v1:mVar ju ρ=some (.val (AL u)):=by unfold mVar;rw [h1]
 have v2:mVar jw ρ=some (.val (AL w)):=by unfold mVar;rw [h2]
 have zi:K7 (mCons (mVar ju) (mCons (mVar jw) mNil)) ρ=some ((List.zip u w).map enP):=by
  unfold K7;rw [BR v1 (BR v2 (show mNil ρ=some [] from rfl))];show some (OA (nl u) (nl w))=_;rw [R0]
 have zl:((List.zip u w).map enP).length<sizeLine:=by
  rw [AC,LN];omega
 refine DJ (DZ (a:= .own (nl (Sp.put p u f w))) (as:= []) (HL zi zl ?_) rfl) rfl;rw [hs,bB];refine (EV (en:=enP) (g:=fun q=> .int (((q.1+f*q.2) % p:Nat):Int)) (xs:=List.zip u w) fun q hq=> ?_).trans (by simp [nl]);refine LH (fg:=gTupD [gVar 2,gVar 3]) (ρ0:= [some (.val (.int (f:Int))),some (.val (.int (p:Int))),none,none]) (d:=enP q) (ρ1:= [some (.val (.int (f:Int))),some (.val (.int (p:Int))),some (.val (.int (q.1:Nat))),some (.val (.int (q.2:Nat)))]) (r:= .val (.int (((q.1+f*q.2) % p:Nat):Int))) rfl ?_;refine (B1 (op:=FG) ((B1 (op:=dAdd) (a:= .val (.int (q.1:Nat))) rfl ((B1 (op:=dRep) (a:= .val (.int (f:Nat))) (b:= .val (.int (q.2:Nat))) rfl rfl).trans (O0 (cmL (by omega) (by omega))))).trans (show _=some (Sl.val (.int ((q.1:Int)+(f:Int)*(q.2:Int)))) from rfl)) (b:= .val (.int (p:Nat))) rfl).trans ((QV (by omega)).trans ?_);rw [HW _ (by omega), <-LL, <-Int.natCast_add];rfl
theorem pU{p f:Nat}(hp:0<p)(p7:p<=7)(hf:f<=7){u w:List Nat}(hu:u.length<=900):X5 [.int (p:Int),AL u, .int (f:Int),AL w]=some (.val (AL (Sp.put p u f w))):=by
 refine EW (ρ:= [some (.val (.int p)),some (.val (AL u)),some (.val (.int f)),some (.val (AL w))]) rfl rfl ?_;unfold b_q22;exact DD (nN (jf:=2) (jp:=0) (ju:=1) (jw:=3) hp p7 hf hu rfl rfl rfl) rfl
theorem aE(p:Nat)(F:List Nat)(f:Nat)(M:List (List Nat))(w:List Nat):Sp.mults p (F ++ [f]) M w=Sp.mults p F M w++M.map fun u=>Sp.put p u f w:=by
 unfold Sp.mults;rw [List.flatMap_append];simp
theorem g7(p:Nat)(F:List Nat)(M:List (List Nat))(w:List Nat):(Sp.mults p F M w).length=F.length*M.length:=by
 induction F with
 | nil=>simp [Sp.mults]
 | cons f F ih=>
  unfold Sp.mults at ih ⊢
  rw [JT,BC,ih,AC,B7,PV,WR]
theorem lI{p:Nat}(hp:0<p)(p7:p<=7){M:List (List Nat)}{F w:List Nat}(hM:∀u ∈ M,u.length<=900)(hF:∀f ∈ F,f<=7)(hl:M.length<=125)(hl2:F.length<=7):Y4 [.int (p:Int), .list (M.map AL), .list (nl F),AL w]=some (.own ((Sp.mults p F M w).map AL)):=by
 have sl:=EO
 let P0:Option Sl:=some (.val (.int p))
 let MV:Option Sl:=some (.val (.list (M.map AL)))
 let FV:Option Sl:=some (.val (.list (nl F)))
 let WV:Option Sl:=some (.val (AL w))
 refine EW (ρ:= [P0,MV,FV,WV,none,none]) rfl rfl ?_;unfold b_q23;refine CI PY ?_;refine IS (P:=fun ρ=>∃z,ρ = [P0,MV,FV,WV,some (.own ((Sp.mults p F M w).map AL)),z]) ?_ (by rintro ρ ⟨z,rfl⟩;exact DD rfl rfl);refine KO (en:=enN) (xs:=F) (fun k ρ=>∃z,ρ = [P0,MV,FV,WV,some (.own ((Sp.mults p (F.take k) M w).map AL)),z]) rfl ⟨_,rfl⟩ ?_ ?_
 . rintro k f ρ hk ⟨z,rfl⟩;have tk:F.take (k+1)=F.take k ++ [f]:=by rw [NP,hk];rfl
   have hkl:=(AS.mp hk).1;refine ⟨_,rfl,?_⟩;refine YZ (j0 (ds:=(Sp.mults p (F.take k) M w).map AL) (es:=(M.map fun u=>Sp.put p u f w).map AL) (HL (ds:=M.map AL) rfl (by rw [AC];omega) ?_) rfl ?_) ⟨some (.val (.int (f:Nat))),?_⟩
   . refine (EV (g:=fun u=>AL (Sp.put p u f w)) fun u hu=> ?_).trans (by rw [FO];rfl);exact LH (fg:=gVar 3) (ρ0:= [P0,some (.val (.int (f:Nat))),WV,none]) (d:=AL u) (r:= .val (AL (Sp.put p u f w))) rfl (BY (ds:= [.int (p:Int),AL u, .int (f:Int),AL w]) rfl (pU hp p7 (hF f (BB hk)) (hM u hu)))
   . rw [AC,g7,AC,AC,F0];have h1:min k F.length*M.length<=7*125:=iJ (by omega) hl;omega
   . rw [tk,aE,G4];rfl
 . rintro ρ ⟨z,rfl⟩;rw [BX (AF _)];exact ⟨z,rfl⟩
def cN(w:List Nat):List Int:=w.map fun n:Nat=>(n:Int)
def uN(w:List Int):List Nat:=w.map Int.toNat
theorem m8(w:List Nat):uN (cN w)=w:=by
 unfold uN cN;rw [List.map_map];exact (List.map_congr_left fun x _=>Int.toNat_natCast x).trans (List.map_id _)
theorem bF(w:List Nat):AL w=tI (cN w):=by
 unfold AL tI nl cN;rw [List.map_map];rfl
def OX(M:List (List Nat)):List (List Nat):=(RW (M.map cN)).map uN
theorem pY(M:List (List Nat)):(OX M).map cN=RW (M.map cN):=by
 unfold OX;rw [List.map_map];refine (List.map_congr_left fun x hx=> ?_).trans (List.map_id _);obtain ⟨w,_,rfl⟩:=List.mem_map.mp ((N9 _).mem_iff.mp hx);show cN (uN (cN w))=cN w;rw [m8]
theorem LC(M:List (List Nat)):(OX M).Perm M:=by
 have:=(N9 (M.map cN)).map uN;rw [FO] at this
 refine this.trans (eG ?_);exact (BK fun x _=>m8 x).trans (RD _)
theorem qP{M:List (List Nat)}(hM:∀w ∈ M,w ≠ [])(hl:M.length<128){s:Sl}(hs:s.dat = .list (M.map AL)):dSortT [s]=some (.own ((OX M).map AL)):=by
 have e1:M.map AL=(M.map cN).map tI:=by rw [FO];exact BK fun w _=>bF w
 have e2:(OX M).map AL=(RW (M.map cN)).map tI:=by
  rw [<-pY,FO];exact BK fun w _=>bF w
 unfold dSortT
 dsimp only
 rw [hs,e1];show ((OF ((M.map cN).map tI)).bind fun nss=>if nss.length<128 then some (Sl.own ((RW nss).map tI)) else none)=_;rw [TC fun ns hn=> ?_,F2,AC,AD hl,e2];obtain ⟨w,hw,rfl⟩:=AY.mp hn;intro e;exact hM w hw (by have:=KZ uN e;rwa [m8] at this)
abbrev Pr (p:Nat):Prop:=p=2\/p=3\/p=5\/p=7
theorem A36{p n:Nat}{w:List Nat}(h:Sp.Ok p n w)(n1:1<=n):w ≠ []:=fun e=>by
 have:=h.1;rw [e] at this
 simp at this
 omega
theorem fW(p n:Nat)(W:List (List Nat))(w:List Nat):Sp.spanM p n (W ++ [w])=Sp.stepM p (Sp.spanM p n W) w:=by
 unfold Sp.spanM;rw [List.foldl_append];rfl
theorem nE{p n:Nat}(hq:Pr p)(n1:1<=n)(n6:n<=6)(hpn:p ^ n<=125){W:List (List Nat)}(hW:∀w ∈ W,LJ p n w):SH [.int (p:Int), .int (n:Int), .list (W.map AL)]=some (.own ((OX (Sp.spanM p n W)).map AL)):=by
 have sl:=EO;have hp:0<p:=by omega
 have p7:p<=7:=by omega
 let P0:Option Sl:=some (.val (.int p))
 let N1:Option Sl:=some (.val (.int n))
 let WV:Option Sl:=some (.val (.list (W.map AL)))
 refine EW (ρ:= [P0,N1,WV,none,none]) rfl rfl ?_;unfold b_q28;refine CI (r:= .own [AL (Sp.zero n)]) (iL (a:= .val (AL (Sp.zero n))) (BY (ds:= [.int (n:Int)]) rfl (RK n1 (by omega)))) ?_
 have facts:∀k,Sp.Cl p n (Sp.spanM p n (W.take k))/\(Sp.spanM p n (W.take k)).Nodup/\(Sp.spanM p n (W.take k)).length<=125:=fun k=>by
  obtain ⟨a,b,_,_⟩:=Sp.span_take (n:=n) hq (W:=W.take k) fun w hw=>hW w (G9 hw);exact ⟨a,b,BQ (Sp.len_le b a.ok) hpn⟩
 refine IS (P:=fun ρ=>∃z,ρ = [P0,N1,WV,some (.own ((Sp.spanM p n W).map AL)),z]) ?_ ?_
 . refine KO (en:=AL) (xs:=W) (fun k ρ=>∃z,ρ = [P0,N1,WV,some (.own ((Sp.spanM p n (W.take k)).map AL)),z]) rfl ⟨_,rfl⟩ ?_ ?_
   . rintro k w ρ hk ⟨z,rfl⟩;have tk:W.take (k+1)=W.take k ++ [w]:=by rw [NP,hk];rfl
     obtain ⟨f1,f2,f3⟩:=facts k;rw [tk,fW];generalize Sp.spanM p n (W.take k)=M at f1 f2 f3
     have tn:(mTest (mBin (WL true) (mPk 4) (mPk 3))) [P0,N1,WV,some (.own (M.map AL)),some (.val (AL w))]=some (decide (w ∉ M)):=EH ((B1 (op:=WL true) (a:= .val (AL w)) (b:= .own (M.map AL)) rfl rfl).trans (gP w M));refine ⟨_,rfl,?_⟩
     by_cases hin:w ∈ M
     . refine QD (tn.trans (by rw [decide_eq_false (by simpa using hin)])) (KL ⟨some (.val (AL w)),?_⟩);have e:Sp.stepM p M w=M:=by unfold Sp.stepM;rw [if_pos hin]
       rw [e];rfl
     . refine TL (tn.trans (by rw [decide_eq_true hin])) (HH (Q1 (r:= .own ((Sp.stepM p M w).map AL)) ?_ ⟨some (.val (AL w)),rfl⟩));have e:Sp.stepM p M w=Sp.mults p (List.range p) M w:=by unfold Sp.stepM;rw [if_neg hin]
       rw [e]
       have lr:mLR (mPk 0) [P0,N1,WV,some (.val (.list (M.map AL))),some (.val (AL w))]=some (.own (nl (List.range p))):=by
        unfold mLR;show (if 0<=((p:Nat):Int)/\((p:Nat):Int)<=1000 then _ else _)=_;rw [if_pos ⟨by omega,by omega⟩,Int.toNat_natCast];rfl
       exact BY (ds:= [.int (p:Int), .list (M.map AL), .list (nl (List.range p)),AL w]) (BR (a:= .val (.int p)) rfl (BR (a:= .val (.list (M.map AL))) rfl (BR lr (BR (a:= .val (AL w)) (as:= []) rfl rfl)))) (lI hp p7 (fun u hu=>by rw [(f1.ok u hu).1];omega) (fun f hf=>by have:=BF.mp hf;omega) f3 (by rw [NN];exact p7))
   . rintro ρ ⟨z,rfl⟩;rw [BX (AF _)];exact ⟨z,rfl⟩
 . rintro ρ ⟨z,rfl⟩;obtain ⟨f1,f2,f3⟩:=facts W.length;rw [BX (AF _)] at f1 f2 f3
   exact DD (DJ (ss:= [.own ((Sp.spanM p n W).map AL)]) rfl (qP (fun w hw=>A36 (f1.ok w hw) n1) (by omega) rfl)) rfl
theorem oS{f g:En->Option Out}{ρ ρ':En}{r:Sl}{Z:Out->Prop}(h:f ρ=some (.rt r ρ'))(k:Z (.rt r ρ')):Wp (mSeq f g) ρ Z:=⟨.rt r ρ',by unfold mSeq;rw [h];rfl,k⟩
def pl(w:List Nat):Nat:=(w.filter fun r=>decide (r≠0)).length
theorem r6{w:List Nat}(hw:w.length<=900){ρ:En}(h:(ρ[0]?).join=some (.val (AL w))):(mCallP dLen (mConsP (mLC (E6 [none]) (CU (mVar 0)) (gVar 0) (mTest (mBin dne (mPk 0) (mK (.int 0)))) (mVar 0)) mNilP)) ρ=some (.val (.int ((pl w:Nat):Int))):=by
 have sl:=EO;have v0:mVar 0 ρ=some (.val (AL w)):=by unfold mVar;rw [h]
 have it:CU (mVar 0) ρ=some (nl w):=by unfold CU;rw [v0];rfl
 refine DJ (ss:= [.own (nl (w.filter fun r=>decide (r≠0)))]) (DZ (a:= .own (nl (w.filter fun r=>decide (r≠0)))) (as:= []) (HL it (by rw [GC];omega) ?_) rfl) ?_
 . refine HF (en:=enN) (g:=enN) (b:=fun r=>decide (r≠0)) (xs:=w) fun r _=> ?_;refine V9 (fg:=gVar 0) (ρ0:= [none]) (d:= .int (r:Nat)) (ρ1:= [some (.val (.int (r:Nat)))]) (r:= .val (.int (r:Nat))) rfl ((RR (i:=(r:Nat)) (j:=0) rfl rfl).trans ?_) rfl;congr 1
   by_cases h0:r=0
   . subst h0;rfl
   . rw [AZ (by omega),AR h0];rfl
 . show some (Sl.val (.int ((nl (w.filter fun r=>decide (r≠0))).length:Nat)))=_;rw [GC];rfl
theorem ZO{w:List Nat}(hw:w.length<=900):NQ [AL w]=some (.val (.int ((pl w:Nat):Int))):=by
 refine EW (ρ:= [some (.val (AL w))]) rfl rfl ?_;unfold b_q25;exact DD (r6 hw rfl) rfl
theorem vJ{fa fb:En->Option Sl}{ρ:En}{u w:List Nat}(ha:fa ρ=some (.val (AL u)))(hb:fb ρ=some (.val (AL w))):mTest (mBin dne fa fb) ρ=some (decide (u≠w)):=by
 refine EH ((B1 (op:=dne) ha hb).trans ?_);show (eqD (AL u) (AL w)).map _=_;have:=WN u;unfold eqD;rw [if_pos ⟨N8 u,N8 w,by omega⟩,W8];simp
theorem p8{M:List (List Nat)}(hM:∀w ∈ M,w.length<=900):VF NQ (M.map AL)=some (M.map fun w=>((pl w:Nat):Int)):=by
 induction M with
 | nil=>rfl
 | cons w M ih=>
  show (((NQ [AL w]).bind S6).bind fun k=>(VF NQ (M.map AL)).bind fun ks=>some (k::ks))=_;rw [ZO (hM w AQ),ih fun v hv=>hM v (AK _ hv)];rfl
theorem XU{ks:List Int}(h:ks ≠ []):∃(i:Nat) (m:Int),ID ks=i/\ks[i]? = some m/\∀b ∈ ks,m<=b:=by
 obtain ⟨m,hm⟩:∃m,ks.min? = some m:=by
  cases e:ks.min? with
  | none=>exact absurd (QR.mp e) h
  | some m=>exact ⟨m,rfl⟩
 obtain ⟨hm1,hm2⟩:=KG.mp hm;have hlt:ID ks<ks.length:=WY ⟨m,hm1,F1.mpr fun b hb=>AR (hm2 b hb)⟩;refine ⟨_,ks[ID ks],rfl,AB hlt,fun b hb=> ?_⟩;have:=A00 (p:=fun k=>ks.all fun m=>decide (k<=m)) (w:=hlt);exact AO (F1.mp this b hb)
def nz(n:Nat)(G:List (List Nat)):List (List Nat):=G.filter fun w=>decide (w≠Sp.zero n)
def jP(n:Nat)(G:List (List Nat))(d:PyData):Prop:=(nz n G = []/\d = .tuple [.str "none"])\/∃w,w ∈ nz n G/\(∀v ∈ nz n G,pl w<=pl v)/\d = .tuple [.str "least",AL w]
theorem fT{p n:Nat}(hq:Pr p)(n1:1<=n)(n6:n<=6)(hpn:p ^ n<=125){W:List (List Nat)}(hW:∀w ∈ W,LJ p n w):∃d,X6 [.int (p:Int), .int (n:Int), .list (W.map AL)]=some (.val d)/\jP n (OX (Sp.spanM p n W)) d:=by
 have sl:=EO;have hsp:=nE hq n1 n6 hpn hW;obtain ⟨cl,nd,_,_⟩:=Sp.span_take (n:=n) hq hW;have okG:∀x ∈ OX (Sp.spanM p n W),x.length=n:=fun x hx=>(cl.ok x ((LC _).mem_iff.mp hx)).1;have lenG:(OX (Sp.spanM p n W)).length<=125:=by rw [(LC _).length_eq];exact BQ (Sp.len_le nd cl.ok) hpn
 generalize OX (Sp.spanM p n W)=G at hsp okG lenG
 let P0:Option Sl:=some (.val (.int p))
 let N1:Option Sl:=some (.val (.int n))
 let WV:Option Sl:=some (.val (.list (W.map AL)))
 have okM:∀w ∈ nz n G,w.length<=900:=fun w hw=>by rw [okG w (C8.mp hw).1];omega
 have lc:(mLC (E6 [some 1,none]) (CU (mCall SH (mCons (mVar 0) (mCons (mVar 1) (mCons (mVar 2) mNil))))) (gVar 1) (mTest (mBin dne (mPk 1) (mCall QJ (mCons (mVar 0) mNil)))) (mVar 1)) [P0,N1,WV,none]=some (.own ((nz n G).map AL)):=by
  refine HL (ds:=G.map AL) ?_ (by rw [AC];omega) ?_
  . unfold CU;rw [BY (F:=SH) (f:=mCons (mVar 0) (mCons (mVar 1) (mCons (mVar 2) mNil))) (ds:= [.int (p:Int), .int (n:Int), .list (W.map AL)]) rfl hsp];rfl
  . refine HF (en:=AL) (g:=AL) (b:=fun w=>decide (w≠Sp.zero n)) fun w _=> ?_;exact V9 (fg:=gVar 1) (ρ0:= [N1,none]) (d:=AL w) (ρ1:= [N1,some (.val (AL w))]) (r:= .val (AL w)) rfl (vJ (u:=w) (w:=Sp.zero n) rfl (BY (ds:= [.int (n:Int)]) rfl (RK n1 (by omega)))) rfl
 have key:Wp b_q19 [P0,N1,WV,none] (fun o=>∃d ρ',o = .rt (.val d) ρ'/\jP n G d):=by
  unfold b_q19;refine CI lc ?_
  let M3:Option Sl:=some (.own ((nz n G).map AL))
  show Wp _ [P0,N1,WV,M3] _;have tr:bK (mPk 3) [P0,N1,WV,M3]=some (!((nz n G).map AL).isEmpty):=rfl
  by_cases hz:nz n G = []
  . exact oS (V3 (b:=true) ((KU tr).trans (by rw [hz];rfl)) (lB (r:= .val (.tuple [.str "none"])) (pM (a:= .val (.str "none")) rfl))) ⟨_,_,rfl, .inl ⟨hz,rfl⟩⟩
  . refine IU ((KU tr).trans (by cases e:nz n G with | nil=>exact absurd e hz | cons a b=>rfl)) ?_;have hk:=p8 okM;obtain ⟨i,m,e1,e2,e3⟩:=XU (ks:=(nz n G).map fun w=>((pl w:Nat):Int)) (fun c=>hz (A73.mp c));rw [AX] at e2
    obtain ⟨w,ew,rfl⟩:=AG.mp e2
    have mk:dH NQ (mPk 3) [P0,N1,WV,M3]=some (.val (AL w)):=by
     show ((VF NQ ((nz n G).map AL)).bind fun ks=>(((nz n G).map AL)[ID ks]?).map Sl.val)=_;rw [hk,F2,e1,AX,ew];rfl
    refine DD (r:= .val (.tuple [.str "least",AL w])) (zD (a:= .val (.str "least")) rfl mk) ⟨_,_,rfl, .inr ⟨w,BB ew,fun v hv=> ?_,rfl⟩⟩;have:=e3 _ (AY.mpr ⟨v,hv,rfl⟩);omega
 obtain ⟨o,h1,d,ρ',rfl,h2⟩:=key;exact ⟨d,JL (ρ:= [P0,N1,WV,none]) rfl rfl ⟨ρ',h1⟩,h2⟩
theorem xP{fa fb:En->Option Sl}{ρ:En}{u w:List Nat}(ha:fa ρ=some (.val (AL u)))(hb:fb ρ=some (.val (AL w))):mTest (mBin deq fa fb) ρ=some (decide (u=w)):=by
 refine EH ((B1 (op:=deq) ha hb).trans ?_);show (eqD (AL u) (AL w)).map _=_;have:=WN u;unfold eqD;rw [if_pos ⟨N8 u,N8 w,by omega⟩,W8];rfl
theorem YD{T:List (List Nat)}{c k:List Nat}{n:Nat}(hT:T.length<=900)(ht:∀x ∈ T,x.length=n)(hc:∀d ∈ c,d<n)(hl:c.length<=900):gW [.list (T.map AL),lN c,AL k]=some (.val (.int ((Ev.count T c k:Nat):Int))):=by
 have sl:=EO
 let T0:Option Sl:=some (.val (.list (T.map AL)))
 let C1:Option Sl:=some (.val (lN c))
 let K2:Option Sl:=some (.val (AL k))
 refine EW (ρ:= [T0,C1,K2]) rfl rfl ?_;unfold b_q3
 let F:=T.filter fun x=>decide (Ev.ch c x=k)
 refine DD (DJ (ss:= [.own (F.map AL)]) (DZ (a:= .own (F.map AL)) (as:= []) (HL (ds:=T.map AL) rfl (by rw [AC];omega) ?_) rfl) ?_) rfl
 . refine HF (en:=AL) (g:=AL) (b:=fun x=>decide (Ev.ch c x=k)) fun x hx=> ?_
   let X2:Option Sl:=some (.val (AL x))
   refine V9 (fg:=gVar 2) (ρ0:= [C1,K2,none]) (d:=AL x) (ρ1:= [C1,K2,X2]) (r:= .val (AL x)) rfl (xP (u:=Ev.ch c x) (w:=k) ?_ rfl) rfl;refine DJ (ss:= [.own (nl (Ev.ch c x))]) (DZ (a:= .own (nl (Ev.ch c x))) (as:= []) (HL (ds:=nl c) rfl (by rw [GC];omega) ((EV (en:=enN) (g:=fun d=> .int ((x.getD d 0:Nat):Int)) (xs:=c) fun d hd=> ?_).trans (by unfold Ev.ch nl;rw [List.map_map];rfl))) rfl) rfl;exact LH (fg:=gVar 1) (ρ0:= [X2,none]) (d:= .int (d:Nat)) (ρ1:= [X2,some (.val (.int (d:Nat)))]) (r:= .val (.int ((x.getD d 0:Nat):Int))) rfl ((B1 (op:=dix) (a:= .val (AL x)) (b:= .val (.int (d:Nat))) rfl rfl).trans (IV (.inr rfl) (VT (by rw [ht x hx];exact hc d hd))))
 . show some (Sl.val (.int ((F.map AL).length:Nat)))=_;rw [AC];rfl
theorem nL{p x:Nat}(h:x<p):(mAndV (mCall TW (mCons (mVar 1) mNil)) (mAndV (mBin dLe (mK (.int 0)) (mPk 1)) (mBin dLt (mPk 1) (mPk 0)))) [some (.val (.int (p:Int))),some (.val (.int (x:Int)))]=some (.val (.bool true)):=by
 refine bE (BY (ds:= [.int (x:Int)]) rfl (eQ _)) (bE ?_ ?_)
 . refine (B1 (op:=dLe) (a:= .val (.int 0)) (b:= .val (.int (x:Int))) rfl rfl).trans ?_;show some (Sl.val (.bool (decide ((0:Int)<=(x:Int)))))=_;rw [AR (by omega)]
 . refine (B1 (op:=dLt) (a:= .val (.int (x:Int))) (b:= .val (.int (p:Int))) rfl rfl).trans ?_;show some (Sl.val (.bool (decide ((x:Int)<(p:Int)))))=_;rw [AR (by omega)]
theorem cA{p:Nat}{k:List Nat}{P:Option Sl}(hP:P=some (.val (.int (p:Int))))(hk:∀r ∈ k,r<p):MF (elM (gVar 1) mYes (mAndV (mCall TW (mCons (mVar 1) mNil)) (mAndV (mBin dLe (mK (.int 0)) (mPk 1)) (mBin dLt (mPk 1) (mPk 0)))) [P,none]) (nl k)=some (k.map fun _=> .bool true):=by
 subst hP;exact EV (en:=enN) (xs:=k) fun r hr=>LH (fg:=gVar 1) (ρ0:= [some (.val (.int (p:Int))),none]) (d:= .int (r:Nat)) (ρ1:= [some (.val (.int (p:Int))),some (.val (.int (r:Nat)))]) (r:= .val (.bool true)) rfl (nL (hk r hr))
theorem NR{p t:Nat}{k:List Nat}(hl:k.length=t)(ht:t<=900)(hk:∀r ∈ k,r<p):Y3 [AL k, .int (p:Int), .int (t:Int)]=some (.val (.bool true)):=by
 have sl:=EO
 let K0:Option Sl:=some (.val (AL k))
 let P1:Option Sl:=some (.val (.int p))
 let T2:Option Sl:=some (.val (.int t))
 refine EW (ρ:= [K0,P1,T2]) rfl rfl ?_;unfold b_q1;refine IU (US (k:=false) (l:=false) rfl ((RR (i:=(((nl k).length:Nat):Int)) (j:=(t:Int)) rfl rfl).trans (by rw [GC,hl];simp))) ?_;exact DD (DJ (ss:= [.own (k.map fun _=>PyData.bool true)]) (DZ (a:= .own (k.map fun _=>PyData.bool true)) (as:= []) (HL (ds:=nl k) rfl (by rw [GC];omega) (cA rfl hk)) rfl) (SL _)) rfl
theorem xO{n p:Nat}{c k:List Nat}(hc:∀d ∈ c,d<n)(h:Ev.OkT (Ev.lv (List.replicate n p) c) k):k.length=c.length/\∀r ∈ k,r<p:=by
 have hl:(Ev.lv (List.replicate n p) c).length=c.length:=by unfold Ev.lv;rw [List.length_map]
 refine ⟨by rw [h.1,hl],fun r hr=> ?_⟩;obtain ⟨i,hi,rfl⟩:=HV.mp hr;have hi':i<c.length:=by rw [<-hl, <-h.1];exact hi
 have:=h.2 i (by rw [hl];exact hi');rw [List.getD,AB hi] at this
 unfold Ev.lv at this
 rw [List.getD,AX,AB hi'] at this
 have e:(List.replicate n p).getD c[i] 0=p:=by
  rw [List.getD,ED,AD (hc _ (F3 hi'))];rfl
 have h2:k[i]<(List.replicate n p).getD c[i] 0:=this
 rwa [e] at h2
theorem gF {T : List (List Nat)} {p n t : Nat} {c k k' : List Nat} (n6 : n <= 6) (hT : T.length <= 900) (ht : ∀ x ∈ T, x.length = n) (hc : c ∈ Ev.CB n t) (hk : k.length = t /\ ∀ r ∈ k, r < p) (hk' : k'.length = t /\ ∀ r ∈ k', r < p) (hne : Ev.count T c k ≠ Ev.count T c k') (tn : t <= n) :
 i0 [.int (p:Int), .int (n:Int), .int (t:Int), .list (T.map AL),M9 c k k']=some (.val (.bool true)):=by
 have sl:=EO;obtain ⟨cl,ci,cn⟩:=Ev.mem_CB.mp hc
 let P0:Option Sl:=some (.val (.int p))
 let N1:Option Sl:=some (.val (.int n))
 let T2:Option Sl:=some (.val (.int t))
 let X3:Option Sl:=some (.val (.list (T.map AL)))
 let U4:Option Sl:=some (.val (M9 c k k'))
 let C5:Option Sl:=some (.val (lN c))
 refine EW (ρ:= [P0,N1,T2,X3,U4,none]) rfl rfl ?_;unfold b_q6;have t1:mTest (mBin dne (mBin dix (mPk 4) (mK (.int 0))) (mK (.str "uneven"))) [P0,N1,T2,X3,U4,none]=some false:=aX (a:= .val (.str "uneven")) (b:= .val (.str "uneven")) rfl rfl rfl (by decide +kernel) (by decide +kernel);refine IU (US (k:=false) (l:=false) rfl (US (k:=false) (l:=false) ((RR (i:=4) (j:=4) rfl rfl).trans rfl) (US (k:=false) (l:=false) t1 rfl))) ?_;refine CI (r:= .val (lN c)) rfl ?_;show Wp _ [P0,N1,T2,X3,U4,C5] _
 have t2:(mTest (mCallP dAll (mConsP (mLC (E6 [some 1,none]) (CU (mVar 5)) (gVar 1) mYes (mAndV (mCall TW (mCons (mVar 1) mNil)) (mAndV (mBin dLe (mK (.int 0)) (mPk 1)) (mBin dLt (mPk 1) (mPk 0))))) mNilP))) [P0,N1,T2,X3,U4,C5]=some true:=
  EH (DJ (ss:= [.own (c.map fun _=>PyData.bool true)]) (DZ (a:= .own (c.map fun _=>PyData.bool true)) (as:= []) (HL (ds:=nl c) rfl (by rw [GC];omega) (cA (P:=N1) rfl cn)) rfl) (SL _))
 have t3:mTest (mBin dne (mCallP dLen (mConsP (mPk 5) mNilP)) (mPk 2)) [P0,N1,T2,X3,U4,C5]=some false:=(RR (i:=(((nl c).length:Nat):Int)) (j:=(t:Int)) rfl rfl).trans (by rw [GC,cl];simp);refine GI (ρ':= [P0,N1,T2,X3,U4,C5]) ?_ ?_
 . rw [OE];exact V3 (ρ:= [P0,N1,T2,X3,U4,C5]) (b:=false) (US (k:=false) (l:=false) t3 (KU t2)) rfl
 have rise:(mCallP dAll (mConsP (mLC (E6 [some 5,none]) (OW (mConsP (mK (.int 1)) (mConsP (mPk 2) mNilP))) (gVar 1) mYes (mBin dLt (mBin dix (mPk 0) (mBin dSub (mPk 1) (mK (.int 1)))) (mBin dix (mPk 0) (mPk 1)))) mNilP)) [P0,N1,T2,X3,U4,C5]=some (.val (.bool true)):=by
  refine DJ (ss:= [.own ((List.range (t - 1)).map fun _=>PyData.bool true)]) (DZ (a:= .own ((List.range (t - 1)).map fun _=>PyData.bool true)) (as:= []) (HL (ds:=GZ (1:Nat) (t - 1)) (kT (i:=1) (j:=t) rfl (by omega) (by omega)) (by unfold GZ;rw [List.length_map,List.length_range];omega) ?_) rfl) (SL _);unfold GZ;refine EV (en:=fun i:Nat=> .int (((1:Nat):Int)+(i:Nat))) (xs:=List.range (t - 1)) fun i hi=> ?_;have hi:=List.mem_range.mp hi;have e1:((1:Nat):Int)+(i:Nat)=((i+1:Nat):Int):=by omega
  let I1:Option Sl:=some (.val (.int ((i+1:Nat):Int)))
  rw [e1];refine LH (fg:=gVar 1) (ρ0:= [C5,none]) (d:= .int ((i+1:Nat):Int)) (ρ1:= [C5,I1]) (r:= .val (.bool true)) rfl ?_
  have g0:(mBin dix (mPk 0) (mBin dSub (mPk 1) (mK (.int 1)))) [C5,I1]=some (.val (.int ((c.getD i 0:Nat):Int))):=by
   refine (B1 (op:=dix) (a:= .val (lN c)) (b:= .val (.int ((i:Nat):Int))) rfl ?_).trans (IV (.inl rfl) (VT (by omega)));show some (Sl.val (.int (((i+1:Nat):Int) - 1)))=_;congr 3
   omega
  have g1:(mBin dix (mPk 0) (mPk 1)) [C5,I1]=some (.val (.int ((c.getD (i+1) 0:Nat):Int))):=(B1 (op:=dix) (a:= .val (lN c)) (b:= .val (.int ((i+1:Nat):Int))) rfl rfl).trans (IV (.inl rfl) (VT (by omega)));refine (B1 (op:=dLt) g0 g1).trans ?_;show some (Sl.val (.bool (decide (((c.getD i 0:Nat):Int)<((c.getD (i+1) 0:Nat):Int)))))=_
  have lt:c.getD i 0<c.getD (i+1) 0:=by
   have:=nS.mp ci i (i+1) (by omega) (by omega) (by omega);rw [List.getD,List.getD,AB (show i<c.length by omega),AB (show i+1<c.length by omega)];exact this
  rw [AR (by omega)]
 refine IU (KU (k:=true) (EH rise)) ?_;have q2:(mTest (mCall Y3 (mCons (mBin dix (mPk 4) (mK (.int 2))) (mCons (mVar 0) (mCons (mVar 2) mNil))))) [P0,N1,T2,X3,U4,C5]=some true:=EH (BY (ds:= [AL k, .int (p:Int), .int (t:Int)]) rfl (NR hk.1 (by omega) hk.2));have q3:(mTest (mCall Y3 (mCons (mBin dix (mPk 4) (mK (.int 3))) (mCons (mVar 0) (mCons (mVar 2) mNil))))) [P0,N1,T2,X3,U4,C5]=some true:=EH (BY (ds:= [AL k', .int (p:Int), .int (t:Int)]) rfl (NR hk'.1 (by omega) hk'.2));refine IU (US (k:=false) (l:=false) (KU q2) (KU q3)) (HH ?_);show Wp _ [P0,N1,T2,X3,U4,C5] _;have m2:=YD (k:=k) hT ht cn (by omega);have m3:=YD (k:=k') hT ht cn (by omega);refine DD (r:= .val (.bool true)) ((B1 (op:=dne) (BY (ds:= [.list (T.map AL),lN c,AL k]) rfl m2) (BY (ds:= [.list (T.map AL),lN c,AL k']) rfl m3)).trans ?_) rfl;show (eqD (.int ((Ev.count T c k:Nat):Int)) (.int ((Ev.count T c k':Nat):Int))).map _=_;rw [eqD_int];have:¬(((Ev.count T c k:Nat):Int)=((Ev.count T c k':Nat):Int)):=by omega
 simp [this]
theorem jR{p:Nat}(hp:0<p)(n:Nat)(w:List Nat):w ∈ Tr.allT (List.replicate n p)↔LJ p n w:=by
 rw [Ev.allT_mem _ _ _ rfl fun c hc=>by rw [(MR.mp hc).2];exact hp]
 have at_:∀i,i<n->(List.replicate n p).getD i 0=p:=fun i hi=>by
  rw [List.getD,ED,AD hi];rfl
 constructor
 . rintro ⟨h1,h2⟩;rw [C7] at h1 h2
   refine ⟨h1,fun r hr=> ?_⟩;obtain ⟨i,hi,rfl⟩:=HV.mp hr;have:=h2 i (by omega);rw [at_ i (by omega),List.getD,AB hi] at this
   exact this
 . rintro ⟨h1,h2⟩;refine ⟨by rw [h1,C7],fun i hi=> ?_⟩;rw [C7] at hi
   rw [at_ i hi,List.getD,AB (by omega)];exact h2 _ (F3 _)
def NB(p:Nat)(U:List (List Nat))(x0:List Nat):List Rule:=U.map fun u=>(u,QU u x0 % p)
def SV(p n:Nat)(U:List (List Nat))(x0:List Nat):List (List Nat):=(Tr.allT (List.replicate n p)).filter (Y6 p (NB p U x0))
theorem PF{p n:Nat}(hp:0<p)(U:List (List Nat))(x0:List Nat):Ew.CutOk p n U x0 (SV p n U x0):=by
 refine ⟨(Ev.allT_nd _ _ rfl fun c hc=>by rw [(List.mem_replicate.mp hc).2];exact hp).filter _,fun x=> ?_⟩;unfold SV Y6 NB;rw [List.mem_filter,jR hp,List.all_map,List.all_eq_true];refine and_congr Iff.rfl (forall_congr' fun u=>imp_congr Iff.rfl ?_);exact decide_eq_true_iff
theorem iV{n p d:Nat}(h:d<n):(List.replicate n p).getD d 0=p:=by
 rw [List.getD,ED,AD h];rfl
theorem xE{p n:Nat}(hp:2<=p)(p7:p<=7)(n6:n<=6)(hpn:p ^ n<=125){U:List (List Nat)}{x0:List Nat}(hx:LJ p n x0):PlanOk (SV p n U x0) (List.replicate n p):=by
 have C:=PF (n:=n) (show 0<p by omega) U x0;refine ⟨?_,vB ((C.mem x0).mpr ⟨hx,fun _ _=>rfl⟩),fun x hx=> ?_,fun c hc=> ?_,by rw [C7];exact n6⟩
 . have h1:=List.length_filter_le (Y6 p (NB p U x0)) (Tr.allT (List.replicate n p));rw [S8,S9] at h1
   unfold SV;omega
 . obtain ⟨h1,h2⟩:=((C.mem x).mp hx).1;refine ⟨by rw [h1,C7],fun i hi=> ?_⟩;rw [C7] at hi
   rw [iV hi,List.getD,AB (by omega)];exact h2 _ (F3 _)
 . rw [(MR.mp hc).2];omega
def sup(n:Nat)(w:List Nat):List Nat:=(List.range n).filter fun i=>decide (w.getD i 0≠0)
theorem bR:∀ {w:List Nat},(sup w.length w).length=pl w:=by
 intro w
 have gen:∀(w:List Nat),w=(List.range w.length).map fun i=>w.getD i 0:=fun w=>by
  refine WS fun i=> ?_
  by_cases hi:i<w.length
  . rw [AX,A68 hi,AB hi,GU,List.getD,AB hi];rfl
  . rw [EX (by omega),EX (by simp;omega)]
 unfold pl sup
 conv=>rhs;rw [gen w]
 rw [AB7,AC];rfl
theorem VV(n:Nat)(w:List Nat):Ev.Inc n (sup n w):=⟨(List.pairwise_lt_range (n:=n)).filter _,fun d hd=>BF.mp (C8.mp hd).1⟩
theorem d9{n i:Nat}{w:List Nat}(hi:i<n):i ∈ sup n w↔w.getD i 0≠0:=by
 unfold sup;rw [List.mem_filter,decide_eq_true_iff];exact ⟨fun h=>h.2,fun h=>⟨List.mem_range.mpr hi,h⟩⟩
def iN(n few:Nat)(G:List (List Nat)):Prop:=(nz n G = []/\few=n+1)\/∃w ∈ nz n G,(∀v ∈ nz n G,pl w<=pl v)/\few=pl w
theorem ZE{p n few t:Nat}(hq:Pr p){U:List (List Nat)}(hU:∀w ∈ U,LJ p n w){x0:List Nat}(hx:LJ p n x0)(hf:iN n few (OX (Sp.spanM p n U)))(htn:t<=n)(ht:t<few):∀c ∈ Ev.CB n t,Ev.EvC (SV p n U x0) (List.replicate n p) c:=fun c hc=>by
 have hp:0<p:=by omega
 obtain ⟨cl,ci⟩:=Ev.mem_CB.mp hc;refine (Ev.evF_iff ci.nodup).mp (Ew.evA hq hU (PF hp U x0) ci.2 fun w hw hwc=> ?_);refine BL fun hz=> ?_;have ow:Sp.Ok p n w:=(Sp.span_cl hq hU).ok w hw;have mw:w ∈ nz n (OX (Sp.spanM p n U)):=C8.mpr ⟨(LC _).mem_iff.mpr hw,AR hz⟩
 have le:pl w<=t:=by
  have e:(sup n w).length=pl w:=by have:=bR (w:=w);rwa [ow.1] at this
  rw [<-e, <-cl];refine Ev.nd_len (VV n w).nodup fun i hi=> ?_;have hin:=(VV n w).2 i hi;exact BL fun z=>(d9 hin).mp hi (hwc i hin z)
 rcases hf with ⟨h1,h2⟩ | ⟨v,_,h2,h3⟩
 . rw [h1] at mw;cases mw
 . have:=h2 w mw;omega
theorem Y7{p n few t:Nat}(hq:Pr p)(n6:n<=6){U:List (List Nat)}(hU:∀w ∈ U,LJ p n w){x0:List Nat}(hx:LJ p n x0)(hf:iN n few (OX (Sp.spanM p n U)))(htn:t<=n)(ht:few<=t):∃c ∈ Ev.CB n t,¬Ev.EvC (SV p n U x0) (List.replicate n p) c:=by
 have hp:0<p:=by omega
 rcases hf with ⟨_,h2⟩ | ⟨w,mw,_,h3⟩
 . omega
 . obtain ⟨m1,m2⟩:=C8.mp mw;have hw:=(LC _).mem_iff.mp m1;have hz:=AO m2;have ow:Sp.Ok p n w:=(Sp.span_cl hq hU).ok w hw;have e:(sup n w).length=pl w:=by have:=bR (w:=w);rwa [ow.1] at this
   obtain ⟨c,_,hc,hs⟩:=SS n6 (VV n w) (t:=t) (by omega) htn;obtain ⟨cl,ci⟩:=Ev.mem_CB.mp hc;refine ⟨c,hc,fun ev=>Ew.evB hq hU hx (PF hp U x0) ci.2 hw (fun i hi hic=> ?_) hz ((Ev.evF_iff ci.nodup).mpr ev)⟩;exact BL fun z=>hic (hs i ((d9 hi).mpr z))
theorem qM{p n:Nat}(hp:2<=p)(p7:p<=7)(n6:n<=6){w:List Nat}(hw:LJ p n w)(x:List Nat):fU [.int (p:Int),AL w,AL x]=some (.val (.int ((QU w x % p:Nat):Int))):=fF (by omega) (by rw [hw.1];omega) fun r hr=>by have:=hw.2 r hr;omega
theorem bY{a b:Str}{k:Bool}(h:PyData.eqv (.str a) (.str b)=k)(h1:(PyData.str a).canLay0=true:=by decide +kernel)(h2:(PyData.str b).canLay0=true:=by decide +kernel):deq (.val (.str a)) (.val (.str b))=some (.val (.bool k)):=by
 show (eqD (.str a) (.str b)).map _=_;unfold eqD;rw [if_pos ⟨h1,h2,by simp [PyData.depth]⟩,h];rfl
theorem gN {p n : Nat} (hq : Pr p) (n1 : 1 <= n) (n6 : n <= 6) (hpn : p ^ n <= 125) {U : List (List Nat)} (hU : ∀ w ∈ U, LJ p n w) (hl : U.length <= 900) (cl : Int) :
 lP [.int (p:Int), .int (n:Int), .list (U.map AL), .int cl]=some (.val (.bool true)):=by
 have sl:=EO;have hp:0<p:=by omega
 have p2:2<=p:=by omega
 have p7:p<=7:=by omega
 obtain ⟨x0,ex0,hx0⟩:=XE cl (k:=5) (by decide) p2 p7 n6
 let P0:Option Sl:=some (.val (.int p))
 let N1:Option Sl:=some (.val (.int n))
 let U2:Option Sl:=some (.val (.list (U.map AL)))
 let C3:Option Sl:=some (.val (.int cl))
 let X4:Option Sl:=some (.val (AL x0))
 let R:=NB p U x0
 let T:=SV p n U x0
 have PO:=xE p2 p7 n6 hpn (U:=U) hx0;have C:=PF (n:=n) hp U x0;have Tok:∀x ∈ T,x.length=n:=fun x hx=>((C.mem x).mp hx).1.1;refine EW (ρ:= [P0,N1,U2,C3,none,none,none,none,none,none]) rfl rfl ?_;unfold b_q5;refine CI (BY (ds:= [.int cl, .int (5:Nat), .int p, .int n]) rfl ex0) ?_
 let T5:Option Sl:=some (.val (.list (T.map AL)))
 let T5o:Option Sl:=some (.own (T.map AL))
 refine GI (ρ':= [P0,N1,U2,C3,X4,T5o,none,none,none,none]) ?_ ?_
 . rw [OE];refine M7 (ρ:= [P0,N1,U2,C3,X4,none,none,none,none,none]) (BY (ds:= [.int (p:Int), .int (n:Int), .list (R.map MK)]) ?_ ?_)
   . refine BR (a:= .val (.int p)) rfl (BR (a:= .val (.int n)) rfl (BR (a:= .own (R.map MK)) (as:= []) (HL (ds:=U.map AL) rfl (by rw [List.length_map];omega) ?_) rfl));refine (EV (en:=AL) (g:=fun u=>MK (u,QU u x0 % p)) (xs:=U) fun u hu=> ?_).trans (by unfold R NB;rw [List.map_map];rfl);exact LH (fg:=gVar 2) (ρ0:= [P0,X4,none]) (d:=AL u) (ρ1:= [P0,X4,some (.val (AL u))]) (r:= .val (MK (u,QU u x0 % p))) rfl (zD (a:= .val (AL u)) rfl (BY (ds:= [.int (p:Int),AL u,AL x0]) rfl (qM p2 p7 n6 (hU u hu) x0)))
   . refine sD p2 p7 n6 hpn (fun q hq=> ?_) (by unfold R NB;rw [List.length_map];omega);obtain ⟨u,hu,rfl⟩:=List.mem_map.mp hq;exact hU u hu
 have Tpos:0<T.length:=PO.some_;refine IU ((WH (i:=(((T.map AL).length:Nat):Int)) (j:=0) rfl rfl).trans (by rw [AZ (by rw [AC];omega)])) ?_;obtain ⟨d,ed,hd⟩:=fT hq n1 n6 hpn hU;refine CI (BY (ds:= [.int (p:Int), .int (n:Int), .list (U.map AL)]) rfl ed) ?_
 let D6:Option Sl:=some (.val d)
 refine CI (r:= .val (.int ((n+1:Nat):Int))) rfl ?_;show Wp _ [P0,N1,U2,C3,X4,T5o,D6,some (.val (.int ((n+1:Nat):Int))),none,none] _
 obtain ⟨few,hfew,step⟩:∃few,iN n few (OX (Sp.spanM p n U))/\(mIf (mTest (mBin deq (mBin dix (mPk 6) (mK (.int 0))) (mK (.str "least")))) (mAsg 7 (mCallP dLen (mConsP (mLC (E6 [none]) (CU (mBin dix (mPk 6) (mK (.int 1)))) (gVar 0) (mTest (mBin dne (mPk 0) (mK (.int 0)))) (mVar 0)) mNilP))) mNext) [P0,N1,U2,C3,X4,T5o,D6,some (.val (.int ((n+1:Nat):Int))),none,none]=some (.nx [P0,N1,U2,C3,X4,T5o,D6,some (.val (.int ((few:Nat):Int))),none,none]):=by
  rcases hd with ⟨h1,rfl⟩ | ⟨w,mw,hmin,rfl⟩
  . refine ⟨n+1, .inl ⟨h1,rfl⟩,V3 (b:=false) (EH ((B1 (op:=deq) (a:= .val (.str "none")) (b:= .val (.str "least")) rfl rfl).trans ?_)) rfl⟩;exact bY (by decide +kernel)
  . have okw : w.length <= 900 := by
     have h1:=(LC _).mem_iff.mp (C8.mp mw).1;rw [((Sp.span_cl hq hU).ok w h1).1];omega
    refine ⟨pl w, .inr ⟨w,mw,hmin,rfl⟩,V3 (b:=true) (EH ((B1 (op:=deq) (a:= .val (.str "least")) (b:= .val (.str "least")) rfl rfl).trans ?_)) ?_⟩
    . exact bY (by decide +kernel)
    . refine M7 (ρ:= [P0,N1,U2,C3,X4,T5o,_,some (.val (.int ((n+1:Nat):Int))),none,none]) ?_;have it:CU (mBin dix (mPk 6) (mK (.int 1))) [P0,N1,U2,C3,X4,T5o,some (.val (.tuple [.str "least",AL w])),some (.val (.int ((n+1:Nat):Int))),none,none]=some (nl w):=rfl;refine DJ (ss:= [.own (nl (w.filter fun r=>decide (r≠0)))]) (DZ (a:= .own (nl (w.filter fun r=>decide (r≠0)))) (as:= []) (HL it (by rw [GC];omega) ?_) rfl) ?_
      . refine HF (en:=enN) (g:=enN) (b:=fun r=>decide (r≠0)) (xs:=w) fun r _=> ?_;refine V9 (fg:=gVar 0) (ρ0:= [none]) (d:= .int (r:Nat)) (ρ1:= [some (.val (.int (r:Nat)))]) (r:= .val (.int (r:Nat))) rfl ((RR (i:=(r:Nat)) (j:=0) rfl rfl).trans ?_) rfl;congr 1
        by_cases h0:r=0
        . subst h0;rfl
        . rw [AZ (by omega),AR h0];rfl
      . show some (Sl.val (.int ((nl (w.filter fun r=>decide (r≠0))).length:Nat)))=_;rw [GC];rfl
 refine GI step ?_
 let F7:Option Sl:=some (.val (.int ((few:Nat):Int)))
 refine IS (P:=fun ρ=>∃s5 z8 z9,ρ = [P0,N1,U2,C3,X4,some s5,D6,F7,z8,z9]) ?_ (by rintro ρ ⟨s5,z8,z9,rfl⟩;exact DD (r:= .val (.bool true)) rfl rfl);have rg:∀z8 z9:Option Sl,(OW (mConsP (mK (.int 1)) (mConsP (mBin dAdd (mPk 1) (mK (.int 1))) mNilP))) [P0,N1,U2,C3,X4,T5o,D6,F7,z8,z9]=some (GZ (1:Nat) (n+1 - 1)):=fun z8 z9=>kT (i:=1) (j:=n+1) rfl (by omega) (by omega);refine dW (n:=n+1 - 1) (lo:=((1:Nat):Int)) (fun _ ρ=>∃s5 z8 z9,ρ = [P0,N1,U2,C3,X4,some s5,D6,F7,z8,z9]/\(s5 = .own (T.map AL)\/s5 = .val (.list (T.map AL)))) (rg _ _) ⟨_,_,_,rfl, .inl rfl⟩ ?_ (by rintro ρ ⟨s5,z8,z9,rfl,_⟩;exact ⟨s5,z8,z9,rfl⟩);rintro i ρ hi ⟨s5,z8,z9,rfl,hs5⟩
 let t:=i+1
 have et:((1:Nat):Int)+(i:Nat)=((t:Nat):Int):=by show _=((i+1:Nat):Int);omega
 rw [et]
 let T8:Option Sl:=some (.val (.int ((t:Nat):Int)))
 refine ⟨_,rfl,?_⟩;have t1:1<=t:=by show 1<=i+1;omega
 have tn:t<=n:=by show i+1<=n;omega
 obtain ⟨dd,ee,he⟩:=YA PO (t:=t) t1 (by rw [C7];exact tn);rw [C7] at he
 let L:=List.replicate n p
 let D9:Option Sl:=some (.val dd)
 have fz:frz1 5 [P0,N1,U2,C3,X4,some s5,D6,F7,T8,z9] = [P0,N1,U2,C3,X4,T5,D6,F7,T8,z9]:=by rcases hs5 with rfl | rfl <;> rfl
 refine GI (ρ':= [P0,N1,U2,C3,X4,T5,D6,F7,T8,D9]) ?_ ?_
 . rw [OE];show mAsg 9 _ (frz1 5 [P0,N1,U2,C3,X4,some s5,D6,F7,T8,z9])=_;rw [fz];refine M7 (ρ:= [P0,N1,U2,C3,X4,T5,D6,F7,T8,z9]) (BY (ds:= [.list (T.map AL), .list (nl L), .int (t:Int)]) (BR (a:= .val (.list (T.map AL))) rfl (BR (a:= .own (nl L)) (HL (ds:=GZ 0 n) (LP rfl (by omega)) (by unfold GZ;rw [List.length_map,List.length_range];omega) ?_) (BR (a:= .val (.int ((t:Nat):Int))) (as:= []) rfl rfl))) ee);unfold GZ;refine (EV (en:=fun j:Nat=> .int (0+(j:Nat))) (g:=fun _=> .int (p:Int)) (xs:=List.range n) fun j _=>LH (fg:=gVar 1) (ρ0:= [P0,none]) (d:= .int (0+(j:Nat))) (r:= .val (.int (p:Int))) rfl rfl).trans ?_;unfold nl L;rw [List.map_replicate,List.map_const',List.length_range]
 have tlt:mTest (mBin dLt (mPk 8) (mPk 7)) [P0,N1,U2,C3,X4,T5,D6,F7,T8,D9]=some (decide ((t:Int)<(few:Int))):=EH ((B1 (op:=dLt) (a:= .val (.int ((t:Nat):Int))) (b:= .val (.int ((few:Nat):Int))) rfl rfl).trans rfl);have tge:mTest (mBin dGe (mPk 8) (mPk 7)) [P0,N1,U2,C3,X4,T5,D6,F7,T8,D9]=some (decide ((few:Int)<=(t:Int))):=EH ((B1 (op:=dGe) (a:= .val (.int ((t:Nat):Int))) (b:= .val (.int ((few:Nat):Int))) rfl rfl).trans rfl)
 by_cases hlt:t<few
 . have ev:=ZE hq hU hx0 hfew tn hlt
   have hd:dd=evenD:=by
    rcases he with ⟨h,_⟩ | ⟨c,k,k',_,hc,hk,hk',hne⟩
    . exact h
    . exact absurd (ev c hc k k' ((FA PO.lev (by rw [C7];exact (Ev.mem_CB.mp hc).2.2)).mp hk) ((FA PO.lev (by rw [C7];exact (Ev.mem_CB.mp hc).2.2)).mp hk')) hne
   subst hd;have tne:mTest (mBin dne (mPk 9) (mTup (mCons (mK (.str "even")) mNil))) [P0,N1,U2,C3,X4,T5,D6,F7,T8,D9]=some false:=aX (a:= .val evenD) (b:= .val evenD) rfl (pM (a:= .val (.str "even")) rfl) rfl (by decide +kernel) (by decide +kernel);refine IU (W4 tlt tne |>.trans (by rw [iB])) (HH (HH ?_));show Wp _ [P0,N1,U2,C3,X4,T5,D6,F7,T8,D9] _;have ge0:decide ((few:Int)<=(t:Int))=false:=AZ (by omega)
   have tt:(mAnd (mTest (mBin dGe (mPk 8) (mPk 7))) (mNot (mTest (mCall i0 (mCons (mVar 0) (mCons (mVar 1) (mCons (mVar 8) (mCons (mVar 5) (mCons (mVar 9) mNil))))))))) [P0,N1,U2,C3,X4,T5,D6,F7,T8,D9]=some false:=by
    unfold mAnd;rw [tge,ge0];rfl
   exact QD tt (KL ⟨_,_,_,rfl, .inr rfl⟩)
 . obtain ⟨c0,hc0,nev⟩:=Y7 hq n6 hU hx0 hfew tn (by omega);have lt0:decide ((t:Int)<(few:Int))=false:=AZ (by omega)
   have tt:(mAnd (mTest (mBin dLt (mPk 8) (mPk 7))) (mTest (mBin dne (mPk 9) (mTup (mCons (mK (.str "even")) mNil))))) [P0,N1,U2,C3,X4,T5,D6,F7,T8,D9]=some false:=by
    unfold mAnd;rw [tlt,lt0];rfl
   refine IU tt (HH (HH ?_));show Wp _ [P0,N1,U2,C3,X4,T5,D6,F7,T8,D9] _;rcases he with ⟨_,h⟩ | ⟨c,k,k',rfl,hc,hk,hk',hne⟩
   . exact absurd (h c0 hc0) nev
   . obtain ⟨cl',ci⟩:=Ev.mem_CB.mp hc
     have ck:∀ {q:List Nat},q ∈ Tr.allT (Ev.lv L c)->q.length=t/\∀r ∈ q,r<p:=fun {q} hq'=>by
      have:=xO ci.2 ((FA PO.lev (by rw [C7];exact ci.2)).mp hq');rw [cl'] at this
      exact this
     have sh:=gF (p:=p) n6 PO.len Tok hc (ck hk) (ck hk') hne tn;exact QD (W4 tge (KU (k:=true) (EH (BY (ds:= [.int (p:Int), .int (n:Int), .int (t:Int), .list (T.map AL),M9 c k k']) rfl sh))) |>.trans (by rw [Bool.not_true,iB])) (KL ⟨_,_,_,rfl, .inr rfl⟩)
def GG(ns:List Int):List Int:=ns.take 30 ++ [0]
theorem ZP(ns:List Int):(GG ns).length<=31:=by simp [GG];omega
theorem ZN{ns:List Int}{ρ:En}(h:(ρ[0]?).join=some (.val (.list (ns.map .int)))):(mBin dAdd (mSl (mPk 0) mNoPart (mPart (mK (.int 30)))) (mLst (mCons (mK (.int 0)) mNil))) ρ=some (.own (il (GG ns))):=by
 have c1:(mSl (mPk 0) mNoPart (mPart (mK (.int 30)))) ρ=some (.own (il (ns.take 30))):=by
  have e:NF (ns.map PyData.int) none (some ((30:Nat):Int))=il (ns.take 30):=by
   unfold NF il;rw [HT.sIx_none,HT.sIx_nat,List.length_map,List.drop_zero,Nat.sub_zero, <-List.map_take];congr 1
   by_cases h:30<=ns.length
   . rw [QG h]
   . rw [Nat.min_eq_right (by omega),BX (AF _),BX (by omega)]
  rw [<-e];unfold mSl mPk;rw [h];rfl
 refine (B1 (op:=dAdd) c1 (iL (a:= .val (.int 0)) rfl)).trans ?_;refine (VR (xs:=il (ns.take 30)) (ys:= [.int 0]) rfl rfl ?_).trans ?_
 . rw [iY,F0];have:=EO;simp;omega
 . rw [GG,wL];rfl
theorem nJ(ns:List Int)(hns:ns.length<=63):u6 [.list (ns.map .int)]=some (.val (.bool true)):=by
 have sl:=EO
 let S:Option Sl:=some (.val (.list (ns.map .int)))
 have hlen:=ZP ns
 let CV:Option Sl:=some (.val (.list (il (GG ns))))
 refine EW (ρ:= [S,none,none,none,none,none,none]) rfl rfl ?_;unfold b_law;refine CI (ZN rfl) (CI (r:= .val (.int 0)) rfl ?_);refine IS (P:=fun _=>True) ?_ (fun ρ _=>DD (r:= .val (.bool true)) rfl rfl)
 refine mT (fun ρ=>∃(s1:Sl) (a:Nat) (z3 z4 z5 z6:Option Sl),ρ = [S,some s1,some (.val (.int (a:Nat))),z3,z4,z5,z6]/\(s1 = .own (il (GG ns))\/s1 = .val (.list (il (GG ns))))/\a<=1000)
  (fun ρ=>match ρ with | [_,_,some (.val (.int a)),_,_,_,_]=>(64 - a).toNat | _=>0) ⟨_,0,_,_,_,_,rfl, .inl rfl,by decide⟩ ?_
 rintro ρ ⟨s1,a,z3,z4,z5,z6,rfl,hs,ha⟩;have ds:s1.dat = .list (il (GG ns)):=by rcases hs with rfl | rfl <;> rfl
 have tst:(mTest (mBin dLt (mPk 2) (mCallP dLen (mConsP (mPk 1) mNilP)))) [S,some s1,some (.val (.int (a:Nat))),z3,z4,z5,z6]=some (decide ((a:Int)<((GG ns).length:Nat))):=by
  refine EH ((B1 (op:=dLt) (a:= .val (.int (a:Nat))) rfl (DJ (ss:= [s1]) rfl (r:= .val (.int (((GG ns).length:Nat):Int))) ?_)).trans rfl);rcases hs with rfl | rfl <;> exact KZ (fun n:Nat=>some (Sl.val (.int (n:Int)))) (iY _)
 by_cases hlt:a<(GG ns).length
 . right;refine ⟨tst.trans (by rw [AR (by omega)]),?_⟩;have gc:(GG ns)[a]? = some (GG ns)[a]:=AB hlt;generalize (GG ns)[a]=c at gc
   obtain ⟨p,n,m,W,em,hp,n1,n6,hpn,hm,hWl,hW⟩:=iP (cs:=GG ns) (by omega) hlt (most:=3) (by decide)
   let A2:Option Sl:=some (.val (.int (a:Nat)))
   let B2:Option Sl:=some (.val (.int ((a+1+m:Nat):Int)))
   let C3:Option Sl:=some (.val (.int c))
   let P4:Option Sl:=some (.val (.int p))
   let N5:Option Sl:=some (.val (.int n))
   let W6:Option Sl:=some (.val (.list (W.map AL)))
   refine CI (r:= .val (.int c)) ((B1 (op:=dix) (a:=s1) (b:= .val (.int (a:Nat))) rfl rfl).trans (IV (.inl ds) (by unfold il;rw [List.getElem?_map,gc];rfl))) ?_;have fz:frz1 1 [S,some s1,A2,C3,z4,z5,z6] = [S,CV,A2,C3,z4,z5,z6]:=by rcases hs with rfl | rfl <;> rfl
   refine GI (ρ':= [S,CV,B2,C3,P4,N5,W6]) ?_ ?_
   . rw [OE];show mAsgT _ _ (frz1 1 [S,some s1,A2,C3,z4,z5,z6])=_;rw [fz];exact dX (BY (ds:= [.list (il (GG ns)), .int (a:Nat), .int (3:Nat)]) rfl em) rfl
   have e3:(mBin EG (mPk 3) (mK (.int 3))) [S,CV,B2,C3,P4,N5,W6]=some (.val (.int (c.fdiv 3))):=(B1 (op:=EG) (a:= .val (.int c)) (b:= .val (.int 3)) rfl rfl).trans (NU (by decide) (by decide));have rr:=gN hp n1 n6 hpn hW hWl (c.fdiv 3);refine QD (KU (k:=true) (EH (BY (ds:= [.int (p:Int), .int (n:Int), .list (W.map AL), .int (c.fdiv 3)]) (BR (a:= .val (.int p)) rfl (BR (a:= .val (.int n)) rfl (BR (a:= .val (.list (W.map AL))) rfl (BR e3 rfl)))) rr))) (KL ⟨⟨.val (.list (il (GG ns))),a+1+m,_,_,_,_,rfl, .inr rfl,by omega⟩,?_⟩);show (64 - ((a+1+m:Nat):Int)).toNat<(64 - ((a:Nat):Int)).toNat;omega
 . left;exact ⟨tst.trans (by rw [AZ (by omega)]),trivial⟩
abbrev Na_ (K:PySem.W.Frag) (n:Str) (f:Addr):Prop:=PySem.W.nsIn K mainGlobals n=some (some (.ref f))
abbrev Nz_ (K:PySem.W.Frag) (n:Str):Prop:=PySem.W.nsIn K mainGlobals n=some none
abbrev Co_ (K:PySem.W.Frag) (c:Value) (n:Str):Prop:=PySem.W.codeIn K c n=true
abbrev Ke_ (K:PySem.W.Frag) (f:Addr):Prop:=PySem.W.keepIn K (.ref f)=true
abbrev Lo_ (K:PySem.W.Frag) (f:Addr) (oc:Value) (od:Option Addr) (n q:Str) (s:Stmt) (kV dc pm:Value) (an:Option Addr) (cd ct:Value) (sl:Array (Option Value)):Prop:=K.lookup f=some ⟨oc,od, .func (PySem.W.fnOf n q (KI s) (IB s) (B9 s) .none kV dc pm an cd ct),sl⟩
local macro_rules | `(tactic| walk_at "u1") => `(tactic| exact fun _ _ _ _ _ _ us hl => match us, hl with | [_], _ => rfl)
local macro_rules | `(tactic| walk_at "u2") => `(tactic| exact fun _ _ _ _ _ _ us hl => match us, hl with | [_, _], _ => rfl)
local macro_rules | `(tactic| walk_at "u3") => `(tactic| exact fun _ _ _ _ _ _ us hl => match us, hl with | [_, _, _], _ => rfl)
local macro_rules | `(tactic| walk_at "u4") => `(tactic| exact fun _ _ _ _ _ _ us hl => match us, hl with | [_, _, _, _], _ => rfl)
local macro_rules | `(tactic| walk_at "u5") => `(tactic| exact fun _ _ _ _ _ _ us hl => match us, hl with | [_, _, _, _, _], _ => rfl)
theorem all_mk {l : PySem.W.OpenLaw} {w : World} {K : PySem.W.Frag} {h : Heap} {mg : Str -> Option Value} {fa cl26 pl26 cl27 pl27 f1 f2 f3 f4 f5 f6 f7 f8 f9 f10 f11 f12 f13 f14 f15 f16 f17 f18 f19 f20 f21 f22 f23 f24 f25 f26 f27 f28 f29 f30 f31 f32 f33 : Addr} {co26 co27 oc1 kV1 dc1 pm1 cd1 ct1 oc2 kV2 dc2 pm2 cd2 ct2 oc3 kV3 dc3 pm3 cd3 ct3 oc4 kV4 dc4 pm4 cd4 ct4 oc5 kV5 dc5 pm5 cd5 ct5 oc6 kV6 dc6 pm6 cd6 ct6 oc7 kV7 dc7 pm7 cd7 ct7 oc8 kV8 dc8 pm8 cd8 ct8 oc9 kV9 dc9 pm9 cd9 ct9 oc10 kV10 dc10 pm10 cd10 ct10 oc11 kV11 dc11 pm11 cd11 ct11 oc12 kV12 dc12 pm12 cd12 ct12 oc13 kV13 dc13 pm13 cd13 ct13 oc14 kV14 dc14 pm14 cd14 ct14 oc15 kV15 dc15 pm15 cd15 ct15 oc16 kV16 dc16 pm16 cd16 ct16 oc17 kV17 dc17 pm17 cd17 ct17 oc18 kV18 dc18 pm18 cd18 ct18 oc19 kV19 dc19 pm19 cd19 ct19 oc20 kV20 dc20 pm20 cd20 ct20 oc21 kV21 dc21 pm21 cd21 ct21 oc22 kV22 dc22 pm22 cd22 ct22 oc23 kV23 dc23 pm23 cd23 ct23 oc24 kV24 dc24 pm24 cd24 ct24 oc25 kV25 dc25 pm25 cd25 ct25 oc26 kV26 dc26 pm26 ct26 oc27 kV27 dc27 pm27 ct27 oc28 kV28 dc28 pm28 cd28 ct28 oc29 kV29 dc29 pm29 cd29 ct29 oc30 kV30 dc30 pm30 cd30 ct30 oc31 kV31 dc31 pm31 cd31 ct31 oc32 kV32 dc32 pm32 cd32 ct32 oc33 kV33 dc33 pm33 cd33 ct33 : Value} {cod26 cod27 od1 an1 od2 an2 od3 an3 od4 an4 od5 an5 od6 an6 od7 an7 od8 an8 od9 an9 od10 an10 od11 an11 od12 an12 od13 an13 od14 an14 od15 an15 od16 an16 od17 an17 od18 an18 od19 an19 od20 an20 od21 an21 od22 an22 od23 an23 od24 an24 od25 an25 od26 an26 od27 an27 od28 an28 od29 an29 od30 an30 od31 an31 od32 an32 od33 an33 : Option Addr} {cv26 cv27 : Array Value} {csl26 csl27 sl1 sl2 sl3 sl4 sl5 sl6 sl7 sl8 sl9 sl10 sl11 sl12 sl13 sl14 sl15 sl16 sl17 sl18 sl19 sl20 sl21 sl22 sl23 sl24 sl25 sl26 sl27 sl28 sl29 sl30 sl31 sl32 sl33 : Array (Option Value)} (X : K.In h) (G : h.Ns mainGlobals mg) (hfa : mg "law" = some (.ref fa)) (hT : ∀ p ∈ (tbK ["rarest_choice", "even_to"] K).map (·.2), h.get? p = some (PySem.W.tabObj #[]))
 (a1:Na_ K "_law_size" f1)
 (l1:Lo_ K f1 oc1 od1 "_law_size" "_law_size" rS kV1 dc1 pm1 an1 cd1 ct1 sl1)
 (c1:Co_ K cd1 "_law_size")
 (k1:Ke_ K f1)
 (a2:Na_ K "_law_mixed" f2)
 (l2:Lo_ K f2 oc2 od2 "_law_mixed" "_law_mixed" sR kV2 dc2 pm2 an2 cd2 ct2 sl2)
 (c2:Co_ K cd2 "_law_mixed")
 (k2:Ke_ K f2)
 (a3:Na_ K "_law_word" f3)
 (l3:Lo_ K f3 oc3 od3 "_law_word" "_law_word" oF kV3 dc3 pm3 an3 cd3 ct3 sl3)
 (c3:Co_ K cd3 "_law_word")
 (k3:Ke_ K f3)
 (a4:Na_ K "_law_words" f4)
 (l4:Lo_ K f4 oc4 od4 "_law_words" "_law_words" cQ kV4 dc4 pm4 an4 cd4 ct4 sl4)
 (c4:Co_ K cd4 "_law_words")
 (k4:Ke_ K f4)
 (a5:Na_ K "_law_made" f5)
 (l5:Lo_ K f5 oc5 od5 "_law_made" "_law_made" qH kV5 dc5 pm5 an5 cd5 ct5 sl5)
 (c5:Co_ K cd5 "_law_made")
 (k5:Ke_ K f5)
 (a6:Na_ K "product_of" f6)
 (l6:Lo_ K f6 oc6 od6 "product_of" "product_of" b9 kV6 dc6 pm6 an6 cd6 ct6 sl6)
 (c6:Co_ K cd6 "product_of")
 (k6:Ke_ K f6)
 (a7:Na_ K "trial_at" f7)
 (l7:Lo_ K f7 oc7 od7 "trial_at" "trial_at" dC kV7 dc7 pm7 an7 cd7 ct7 sl7)
 (c7:Co_ K cd7 "trial_at")
 (k7:Ke_ K f7)
 (a8:Na_ K "all_trials" f8)
 (l8:Lo_ K f8 oc8 od8 "all_trials" "all_trials" dP kV8 dc8 pm8 an8 cd8 ct8 sl8)
 (c8:Co_ K cd8 "all_trials")
 (k8:Ke_ K f8)
 (a9:Na_ K "comes_to" f9)
 (l9:Lo_ K f9 oc9 od9 "comes_to" "comes_to" dD kV9 dc9 pm9 an9 cd9 ct9 sl9)
 (c9:Co_ K cd9 "comes_to")
 (k9:Ke_ K f9)
 (a10:Na_ K "keeps" f10)
 (l10:Lo_ K f10 oc10 od10 "keeps" "keeps" dJ kV10 dc10 pm10 an10 cd10 ct10 sl10)
 (c10:Co_ K cd10 "keeps")
 (k10:Ke_ K f10)
 (a11:Na_ K "cut" f11)
 (l11:Lo_ K f11 oc11 od11 "cut" "cut" d8 kV11 dc11 pm11 an11 cd11 ct11 sl11)
 (c11:Co_ K cd11 "cut")
 (k11:Ke_ K f11)
 (a12:Na_ K "_law_come" f12)
 (l12:Lo_ K f12 oc12 od12 "_law_come" "_law_come" rE kV12 dc12 pm12 an12 cd12 ct12 sl12)
 (c12:Co_ K cd12 "_law_come")
 (k12:Ke_ K f12)
 (a13:Na_ K "nought_word" f13)
 (l13:Lo_ K f13 oc13 od13 "nought_word" "nought_word" e7 kV13 dc13 pm13 an13 cd13 ct13 sl13)
 (c13:Co_ K cd13 "nought_word")
 (k13:Ke_ K f13)
 (a14:Na_ K "multiple_put_to" f14)
 (l14:Lo_ K f14 oc14 od14 "multiple_put_to" "multiple_put_to" dU kV14 dc14 pm14 an14 cd14 ct14 sl14)
 (c14:Co_ K cd14 "multiple_put_to")
 (k14:Ke_ K f14)
 (a15:Na_ K "multiples_put_to" f15)
 (l15:Lo_ K f15 oc15 od15 "multiples_put_to" "multiples_put_to" cM kV15 dc15 pm15 an15 cd15 ct15 sl15)
 (c15:Co_ K cd15 "multiples_put_to")
 (k15:Ke_ K f15)
 (a16:Na_ K "span" f16)
 (l16:Lo_ K f16 oc16 od16 "span" "span" dB kV16 dc16 pm16 an16 cd16 ct16 sl16)
 (c16:Co_ K cd16 "span")
 (k16:Ke_ K f16)
 (a17:Na_ K "places_of" f17)
 (l17:Lo_ K f17 oc17 od17 "places_of" "places_of" cD kV17 dc17 pm17 an17 cd17 ct17 sl17)
 (c17:Co_ K cd17 "places_of")
 (k17:Ke_ K f17)
 (a18:Na_ K "least_word" f18)
 (l18:Lo_ K f18 oc18 od18 "least_word" "least_word" bJ kV18 dc18 pm18 an18 cd18 ct18 sl18)
 (c18:Co_ K cd18 "least_word")
 (k18:Ke_ K f18)
 (a19:Na_ K "longer_lists" f19)
 (l19:Lo_ K f19 oc19 od19 "longer_lists" "longer_lists" dS kV19 dc19 pm19 an19 cd19 ct19 sl19)
 (c19:Co_ K cd19 "longer_lists")
 (k19:Ke_ K f19)
 (a20:Na_ K "choice_of" f20)
 (l20:Lo_ K f20 oc20 od20 "choice_of" "choice_of" bO kV20 dc20 pm20 an20 cd20 ct20 sl20)
 (c20:Co_ K cd20 "choice_of")
 (k20:Ke_ K f20)
 (a21:Na_ K "choice_counts" f21)
 (l21:Lo_ K f21 oc21 od21 "choice_counts" "choice_counts" dZ kV21 dc21 pm21 an21 cd21 ct21 sl21)
 (c21:Co_ K cd21 "choice_counts")
 (k21:Ke_ K f21)
 (a22:Na_ K "levels_in" f22)
 (l22:Lo_ K f22 oc22 od22 "levels_in" "levels_in" bW kV22 dc22 pm22 an22 cd22 ct22 sl22)
 (c22:Co_ K cd22 "levels_in")
 (k22:Ke_ K f22)
 (a23:Na_ K "is_even_in" f23)
 (l23:Lo_ K f23 oc23 od23 "is_even_in" "is_even_in" dR kV23 dc23 pm23 an23 cd23 ct23 sl23)
 (c23:Co_ K cd23 "is_even_in")
 (k23:Ke_ K f23)
 (a24:Na_ K "uneven_columns" f24)
 (l24:Lo_ K f24 oc24 od24 "uneven_columns" "uneven_columns" bM kV24 dc24 pm24 an24 cd24 ct24 sl24)
 (c24:Co_ K cd24 "uneven_columns")
 (k24:Ke_ K f24)
 (a25:Na_ K "filled_up" f25)
 (l25:Lo_ K f25 oc25 od25 "filled_up" "filled_up" cO kV25 dc25 pm25 an25 cd25 ct25 sl25)
 (c25:Co_ K cd25 "filled_up")
 (k25:Ke_ K f25)
 (a26:Na_ K "rarest_choice" f26)
 (l26:K.lookup f26=some ⟨oc26,od26, .func (PySem.W.fnOf "rarest_choice" "rarest_choice" (KI UB) (IB UB) (B9 UB) .none kV26 dc26 pm26 an26 (.ref cl26) ct26),sl26⟩)
 (u26:K.lookup cl26=some ⟨co26,cod26, .fields cv26,csl26⟩)
 (v26:cv26[11]? = some (.ref pl26))
 (c26:PySem.W.codeIn K (.ref cl26) "rarest_choice" = true)
 (k26:Ke_ K f26)
 (a27:Na_ K "even_to" f27)
 (l27:K.lookup f27=some ⟨oc27,od27, .func (PySem.W.fnOf "even_to" "even_to" (KI V4) (IB V4) (B9 V4) .none kV27 dc27 pm27 an27 (.ref cl27) ct27),sl27⟩)
 (u27:K.lookup cl27=some ⟨co27,cod27, .fields cv27,csl27⟩)
 (v27:cv27[11]? = some (.ref pl27))
 (c27:PySem.W.codeIn K (.ref cl27) "even_to" = true)
 (k27:Ke_ K f27)
 (a28:Na_ K "_law_whole" f28)
 (l28:Lo_ K f28 oc28 od28 "_law_whole" "_law_whole" sM kV28 dc28 pm28 an28 cd28 ct28 sl28)
 (c28:Co_ K cd28 "_law_whole")
 (k28:Ke_ K f28)
 (a29:Na_ K "_law_is_choice" f29)
 (l29:Lo_ K f29 oc29 od29 "_law_is_choice" "_law_is_choice" rT kV29 dc29 pm29 an29 cd29 ct29 sl29)
 (c29:Co_ K cd29 "_law_is_choice")
 (k29:Ke_ K f29)
 (a30:Na_ K "_law_many" f30)
 (l30:Lo_ K f30 oc30 od30 "_law_many" "_law_many" p9 kV30 dc30 pm30 an30 cd30 ct30 sl30)
 (c30:Co_ K cd30 "_law_many")
 (k30:Ke_ K f30)
 (a31:Na_ K "_law_shown" f31)
 (l31:Lo_ K f31 oc31 od31 "_law_shown" "_law_shown" pZ kV31 dc31 pm31 an31 cd31 ct31 sl31)
 (c31:Co_ K cd31 "_law_shown")
 (k31:Ke_ K f31)
 (a32:Na_ K "_law_right" f32)
 (l32:Lo_ K f32 oc32 od32 "_law_right" "_law_right" oN kV32 dc32 pm32 an32 cd32 ct32 sl32)
 (c32:Co_ K cd32 "_law_right")
 (k32:Ke_ K f32)
 (a33:Na_ K "law" f33)
 (l33:Lo_ K f33 oc33 od33 "law" "law" SM kV33 dc33 pm33 an33 cd33 ct33 sl33)
 (c33:Co_ K cd33 "law")
 (k33:Ke_ K f33)
 (z0:Nz_ K "all")
 (z1:Nz_ K "bool")
 (z2:Nz_ K "int")
 (z3:Nz_ K "isinstance")
 (z4:Nz_ K "len")
 (z5:Nz_ K "list")
 (z6:Nz_ K "max")
 (z7:Nz_ K "min")
 (z8:Nz_ K "range")
 (z9:Nz_ K "reversed")
 (z10:Nz_ K "sorted")
 (z11:Nz_ K "sum")
 (z12:Nz_ K "tuple")
 (z13:Nz_ K "zip")
 : (∃o,K.lookup mainGlobals=some o)/\∃fd:FuncData,(∀(s:Shared) (v:Value),BindsTo s fd ⟨[v],[]⟩ [("_law_script",v)])/\∀base:Heap,(CH K ((tbK ["rarest_choice","even_to"] K).map (·.2))).In base->base.Ns mainGlobals mg->(∀p ∈ tbK ["rarest_choice","even_to"] K,PySem.W.CodeHd base p.1 p.2)->BM base mg->FnOk l.prog w (CH K ((tbK ["rarest_choice","even_to"] K).map (·.2))) mg base CX0 7 fa fd ["_law_script"] (dN (CH K ((tbK ["rarest_choice","even_to"] K).map (·.2)))):=by
 have t26:=lA a26 l26 rfl u26 v26;have t27:=lA a27 l27 rfl u27 v27;have e:=hfa.symm.trans (B5 X G a33)
 cases e
 have F_q7:=CO X hT (DX (st:=rS) l1 c1 k1);have b_q7:=F_q7.binds (ps:= ["_law_cell"]) (by walk_at "u1");have F_q4:=CO X hT (DX (st:=sR) l2 c2 k2);have b_q4:=F_q4.binds (ps:= ["_law_cell","_law_k"]) (by walk_at "u2");have F_q9:=CO X hT (DX (st:=oF) l3 c3 k3);have b_q9:=F_q9.binds (ps:= ["_law_cell","_law_k","_law_p","_law_n"]) (by walk_at "u4");have F_q10:=CO X hT (DX (st:=cQ) l4 c4 k4);have b_q10:=F_q10.binds (ps:= ["_law_cells","_law_p","_law_n"]) (by walk_at "u3");have F_q2:=CO X hT (DX (st:=qH) l5 c5 k5);have b_q2:=F_q2.binds (ps:= ["_law_cells","_law_at","_law_most"]) (by walk_at "u3");have F_q26:=CO X hT (DX (st:=b9) l6 c6 k6);have b_q26:=F_q26.binds (ps:= ["numbers"]) (by walk_at "u1");have F_q29:=CO X hT (DX (st:=dC) l7 c7 k7);have b_q29:=F_q29.binds (ps:= ["levels","place"]) (by walk_at "u2");have F_q11:=CO X hT (DX (st:=dP) l8 c8 k8);have b_q11:=F_q11.binds (ps:= ["levels"]) (by walk_at "u1");have F_q14:=CO X hT (DX (st:=dD) l9 c9 k9);have b_q14:=F_q14.binds (ps:= ["p","word","trial"]) (by walk_at "u3");have F_q18:=CO X hT (DX (st:=dJ) l10 c10 k10);have b_q18:=F_q18.binds (ps:= ["p","rules","trial"]) (by walk_at "u3");have F_cut:=CO X hT (DX (st:=d8) l11 c11 k11);have b_cut:=F_cut.binds (ps:= ["p","n","rules"]) (by walk_at "u3");have F_q0:=CO X hT (DX (st:=rE) l12 c12 k12);have b_q0:=F_q0.binds (ps:= ["_law_p","_law_word_here","_law_trial"]) (by walk_at "u3");have F_q24:=CO X hT (DX (st:=e7) l13 c13 k13);have b_q24:=F_q24.binds (ps:= ["n"]) (by walk_at "u1");have F_q22:=CO X hT (DX (st:=dU) l14 c14 k14);have b_q22:=F_q22.binds (ps:= ["p","word","factor","other"]) (by walk_at "u4");have F_q23:=CO X hT (DX (st:=cM) l15 c15 k15);have b_q23:=F_q23.binds (ps:= ["p","words","factors","other"]) (by walk_at "u4");have F_q28:=CO X hT (DX (st:=dB) l16 c16 k16);have b_q28:=F_q28.binds (ps:= ["p","n","words"]) (by walk_at "u3");have F_q25:=CO X hT (DX (st:=cD) l17 c17 k17);have b_q25:=F_q25.binds (ps:= ["word"]) (by walk_at "u1");have F_q19:=CO X hT (DX (st:=bJ) l18 c18 k18);have b_q19:=F_q19.binds (ps:= ["p","n","words"]) (by walk_at "u3");have F_q21:=CO X hT (DX (st:=dS) l19 c19 k19);have b_q21:=F_q21.binds (ps:= ["lists","things"]) (by walk_at "u2");have F_q13:=CO X hT (DX (st:=bO) l20 c20 k20);have b_q13:=F_q13.binds (ps:= ["trial","columns"]) (by walk_at "u2");have F_q12:=CO X hT (DX (st:=dZ) l21 c21 k21);have b_q12:=F_q12.binds (ps:= ["plan","columns"]) (by walk_at "u2");have F_q20:=CO X hT (DX (st:=bW) l22 c22 k22);have b_q20:=F_q20.binds (ps:= ["levels","columns"]) (by walk_at "u2");have F_q17:=CO X hT (DX (st:=dR) l23 c23 k23);have b_q17:=F_q17.binds (ps:= ["plan","levels","columns"]) (by walk_at "u3");have F_q30:=CO X hT (DX (st:=bM) l24 c24 k24);have b_q30:=F_q30.binds (ps:= ["plan","levels","t"]) (by walk_at "u3")
 have F_q16:=CO X hT (DX (st:=cO) l25 c25 k25);have b_q16:=F_q16.binds (ps:= ["columns","things","t"]) (by walk_at "u3");have F_q27:=CO X hT (DX (st:=UB) l26 c26 k26);have b_q27:=F_q27.binds (ps:= ["counts","levels"]) (by walk_at "u2");have F_q15:=CO X hT (DX (st:=V4) l27 c27 k27);have b_q15:=F_q15.binds (ps:= ["plan","levels","t"]) (by walk_at "u3");have F_q8:=CO X hT (DX (st:=sM) l28 c28 k28);have b_q8:=F_q8.binds (ps:= ["_law_found"]) (by walk_at "u1");have F_q1:=CO X hT (DX (st:=rT) l29 c29 k29);have b_q1:=F_q1.binds (ps:= ["_law_found","_law_p","_law_t"]) (by walk_at "u3");have F_q3:=CO X hT (DX (st:=p9) l30 c30 k30);have b_q3:=F_q3.binds (ps:= ["_law_trials","_law_columns","_law_here"]) (by walk_at "u3");have F_q6:=CO X hT (DX (st:=pZ) l31 c31 k31);have b_q6:=F_q6.binds (ps:= ["_law_p","_law_n","_law_t","_law_trials","_law_told"]) (by walk_at "u5");have F_q5:=CO X hT (DX (st:=oN) l32 c32 k32);have b_q5:=F_q5.binds (ps:= ["_law_p","_law_n","_law_words_here","_law_cell"]) (by walk_at "u4");have F_law:=CO X hT (DX (st:=SM) l33 c33 k33);have b_law:=F_law.binds (ps:= ["_law_script"]) (by walk_at "u1");have B:Bl mg:=⟨C9 X G z0,C9 X G z1,C9 X G z2,C9 X G z3,C9 X G z4,C9 X G z5,C9 X G z6,C9 X G z7,C9 X G z8,C9 X G z9,C9 X G z10,C9 X G z11,C9 X G z12,C9 X G z13⟩;refine ⟨oX a33,PySem.W.fnOf "law" "law" (KI SM) (IB SM) (B9 SM) .none kV33 dc33 pm33 an33 cd33 ct33,fun s v=> .of_eq rfl,fun base _ _ hC bm=> ?_⟩;have D_q7:Def l.prog w (CH K ((tbK ["rarest_choice","even_to"] K).map (·.2))) mg base 1 "_law_size" ["_law_cell"] (spD (CH K ((tbK ["rarest_choice","even_to"] K).map (·.2))) j4):=⟨_,_,A06 B F_q7,B5 X G a1,F_q7.kp,b_q7⟩;have D_q4:Def l.prog w (CH K ((tbK ["rarest_choice","even_to"] K).map (·.2))) mg base 1 "_law_mixed" ["_law_cell","_law_k"] (spD (CH K ((tbK ["rarest_choice","even_to"] K).map (·.2))) hJ):=⟨_,_,A25 B F_q4,B5 X G a2,F_q4.kp,b_q4⟩;have D_q9:Def l.prog w (CH K ((tbK ["rarest_choice","even_to"] K).map (·.2))) mg base 2 "_law_word" ["_law_cell","_law_k","_law_p","_law_n"] (spD (CH K ((tbK ["rarest_choice","even_to"] K).map (·.2))) aM):=⟨_,_,A24 B D_q4 F_q9,B5 X G a3,F_q9.kp,b_q9⟩;have D_q10:Def l.prog w (CH K ((tbK ["rarest_choice","even_to"] K).map (·.2))) mg base 3 "_law_words" ["_law_cells","_law_p","_law_n"] (spD (CH K ((tbK ["rarest_choice","even_to"] K).map (·.2))) Y5):=⟨_,_,w5 B D_q9 F_q10,B5 X G a4,F_q10.kp,b_q10⟩;have D_q2:Def l.prog w (CH K ((tbK ["rarest_choice","even_to"] K).map (·.2))) mg base 4 "_law_made" ["_law_cells","_law_at","_law_most"] (spD (CH K ((tbK ["rarest_choice","even_to"] K).map (·.2))) lH):=⟨_,_,A26 B D_q7 D_q10 F_q2,B5 X G a5,F_q2.kp,b_q2⟩
 have D_q26:Def l.prog w (CH K ((tbK ["rarest_choice","even_to"] K).map (·.2))) mg base 1 "product_of" ["numbers"] (spD (CH K ((tbK ["rarest_choice","even_to"] K).map (·.2))) MC):=⟨_,_,wU B F_q26,B5 X G a6,F_q26.kp,b_q26⟩;have D_q29:Def l.prog w (CH K ((tbK ["rarest_choice","even_to"] K).map (·.2))) mg base 1 "trial_at" ["levels","place"] (spD (CH K ((tbK ["rarest_choice","even_to"] K).map (·.2))) SJ):=⟨_,_,x9 B F_q29,B5 X G a7,F_q29.kp,b_q29⟩;have D_q11:Def l.prog w (CH K ((tbK ["rarest_choice","even_to"] K).map (·.2))) mg base 2 "all_trials" ["levels"] (spD (CH K ((tbK ["rarest_choice","even_to"] K).map (·.2))) UA):=⟨_,_,vS B D_q26 D_q29 F_q11,B5 X G a8,F_q11.kp,b_q11⟩;have D_q14:Def l.prog w (CH K ((tbK ["rarest_choice","even_to"] K).map (·.2))) mg base 1 "comes_to" ["p","word","trial"] (spD (CH K ((tbK ["rarest_choice","even_to"] K).map (·.2))) V7):=⟨_,_,yT B F_q14,B5 X G a9,F_q14.kp,b_q14⟩;have D_q18:Def l.prog w (CH K ((tbK ["rarest_choice","even_to"] K).map (·.2))) mg base 2 "keeps" ["p","rules","trial"] (spD (CH K ((tbK ["rarest_choice","even_to"] K).map (·.2))) XI):=⟨_,_,yE B D_q14 F_q18,B5 X G a10,F_q18.kp,b_q18⟩;have D_cut:Def l.prog w (CH K ((tbK ["rarest_choice","even_to"] K).map (·.2))) mg base 3 "cut" ["p","n","rules"] (spD (CH K ((tbK ["rarest_choice","even_to"] K).map (·.2))) XF):=⟨_,_,xM B D_q11 D_q18 F_cut,B5 X G a11,F_cut.kp,b_cut⟩;have D_q0:Def l.prog w (CH K ((tbK ["rarest_choice","even_to"] K).map (·.2))) mg base 1 "_law_come" ["_law_p","_law_word_here","_law_trial"] (spD (CH K ((tbK ["rarest_choice","even_to"] K).map (·.2))) fU):=⟨_,_,A01 B F_q0,B5 X G a12,F_q0.kp,b_q0⟩;have D_q24:Def l.prog w (CH K ((tbK ["rarest_choice","even_to"] K).map (·.2))) mg base 1 "nought_word" ["n"] (spD (CH K ((tbK ["rarest_choice","even_to"] K).map (·.2))) QJ):=⟨_,_,yM B F_q24,B5 X G a13,F_q24.kp,b_q24⟩;have D_q22:Def l.prog w (CH K ((tbK ["rarest_choice","even_to"] K).map (·.2))) mg base 1 "multiple_put_to" ["p","word","factor","other"] (spD (CH K ((tbK ["rarest_choice","even_to"] K).map (·.2))) X5):=⟨_,_,xY B F_q22,B5 X G a14,F_q22.kp,b_q22⟩;have D_q23:Def l.prog w (CH K ((tbK ["rarest_choice","even_to"] K).map (·.2))) mg base 2 "multiples_put_to" ["p","words","factors","other"] (spD (CH K ((tbK ["rarest_choice","even_to"] K).map (·.2))) Y4):=⟨_,_,x6 B D_q22 F_q23,B5 X G a15,F_q23.kp,b_q23⟩;have D_q28:Def l.prog w (CH K ((tbK ["rarest_choice","even_to"] K).map (·.2))) mg base 3 "span" ["p","n","words"] (spD (CH K ((tbK ["rarest_choice","even_to"] K).map (·.2))) SH):=⟨_,_,zL B D_q24 D_q23 F_q28,B5 X G a16,F_q28.kp,b_q28⟩;have D_q25:Def l.prog w (CH K ((tbK ["rarest_choice","even_to"] K).map (·.2))) mg base 1 "places_of" ["word"] (spD (CH K ((tbK ["rarest_choice","even_to"] K).map (·.2))) NQ):=⟨_,_,wR B F_q25,B5 X G a17,F_q25.kp,b_q25⟩
 have D_q19:Def l.prog w (CH K ((tbK ["rarest_choice","even_to"] K).map (·.2))) mg base 4 "least_word" ["p","n","words"] (spD (CH K ((tbK ["rarest_choice","even_to"] K).map (·.2))) X6):=⟨_,_,wV B D_q28 D_q24 D_q25 F_q19,B5 X G a18,F_q19.kp,b_q19⟩;have D_q21:Def l.prog w (CH K ((tbK ["rarest_choice","even_to"] K).map (·.2))) mg base 1 "longer_lists" ["lists","things"] (spD (CH K ((tbK ["rarest_choice","even_to"] K).map (·.2))) YH):=⟨_,_,xK B F_q21,B5 X G a19,F_q21.kp,b_q21⟩;have D_q13:Def l.prog w (CH K ((tbK ["rarest_choice","even_to"] K).map (·.2))) mg base 1 "choice_of" ["trial","columns"] (spD (CH K ((tbK ["rarest_choice","even_to"] K).map (·.2))) YR):=⟨_,_,yZ B F_q13,B5 X G a20,F_q13.kp,b_q13⟩;have D_q12:Def l.prog w (CH K ((tbK ["rarest_choice","even_to"] K).map (·.2))) mg base 2 "choice_counts" ["plan","columns"] (spD (CH K ((tbK ["rarest_choice","even_to"] K).map (·.2))) RY):=⟨_,_,zF B D_q13 F_q12,B5 X G a21,F_q12.kp,b_q12⟩;have D_q20:Def l.prog w (CH K ((tbK ["rarest_choice","even_to"] K).map (·.2))) mg base 1 "levels_in" ["levels","columns"] (spD (CH K ((tbK ["rarest_choice","even_to"] K).map (·.2))) MG):=⟨_,_,xG B F_q20,B5 X G a22,F_q20.kp,b_q20⟩;have D_q17:Def l.prog w (CH K ((tbK ["rarest_choice","even_to"] K).map (·.2))) mg base 3 "is_even_in" ["plan","levels","columns"] (spD (CH K ((tbK ["rarest_choice","even_to"] K).map (·.2))) VA):=⟨_,_,y3 B D_q12 D_q26 D_q20 F_q17,B5 X G a23,F_q17.kp,b_q17⟩;have D_q30:Def l.prog w (CH K ((tbK ["rarest_choice","even_to"] K).map (·.2))) mg base 4 "uneven_columns" ["plan","levels","t"] (spD (CH K ((tbK ["rarest_choice","even_to"] K).map (·.2))) YX):=⟨_,_,xA B D_q21 D_q17 F_q30,B5 X G a24,F_q30.kp,b_q30⟩;have D_q16:Def l.prog w (CH K ((tbK ["rarest_choice","even_to"] K).map (·.2))) mg base 1 "filled_up" ["columns","things","t"] (spD (CH K ((tbK ["rarest_choice","even_to"] K).map (·.2))) XD):=⟨_,_,wS B F_q16,B5 X G a25,F_q16.kp,b_q16⟩;have D_q27:Def l.prog w (CH K ((tbK ["rarest_choice","even_to"] K).map (·.2))) mg base 3 "rarest_choice" ["counts","levels"] (spD (CH K ((tbK ["rarest_choice","even_to"] K).map (·.2))) SR):=⟨_,_,zG B D_q26 D_q29 rfl (hC _ (aJ (by simp) t26)) (bV (by simp) t26) bm F_q27,B5 X G a26,F_q27.kp,b_q27⟩;have D_q15:Def l.prog w (CH K ((tbK ["rarest_choice","even_to"] K).map (·.2))) mg base 5 "even_to" ["plan","levels","t"] (spD (CH K ((tbK ["rarest_choice","even_to"] K).map (·.2))) YF):=⟨_,_,zI B D_q30 D_q16 D_q12 D_q27 D_q20 rfl (hC _ (aJ (by simp) t27)) (bV (by simp) t27) bm F_q15,B5 X G a27,F_q15.kp,b_q15⟩;have D_q8:Def l.prog w (CH K ((tbK ["rarest_choice","even_to"] K).map (·.2))) mg base 1 "_law_whole" ["_law_found"] (spD (CH K ((tbK ["rarest_choice","even_to"] K).map (·.2))) TW):=⟨_,_,A60 B F_q8,B5 X G a28,F_q8.kp,b_q8⟩;have D_q1:Def l.prog w (CH K ((tbK ["rarest_choice","even_to"] K).map (·.2))) mg base 2 "_law_is_choice" ["_law_found","_law_p","_law_t"] (spD (CH K ((tbK ["rarest_choice","even_to"] K).map (·.2))) Y3):=⟨_,_,A37 B D_q8 F_q1,B5 X G a29,F_q1.kp,b_q1⟩
 have D_q3:Def l.prog w (CH K ((tbK ["rarest_choice","even_to"] K).map (·.2))) mg base 1 "_law_many" ["_law_trials","_law_columns","_law_here"] (spD (CH K ((tbK ["rarest_choice","even_to"] K).map (·.2))) gW):=⟨_,_,A30 B F_q3,B5 X G a30,F_q3.kp,b_q3⟩;have D_q6:Def l.prog w (CH K ((tbK ["rarest_choice","even_to"] K).map (·.2))) mg base 3 "_law_shown" ["_law_p","_law_n","_law_t","_law_trials","_law_told"] (spD (CH K ((tbK ["rarest_choice","even_to"] K).map (·.2))) i0):=⟨_,_,A34 B D_q8 D_q1 D_q3 F_q6,B5 X G a31,F_q6.kp,b_q6⟩;have D_q5:Def l.prog w (CH K ((tbK ["rarest_choice","even_to"] K).map (·.2))) mg base 6 "_law_right" ["_law_p","_law_n","_law_words_here","_law_cell"] (spD (CH K ((tbK ["rarest_choice","even_to"] K).map (·.2))) lP):=⟨_,_,A61 B D_q9 D_cut D_q0 D_q19 D_q15 D_q6 F_q5,B5 X G a32,F_q5.kp,b_q5⟩;exact (w6 B D_q2 D_q5 F_law).imp (fun vs H Q E h=>pP nJ h)
theorem walk {l : PySem.W.OpenLaw} {q : Program} {loose : List Str} {XP : (Str -> Option Value) -> Heap -> Prop} {YP : World -> Heap -> Prop} {d : DefRec} {K : Params -> PySem.W.Frag} (hn : l.most = some 63) (hdf : d.params.defaults = [])
 (hY:∀(w:World) (h:Heap),YP w h->(K w.params).In h)
 (hrec:∀y ∈ (["rarest_choice","even_to"]:List Str),∃e,(PyProof.Rows.recsOf q).find? (fun e=>e.name==y)=some e)
 (F:∀(w:World) (mg:Str->Option Value) (fa:Addr) (h:Heap),(K w.params).In h->h.Ns mainGlobals mg->mg d.name=some (.ref fa)->(∀p ∈ (tbK ["rarest_choice","even_to"] (K w.params)).map (·.2),h.get? p=some (PySem.W.tabObj #[])) ->
  (∃o,(K w.params).lookup mainGlobals=some o)/\∃fd:FuncData,(∀(s:Shared) (u:Value),BindsTo s fd ⟨[u],[]⟩ [("_law_script",u)])/\∀base:Heap,(CH (K w.params) ((tbK ["rarest_choice","even_to"] (K w.params)).map (·.2))).In base->base.Ns mainGlobals mg->(∀p ∈ tbK ["rarest_choice","even_to"] (K w.params),PySem.W.CodeHd base p.1 p.2)->BM base mg->FnOk l.prog w (CH (K w.params) ((tbK ["rarest_choice","even_to"] (K w.params)).map (·.2))) mg base CX0 7 fa fd ["_law_script"] (dN (CH (K w.params) ((tbK ["rarest_choice","even_to"] (K w.params)).map (·.2))))) :
 PySem.W.WalkO q loose XP YP l.row.toRowW d [] (fun f vs=>PySem.call f vs) :=
 m7 (n:=63) (k:=7) (x:= "_law_script") (sp:=dN) hn (by decide) hdf ⟨rfl,by decide,by decide⟩ hY hrec F fun _ _ a ns hl hS=>⟨a,ns,rfl,hS,hl,fun _=>rfl⟩
end
end K26
namespace PySem.W.Fast
def tw7991072831793845666:=0
def tw8637269428143404935:=0
def tw10825683336014769376:=0
def tw11180302596029374356:=0
def tw7149147219576512455:=0
def tw875134988825209453:=0
def tw8948986618137203547:=0
def tw7074104695872976482:=0
def tw12336330508044920459:=0
def tw13539029528709310309:=0
def tw6393036947745457365:=0
def tw10856352632459518861:=0
def tw16566190258913840160:=0
def tw1613382754185930299:=0
def tw7229387104142977821:=0
def tw13205944183381781706:=0
def tw8337524367701153391:=0
def tw18058843053079379481:=0
def tw10525282135310352447:=0
def tw1687015674989827309:=0
def tw3261059985286387615:=0
def tw17942560078268421439:=0
def tw17524611714340819238:=0
def tw12906113803670153585:=0
def tw8300639399537421039:=0
def tw9244040034337408648:=0
def tw9865687357096524582:=0
def tw2188557341560363113:=0
def tw14368396164076522494:=0
def tw11781913333987300996:=0
end PySem.W.Fast
open PySem PySem.W PyProof.Rows
set_option maxRecDepth 100000 in
set_option maxHeartbeats 0 in
theorem PySem.Challenge.cw_trialfield_k26_whole_even_as_words_say_holds : PySem.Challenge.rw_trialfield_k26_whole_even_as_words_say.Holds := by
 w_on;o_law;k_head;(case hw=>w_witness2)
 k_fill
 refine K26.walk (l := PySem.Challenge.rw_trialfield_k26_whole_even_as_words_say) rfl rfl (fun w h Y => PySem.W.km_in_of Y) ?R ?F
 case R=>
  intro y hy;simp only [AN,BN,FJ] at hy
  rcases hy with rfl | rfl <;> exact ⟨_,rfl⟩
 case F=>
  intro w mg fa h KX G hmg hT;refine' K26.all_mk KX G hmg hT ?_ ?_ ?_ ?_ ?_ ?_ ?_ ?_ ?_ ?_ ?_ ?_ ?_ ?_ ?_ ?_ ?_ ?_ ?_ ?_ ?_ ?_ ?_ ?_ ?_ ?_ ?_ ?_ ?_ ?_ ?_ ?_ ?_ ?_ ?_ ?_ ?_ ?_ ?_ ?_ ?_ ?_ ?_ ?_ ?_ ?_ ?_ ?_ ?_ ?_ ?_ ?_ ?_ ?_ ?_ ?_ ?_ ?_ ?_ ?_ ?_ ?_ ?_ ?_ ?_ ?_ ?_ ?_ ?_ ?_ ?_ ?_ ?_ ?_ ?_ ?_ ?_ ?_ ?_ ?_ ?_ ?_ ?_ ?_ ?_ ?_ ?_ ?_ ?_ ?_ ?_ ?_ ?_ ?_ ?_ ?_ ?_ ?_ ?_ ?_ ?_ ?_ ?_ ?v26 ?_ ?_ ?_ ?_ ?_ ?v27 ?_ ?_ ?_ ?_ ?_ ?_ ?_ ?_ ?_ ?_ ?_ ?_ ?_ ?_ ?_ ?_ ?_ ?_ ?_ ?_ ?_ ?_ ?_ ?_ ?_ ?_ ?_ ?_ ?_ ?_ ?_ ?_ ?_ ?_ ?_ ?_ ?_ ?_ ?_ ?_
  all_goals (first | ((first | unfold K26.Na_ | unfold K26.Nz_ | unfold K26.Co_ | unfold K26.Ke_ | unfold K26.Lo_);k_is) | k_is | skip)
  (case v26=>exact rfl)
  all_goals (first | ((first | unfold K26.Na_ | unfold K26.Nz_ | unfold K26.Co_ | unfold K26.Ke_ | unfold K26.Lo_);k_is) | k_is | skip)
  (case v27=>exact rfl)
  all_goals (first | ((first | unfold K26.Na_ | unfold K26.Nz_ | unfold K26.Co_ | unfold K26.Ke_ | unfold K26.Lo_);k_is) | k_is | skip)
