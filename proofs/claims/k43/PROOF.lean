import PyProof.Rows.All
import Wide.All
import OpenK.AllK
import Wide.FinOn
import Lean
import PyProof.EqAt
import PyProof.EqKinds
import PyProof.TupleCall
import PyProof.Rows.SortRuns
import PySem.Challenge.RW_trialfield_k43_whole_effects_on_cuts
set_option Elab.async false
set_option linter.all false
set_option maxRecDepth 100000
set_option maxHeartbeats 4000000
def A0:=@Option.bind_eq_some_iff
def A3:=@PySem.Heap.get?_push_of_some
def A4:=@List.length_map
def A6:=@List.getElem?_append_right
def A7:=@PySem.wpAny_bind
def A8:=@Nat.le_refl
def A9:=@List.getElem?_append_left
def AD:=@List.getElem?_eq_getElem
def AE:=@of_decide_eq_true
def AF:=@List.size_toArray
def AG:=@PySem.W.mg_of
def AI:=@List.length_range
def AJ:=@List.mem_singleton
def AN:=@List.mem_cons_of_mem
def AO:=@List.length_append
def AR:=@if_neg
def AS:=@PySem.wpAny_pure
def AT:=@List.getElem?_set_ne
def AU:=@if_pos
def AV:=@PySem.Heap.lt_size
def AW:=@PySem.Heap.get?_push_size
def AX:=@List.getElem?_eq_some_iff
def AY:=@Nat.le_trans
def B0:=@Option.map_eq_some_iff
def B2:=@List.mem_of_getElem?
def B3:=@List.getElem?_map
def B4:=@Nat.lt_of_lt_of_le
def B5:=@List.mem_cons_self
def B6:=@Option.some.inj
def B7:=@List.mem_cons
def B8:=@decide_eq_false
def B9:=@List.length_cons
def BC:=@List.mem_range
def BD:=@PyProof.Rows.callWith_type1
def BG:=@decide_eq_true
def BK:=@List.mem_map
def BL:=@PySem.PassesOwn.never
def BN:=@List.map_cons
def BO:=@List.not_mem_nil
def BS:=@List.mem_append_right
def BT:=@PyProof.Rows.wpS_bind
def BU:=@List.getElem?_range
def BV:=@Option.bind_some
def BW:=@List.getElem?_cons_succ
def BX:=@List.getElem?_eq_none
def C6:=@List.replicate_succ
def C7:=@List.map_congr_left
def C8:=@Int.mul_zero
def CC:=@Nat.mod_eq_of_lt
def CF:=@List.length_replicate
def CI:=@List.take_of_length_le
def CJ:=@Nat.pow_le_pow_right
def CK:=@Int.mul_assoc
def CL:=@Or.inr
def CM:=@List.mem_append
def CN:=@Int.mul_comm
def CQ:=@Nat.add_sub_cancel_left
def CT:=@List.getElem?_cons_zero
def CZ:=@Nat.le_add_right
def D0:=@List.map_append
def D2:=@Nat.ne_of_lt
def D3:=@PySem.W.mg_none_of
def D4:=@PySem.Heap.size_push
def D8:=@List.getElem?_replicate
def D9:=@List.lookup_cons
def DC:=@Nat.mod_lt
def DF:=@Nat.zero_le
def DH:=@Nat.lt_of_le_of_lt
def DK:=@List.append_nil
def DL:=@Int.mul_eq_zero
def DU:=@PyProof.Rows.wpS_pure
def DY:=@beq_iff_eq
def DZ:=@Option.join_some
def E1:=@List.map_map
def E4:=@True.intro
def E5:=@Or.inl
def EE:=@List.length_set
def EF:=@List.getElem?_set_self'
def EI:=@List.flatten_cons
def EO:=@Bool.false_ne_true
def EW:=@List.mem_append_left
def F2:=@Option.map_some
def F4:=@Array.length_toList
def F7:=@List.drop_eq_nil_of_le
def F8:=@Int.fmod_nonneg_of_pos
def F9:=@Nat.add_zero
def FA:=@Int.zero_mul
def FD:=@PySem.wpAny_newObj_type
def FE:=@Nat.mul_mod
def FF:=@List.length_take
def FG:=@Bool.and_eq_true
def FH:=@List.all_eq_true
def FJ:=@or_false
def FK:=@Array.perm_iff_toList_perm
def FL:=@Int.fmod_eq_emod_of_nonneg
def FP:=@if_true
def FQ:=@Int.natAbs_dvd_natAbs
def FT:=@PySem.wpAny_holding
def FU:=@List.drop_eq_getElem_cons
def FZ:=@Int.toNat_natCast
def G0:=@Nat.succ_mul
def G1:=@Nat.mul_comm
def G2:=@PySem.F.slot_tuple_iterator_next
def G3:=@Int.le_refl
def G6:=@beq_eq_false_iff_ne
def G7:=@Nat.mul_le_mul
def G8:=@List.getElem_mem
def GA:=@List.length_eq_zero_iff
def GH:=@Int.neg_mul
def GI:=@Nat.le_of_lt
def GJ:=@List.getElem?_drop
def GM:=@congrArg
def GN:=@PySem.wpAny_callSpecial?_slot
def GO:=@Nat.mod_add_mod
def GU:=@List.length_singleton
def H9:=@decide_eq_true_eq
def HA:=@List.take_add_one
def HF:=@PySem.wpAny_mono
def HH:=@PySem.wpAny_Call_Name_kw
def HI:=@PySem.wpAny_passesOwn
def HJ:=@if_false
def HK:=@Int.natAbs_mul
def HL:=@Nat.mul_le_mul_right
def HM:=@List.mem_of_mem_take
def HN:=@Nat.pow_lt_pow_right
def I9:=@Nat.zero_add
def IA:=@decide_eq_decide
def ID:=@PySem.mem_of_lookup
def IE:=@Int.toNat_of_nonneg
def IN:=@Int.mul_fdiv_cancel_left
def IR:=@List.nodup_cons
def IS:=@List.range_succ
def IT:=@List.length_zip
def IU:=@PySem.wpAny_call_entry
def IV:=@List.set_cons_zero
def IW:=@List.set_cons_succ
def IY:=@List.pairwise_singleton
def IZ:=@Int.mul_add
def JE:=@List.getElem?_set_self
def JF:=@List.reverse_cons
def JG:=@Bool.eq_false_iff
def JH:=@List.mem_range'_1
def JN:=@PyProof.Rows.wpS_reverse
def JO:=@PyProof.Rows.mirror_perm
def JP:=@PyProof.Rows.slot_tuple_getitem
def JQ:=@PySem.F.slot_zip_next
def JR:=@List.cons_lt_cons_iff
def JS:=@List.eq_nil_or_concat
def K6:=@List.cons_append
def KD:=@Nat.mul_assoc
def KE:=@PySem.wpAny_truthy_bool
def KF:=@PySem.F.slot_list_append
def KG:=@PySem.wpAny_seqItems
def KH:=@Nat.mod_mod
def KP:=@List.mem_filter
def KQ:=@Int.natCast_mul
def KR:=@Int.mul_ne_zero
def LI:=@PySem.call_meets
def LJ:=@Nat.add_comm
def LK:=@Int.le_of_lt
def LL:=@PySem.wpAny_pyIter_zip
def LM:=@Int.zero_add
def LN:=@Int.add_zero
def LP:=@List.mem_filterMap
def LQ:=@Int.fdiv_eq_ediv_of_nonneg
def LR:=@Int.fmod_lt_of_pos
def LS:=@List.mem_replicate
def LU:=@Int.eq_of_mul_eq_mul_right
def MD:=@PyProof.Rows.wpS_mono
def ME:=@PyProof.Rows.wpS_forRange
def MX:=@Classical.byContradiction
def N5:=@Ne.symm
def N6:=@Int.mul_one
def N7:=@List.append_assoc
def N8:=@List.Pairwise.nil
def N9:=@Option.some.injEq
def NA:=@List.ext_getElem?
def NB:=@Int.mul_neg
def NC:=@List.flatMap_cons
def ND:=@Int.one_mul
def NE:=@Nat.add_mod
def NJ:=@Nat.lt_irrefl
def NK:=@PySem.F.args_tuple_add_2
def O6:=@Nat.lt_succ_self
def O8:=@PySem.Calls.spliced_cons
def O9:=@PySem.F.entry_tuple_add
def OB:=@List.length_drop
def OC:=@beq_self_eq_true
def OE:=@PySem.F.plainAttrs_list
def PD:=@PySem.F.slot_tuple_add
def PF:=@Nat.zero_mul
def PH:=@Nat.mul_zero
def PJ:=@Nat.zero_mod
def QC:=@PySem.sizeLine_eq
def QD:=@PySem.Calls.spliced_nil
def QM:=@List.getElem?_reverse
def QN:=@Array.getElem?_toList
def R8:=@Nat.le_succ
def R9:=@List.forIn_nil
def RC:=@PySem.SeqAt.eqAt_reads
def RD:=@PySem.F.called_tuple
def RF:=@List.mem_iff_getElem
def TQ:=@PySem.wpAny_pyNext_list_item
def TR:=@PySem.W.plainGet_of
def TU:=@PySem.Heap.get?_update_other
def U6:=@PySem.wpAny_execs_nil
def U8:=@PySem.F.slot_int_rmul
def U9:=@List.any_cons
def V8:=@PySem.W.callWith_K
def V9:=@PySem.F.args_tuple_iterator_next_1
def VA:=@Bool.false_eq_true
def WN:=@PySem.F.entry_tuple_iterator_next
def WP:=@Nat.le_of_eq
def WQ:=@List.map_nil
def WR:=@Int.gcd_dvd_right
def WS:=@Nat.lt_succ_of_lt
def WT:=@PySem.wpAny_updateSeq_pair
def WU:=@List.pairwise_map
def WW:=@Bool.or_true
def WX:=@Nat.pow_succ
def WY:=@List.filter_congr
def WZ:=@Nat.mul_left_comm
def ZM:=@Nat.Coprime.dvd_of_dvd_mul_left
def ZN:=@List.mem_flatMap
def ZO:=@List.Nodup.length_le_of_subset
def bM:=@PySem.wpAny_onRaise
def bN:=@PyProof.Rows.pairsOf_size
def bO:=@Nat.mul_one
def bP:=@Nat.pow_pos
def bQ:=@Nat.pow_one
def fO:=@PySem.typeIs_int
def fP:=@List.foldl_cons
def fQ:=@PySem.wpAny_pyIter_tuple
def fR:=@PySem.wpAny_setField_rec
def fS:=@Array.Perm.refl
def fT:=@Nat.mul_add_mod
def fU:=@Nat.mod_add_div
def fV:=@List.sum_append
def fW:=@Int.natCast_add
def iZ:=@PySem.wpAny_pyIter_list
def j0:=@PySem.codeAny_mono
def j3:=@PySem.concat_meets
def j4:=@Array.size_map
def pL:=@Int.natAbs_ediv_le_natAbs
def pM:=@Nat.add_mul_mod_self_left
def pN:=@Option.isSome_iff_exists
def pO:=@List.getElem?_take_of_lt
def pP:=@PySem.noFill_tuple_add
def pQ:=@PyProof.noPylong_of_log2
def pR:=@PySem.F.type_list_append
def pS:=@List.Pairwise.imp_of_mem
def pT:=@List.sum_cons
def uQ:=@PySem.F.plain_tuple_new
def uR:=@PySem.wpAny_field
def uS:=@PySem.F.args_zip_next_1
def uT:=@List.filter_cons_of_pos
def uU:=@List.filter_cons_of_neg
def wB:=@Nat.ne_of_gt
def wC:=@PySem.W.cellsFrom_some
def wD:=@PySem.pushCells_keeps
def wE:=@Int.fmod_def
def wF:=@PySem.F.entry_zip_next
def wG:=@PySem.wpAny_loadPart'
def wH:=@List.length_pos_of_mem
def wI:=@Nat.le_mul_of_pos_left
def wJ:=@List.zipWith_cons_cons
def wK:=@Nat.min_self
def A54:=@PySem.W.methodCall_KW
def A55:=@List.getElem?_zipWith
def A56:=@List.countP_mono_left
def A57:=@PySem.Calls.Name_function_global
def A58:=@Bool.and_eq_true_iff
def A59:=@PySem.wpAny_rule
def A60:=@List.map_id
def A61:=@Nat.one_mul
def AD1:=@PySem.wpAny_binaryOp_repeat_ref
def AD2:=@PySem.wpAny_letOwnedTupleGo_zip
def AD3:=@List.length_zipWith
def AD4:=@Nat.pow_le_pow_left
def AD7:=@PySem.wpAny_standAt
def AD8:=@PySem.seq_tuple_add
def AD9:=@PySem.wpAny_comprehension_free
def AE0:=@List.getElem_range
def AE1:=@PySem.wpAny_attempt
def AE2:=@List.zip_cons_cons
def AF6:=@PySem.list_append
def AF7:=@Nat.le_succ_of_le
def AF8:=@bne_self_eq_false
def AF9:=@List.nodup_append
def AG1:=@PySem.wpAny_pyNext_range_end
def AG2:=@PySem.wpAny_pyIter_rangeiter
def AG3:=@PySem.seqIndex_neg
def AG4:=@List.filter_cons
def AG7:=@PySem.wpAny_isTrue_Compare1
def AG8:=@PySem.wpAny_pyNext_list_end
def AG9:=@List.of_mem_zip
def AH0:=@PySem.Heap.get?_update_self
def AH1:=@PySem.builtinLookup_eq_fast
def AH2:=@List.forIn_cons
def AH3:=@PySem.IsRange.new
def AH4:=@PySem.seqIndex_of
def AH5:=@PySem.F.args_list_append_2
def AH6:=@PySem.wpAny_pyIter_revIter
def AH7:=@PySem.wpAny_letGo
def AH8:=@PyProof.Rows.wpS_get
namespace L2
open PySem PySem.Spec PyProof.Rows
abbrev Key:=Sum Int Str
def vZ:Key->Value->Bool
 | .inl k,v=>Value.isInt k v
 | .inr x,v=>Value.isStrOf x v
def AE4(w:World):Key->Int
 | .inl k=>hashInt k
 | .inr x=>hashStr w x
theorem F5:∀ {k:Key} {v:Value},vZ k v=true->(∃i t,k=Sum.inl i/\v=Value.int i t)\/(∃x t,k=Sum.inr x/\v=Value.str x t)
 | .inl i,v,h=>by
  obtain ⟨t,e⟩:=Value.isInt_shape (k:=i) (v:=v) h
  exact .inl ⟨i,t,rfl,e⟩
 | .inr x,v,h=>by
  obtain ⟨t,e⟩:=Value.isStrOf_shape (x:=x) (v:=v) h;exact .inr ⟨x,t,rfl,e⟩
theorem xX(a b:Int):decide ((Sum.inl a:Key)=Sum.inl b)=(a==b):=by
 by_cases e:a=b
 . subst e;simp
 . have h:¬(Sum.inl a:Key)=Sum.inl b:=fun q=>e (Sum.inl.inj q);rw [B8 h];exact (G6.mpr e).symm
theorem yA(a b:Str):decide ((Sum.inr a:Key)=Sum.inr b)=decide (a=b):=by
 by_cases e:a=b
 . subst e;simp
 . have h:¬(Sum.inr a:Key)=Sum.inr b:=fun q=>e (Sum.inr.inj q);rw [B8 h,B8 e]
theorem zG(a:Int)(b:Str):decide ((Sum.inl a:Key)=Sum.inr b)=false:=B8 (fun q=>nomatch q)
theorem x8(a:Str)(b:Int):decide ((Sum.inr a:Key)=Sum.inl b)=false:=B8 (fun q=>nomatch q)
def cR(prog:Program)(w:World):PySem.KeyKind prog w Key where
 is:=vZ
 hash:=AE4 w
 inj:=fun v a b ha hb=>by
  rcases F5 ha with ⟨i,t,rfl,rfl⟩ | ⟨x,t,rfl,rfl⟩
  . rcases F5 hb with ⟨j,u,rfl,e⟩ | ⟨y,u,rfl,e⟩
    . injection e with e1 _;rw [e1]
    . exact nomatch e
  . rcases F5 hb with ⟨j,u,rfl,e⟩ | ⟨y,u,rfl,e⟩
    . exact nomatch e
    . injection e with e1 _;rw [e1]
 byValue:=fun k v h=>by
  rcases F5 h with ⟨i,t,rfl,rfl⟩ | ⟨x,t,rfl,rfl⟩ <;> rfl
 pyHash:=fun hv h=>by
  rcases F5 hv with ⟨i,t,rfl,rfl⟩ | ⟨x,t,rfl,rfl⟩
  . exact wpAny_pyHash_int h
  . exact wpAny_pyHash_str h
 eqBool:=fun hu hv h=>by
  rcases F5 hu with ⟨i,t,rfl,rfl⟩ | ⟨x,t,rfl,rfl⟩
  . rcases F5 hv with ⟨j,u,rfl,rfl⟩ | ⟨y,u,rfl,rfl⟩
    . rw [xX] at h;exact wpAny_eqBool_int h
    . rw [zG] at h;exact SeqAt.EqAt.int_str i t y u _ _ _ _ h
  . rcases F5 hv with ⟨j,u,rfl,rfl⟩ | ⟨y,u,rfl,rfl⟩
    . rw [x8] at h;exact SeqAt.EqAt.str_int x t j u _ _ _ _ h
    . rw [yA] at h;exact wpAny_eqBool_str h
 «strs» := fun k x t v h => by
  rcases F5 h with ⟨i,u,rfl,e⟩ | ⟨y,u,rfl,e⟩
  . exact nomatch e
  . injection e with e1 _
    subst e1
    cases v <;> rfl
end L2
namespace L2
open PySem PySem.Spec PyProof.Rows
inductive V where
 | non | bl (b:Bool) | int (i:Int) | str (x:Str) | byt (b:Array UInt8) | flt (b:UInt64) | ref (a:Addr) | ty (n:String)
 deriving DecidableEq
def RelV:V->Value->Prop
 | .non,u=>u=Value.none
 | .bl b,u=>u=Value.bool b
 | .int i,u=>∃t,u=Value.int i t
 | .str x,u=>∃t,u=Value.str x t
 | .byt b,u=>∃t,u=Value.bytes b t
 | .flt b,u=>∃t,u=Value.float b t
 | .ref a,u=>u=Value.ref a
 | .ty n,u=>u=Value.type n
abbrev Vals:List V->List Value->Prop:=Paired RelV
theorem Vals.length{xs:List V}{us:List Value}(r:Vals xs us):xs.length=us.length:=Paired.length r
theorem Vals.get:∀ {xs:List V} {us:List Value} {i:Nat} {x:V},Vals xs us->xs[i]? = some x->∃u,us[i]? = some u/\RelV x u
 | _,_,_,_, .nil,e=>by simp at e
 | _,_,0,_, .cons r _,e=>by simp at e;subst e;exact ⟨_,rfl,r⟩
 | _,_,i+1,x, .cons _ t,e=>by
  obtain ⟨u,h1,h2⟩:=Vals.get (i:=i) (x:=x) t (by simpa using e);exact ⟨u,by simpa using h1,h2⟩
theorem Vals.set{x:V}{u:Value}(r:RelV x u):∀ {xs:List V} {us:List Value} (i:Nat),Vals xs us->Vals (xs.set i x) (us.set i u)
 | _,_,_, .nil=> .nil
 | _,_,0, .cons _ t=> .cons r t
 | _,_,i+1, .cons q t=> .cons q (Vals.set r i t)
theorem Vals.append:∀ {xs ys:List V} {us ws:List Value},Vals xs us->Vals ys ws->Vals (xs++ys) (us++ws)
 | _,_,_,_, .nil,s=>s
 | _,_,_,_, .cons r t,s=> .cons r (Vals.append t s)
theorem Vals.take:∀ {xs:List V} {us:List Value} (n:Nat),Vals xs us->Vals (xs.take n) (us.take n)
 | _,_,0,_=> .nil
 | _,_,_+1, .nil=> .nil
 | _,_,n+1, .cons r t=> .cons r (Vals.take n t)
theorem Vals.drop:∀ {xs:List V} {us:List Value} (n:Nat),Vals xs us->Vals (xs.drop n) (us.drop n)
 | _,_,0,r=>r
 | _,_,_+1, .nil=> .nil
 | _,_,n+1, .cons _ t=>Vals.drop n t
def RelO:Option V->Option Value->Prop
 | some v,some u=>RelV v u
 | none,none=>True
 | _,_=>False
def KV{κ:Type}:List (κ×V)->List (κ×Value)->Prop:=Paired fun (p:κ×V) (q:κ×Value)=>p.1=q.1/\RelV p.2 q.2
def kV:Key->V
 | .inl i=> .int i
 | .inr x=> .str x
inductive HO where
 | lst (xs:List V)
 | tup (xs:List V)
 | dK (kvs:List (Key×V)) | dT (kvs:List (List Key×V))
 | set (S:Int->Bool) (n:Nat)
 | ins (C dx:Addr) (fs:List (Str×V))
 | own (x:Addr)
 | xd (fs:List (Str×V))
 | met (f x:Addr)
 | rng (lo hi:Int)
 | frz (o:Obj) (u:HO)
 | tbl (ps:Array Value)
 | ext (φ:Heap->Prop)
abbrev Hp:=Addr->Option HO
def upd(H:Hp)(a:Addr)(o:HO):Hp:=fun b=>if b=a then some o else H b
theorem C9{H:Hp}{a:Addr}{o:HO}:upd H a o a=some o:=by unfold upd;rw [if_pos rfl]
theorem BQ{H:Hp}{a b:Addr}{o:HO}(h:b≠a):upd H a o b=H b:=by unfold upd;rw [if_neg h]
theorem BY{H:Hp}{a b:Addr}{o:HO}(h:H a=some o)(h':H b=none):a≠b:=by
 intro e;subst e;rw [h] at h';cases h'
section
variable (P:Program) (w:World)
def ObjOk(H:Hp)(h:Heap)(a:Addr):HO->Prop
 | .lst xs=>xs.length<=sizeLine/\∃(its:List Value) (n:Nat),Vals xs its/\h.get? a=some {cls:= .type "list",data:= .seq its.toArray n}
 | .tup xs=>xs.length<=sizeLine/\∃its:List Value,Vals xs its/\IsTup h a its.toArray
 | .dK kvs=>kvs.length<=sizeLine/\(a==sysModules)=false/\∃vs,KV kvs vs/\h.DictOf (cR P w) a vs
 | .dT kvs => kvs.length <= sizeLine /\ (a == sysModules) = false /\ ∃ xs : List (List Key × Addr × Value),
  Paired (fun (p:List Key×V) (q:List Key×Addr×Value)=>p.1=q.1/\H q.2.1=some (.tup (p.1.map kV))/\RelV p.2 q.2.2) kvs xs /\
  ∃o es ep,h.get? a=some o/\o.ExactDict/\o.data = .dict es ep/\es.toList=xs.map (entryOfKey (tupleKind (cR P w)))/\(xs.map (·.1)).Nodup
 | .set S n=>h.SetOf (intKind P w) a S n
 | .ins C dx fs => H dx = some (.own a) /\ fs.length <= 1000 /\ dx ≠ a /\ h.get? a = some (PySem.W.instObj C dx) /\
  ∃mA,h.Ns1 dx mA/\(∀f,RelO (fs.lookup f) (mA f))/\PySem.Within mA (fs.map (·.1))
 | .own _=>∃o,h.get? a=some o
 | .xd fs=>∃mA,h.Ns1 a mA/\∀f,RelO (fs.lookup f) (mA f)
 | .rng lo hi=>∃t u v,h.get? a=some {cls:= .type "range",data:= .fields #[.int lo t, .int hi u, .int 1 v]}
 | .frz o u=>h.get? a=some o/\ObjOk H h a u
 | .tbl _=>∃qs:Array Value,h.get? a=some {cls:= .none,data:= .fields qs}/\TriplesOk qs.toList/\∀pos v,codeAmong pos qs.toList=some v->∃c oc vs x,v=Value.ref c/\H c=some (.frz oc (.own 0))/\oc.data = .fields vs/\vs[1]? = some x
 | .met f x=>h.get? a=some (PySem.W.methodObj (.ref f) (.ref x))
 | .ext φ=>φ h/\(∃o,h.get? a=some o)/\∀h1 h2:Heap,φ h1->(∀o,h1.get? a=some o->h2.get? a=some o)->φ h2
def HOk(H:Hp)(h:Heap):Prop:=∀a o,H a=some o->ObjOk P w H h a o
end
section
variable {P:Program} {w:World} {H H':Hp} {h h':Heap} {a:Addr} {o:HO}
theorem ObjOk.lt(x:ObjOk P w H h a o):a<h.objs.size:=by
 cases o with
 | lst xs=>obtain ⟨_,_,_,_,e⟩:=x;exact AV e
 | tup xs=>obtain ⟨_,_,_,p⟩:=x;exact p.lt
 | dK kvs=>obtain ⟨_,_,_,_,o,_,_,e,_⟩:=x;exact AV e
 | dT kvs=>obtain ⟨_,_,_,_,o,_,_,e,_⟩:=x;exact AV e
 | set S n=>obtain ⟨o,_,_,_,e,_⟩:=x;exact AV e
 | ins C dx fs=>obtain ⟨_,_,_,e,_⟩:=x;exact AV e
 | own y=>obtain ⟨_,e⟩:=x;exact AV e
 | xd fs=>obtain ⟨_,⟨_,_,_,e,_⟩,_⟩:=x;exact AV e
 | rng lo hi=>obtain ⟨_,_,_,e⟩:=x;exact AV e
 | frz ob u=>obtain ⟨e,_⟩:=x;exact AV e
 | tbl ps=>obtain ⟨_,e,_⟩:=x;exact AV e
 | met f y=>exact AV (show h.get? a=some _ from x)
 | ext φ=>obtain ⟨_,⟨_,e⟩,_⟩:=x;exact AV e
theorem Paired.mapP{α β:Type}{F G:α->β->Prop}:∀ {l₁:List α} {l₂:List β},Paired F l₁ l₂->(∀a b,F a b->G a b)->Paired G l₁ l₂
 | _,_, .nil,_=> .nil
 | _,_, .cons r t,f=> .cons (f _ _ r) (Paired.mapP t f)
theorem ObjOk.stay (x : ObjOk P w H h a o) (k : ∀ b u, (b = a \/ H b = some (.own a)) -> h.get? b = some u -> h'.get? b = some u)
 (ho:∀b,H b=some (.own a)->H' b=some (.own a)) (ht:∀b xs,H b=some (.tup xs)->H' b=some (.tup xs)) (hf:∀b o u,H b=some (.frz o u)->H' b=some (.frz o u):=by exact fun _ _ _ q=>q):ObjOk P w H' h' a o:=by
 induction o with
 | lst xs=>obtain ⟨z,its,n,r,e⟩:=x;exact ⟨z,its,n,r,k _ _ (.inl rfl) e⟩
 | tup xs=>obtain ⟨z,its,r,ob,e,c⟩:=x;exact ⟨z,its,r,ob,k _ _ (.inl rfl) e,c⟩
 | dK kvs=>obtain ⟨z,y,vs,r,ob,es,ep,e,c⟩:=x;exact ⟨z,y,vs,r,ob,es,ep,k _ _ (.inl rfl) e,c⟩
 | dT kvs=>
  obtain ⟨z,y,xs,r,ob,es,ep,e,c⟩:=x
  exact ⟨z,y,xs,Paired.mapP r fun p q z=>⟨z.1,ht _ _ z.2.1,z.2.2⟩,ob,es,ep,k _ _ (.inl rfl) e,c⟩
 | set S n=>obtain ⟨ob,es,ep,t,e,c⟩:=x;exact ⟨ob,es,ep,t,k _ _ (.inl rfl) e,c⟩
 | ins C dx fs=>
  obtain ⟨d,z,ne,e,mA,⟨od,es,ep,e2,c⟩,r⟩:=x
  exact ⟨ho _ d,z,ne,k _ _ (.inl rfl) e,mA,⟨od,es,ep,k _ _ (.inr d) e2,c⟩,r⟩
 | own y=>obtain ⟨ob,e⟩:=x;exact ⟨ob,k _ _ (.inl rfl) e⟩
 | xd fs=>obtain ⟨mA,⟨od,es,ep,e,c⟩,r⟩:=x;exact ⟨mA,⟨od,es,ep,k _ _ (.inl rfl) e,c⟩,r⟩
 | rng lo hi=>obtain ⟨t,u,v,e⟩:=x;exact ⟨t,u,v,k _ _ (.inl rfl) e⟩
 | frz ob u ih=>obtain ⟨e,q⟩:=x;exact ⟨k _ _ (.inl rfl) e,ih q⟩
 | tbl ps=>obtain ⟨qs,e,t,c⟩:=x;exact ⟨qs,k _ _ (.inl rfl) e,t,fun pos v q=>let ⟨c',oc,vs,y,e1,e2,e3⟩:=c pos v q;⟨c',oc,vs,y,e1,hf _ _ _ e2,e3⟩⟩
 | met f y=>
  have e:h.get? a=some (PySem.W.methodObj (.ref f) (.ref y)):=x;show h'.get? a=some (PySem.W.methodObj (.ref f) (.ref y))
  exact k a _ (.inl rfl) e
 | ext φ=>obtain ⟨p,⟨o,e⟩,st⟩:=x;exact ⟨st _ _ p fun o q=>k _ _ (.inl rfl) q,⟨o,k _ _ (.inl rfl) e⟩,st⟩
theorem HOk.lt(x:HOk P w H h)(e:H a=some o):a<h.objs.size:=(x a o e).lt
theorem HOk.fresh(x:HOk P w H h)(e:h.objs.size<=a):H a=none:=by
 cases q:H a with
 | none=>rfl
 | some u=>exact absurd (B4 (x.lt q) e) (NJ _)
theorem HOk.kept(x:HOk P w H h)(k:∀b u,h.get? b=some u->h'.get? b=some u):HOk P w H h':=fun a o e=>
 (x a o e).stay (fun b u _ q=>k b u q) (fun _ q=>q) fun _ _ q=>q
theorem HOk.laid(x:HOk P w H h)(k:∀b u,h.get? b=some u->h'.get? b=some u)(hp:h.objs.size<=a)(new:ObjOk P w (upd H a o) h' a o):HOk P w (upd H a o) h':=fun b u e=>by
 have hn:=x.fresh hp
 by_cases hb:b=a
 . subst hb;rw [C9] at e;cases e;exact new
 . rw [BQ hb] at e
   exact (x b u e).stay (fun c v _ q=>k c v q) (fun c q=>by rw [BQ (BY q hn)];exact q) (fun c xs q=>by rw [BQ (BY q hn)];exact q) fun c ob xs q=>by rw [BQ (BY q hn)];exact q
end
def Rd(H:Hp)(a:Addr)(u:HO):Prop:=H a=some u\/∃o,H a=some (.frz o u)
theorem Rd.ok{P:Program}{w:World}{H:Hp}{h:Heap}{a:Addr}{u:HO}(r:Rd H a u)(x:HOk P w H h):ObjOk P w H h a u:=by
 rcases r with r | ⟨o,r⟩
 . exact x a u r
 . obtain ⟨_,q⟩:=x a _ r;exact q
def Mut:Option HO->Prop
 | some (.lst _)=>True
 | some (.dK _)=>True
 | some (.dT _)=>True
 | some (.set _ _)=>True
 | some (.ins _ _ _)=>True
 | some (.ext _)=>True
 | _=>False
section
variable {P:Program} {w:World} {H:Hp} {h h':Heap} {x e:Addr} {o':HO}
theorem HOk.write (ok : HOk P w H h) (mu : Mut (H x)) (he : e = x \/ H e = some (.own x)) (k : ∀ b u, b ≠ e -> h.get? b = some u -> h'.get? b = some u) (heo : ∃ u, h'.get? e = some u)
 (new:ObjOk P w (upd H x o') h' x o'):HOk P w (upd H x o') h':=fun b u q=>by
 have nown:∀c y,H c=some (.own y)->c≠x:=fun c y r z=>by subst z;rw [r] at mu;exact mu
 have ntup:∀c xs,H c=some (.tup xs)->c≠x:=fun c xs r z=>by subst z;rw [r] at mu;exact mu
 by_cases hb:b=x
 . subst hb;rw [C9] at q;cases q;exact new
 . rw [BQ hb] at q
   by_cases hbe:b=e
   . have q' : H b = some (.own x) := by
      rcases he with z | z
      . exact absurd (hbe.trans z) hb
      . rw [hbe];exact z
     rw [q] at q';cases q'
     obtain ⟨v,hv⟩:=heo;exact ⟨v,by rw [hbe];exact hv⟩
   . refine (ok b u q).stay (fun c v hc r=>k c v ?_ r) (fun c r=>by rw [BQ (nown c b r)];exact r) (fun c xs r=>by rw [BQ (ntup c xs r)];exact r) fun c ob xs r=>by rw [BQ (fun z=>by subst z;rw [r] at mu;exact mu)];exact r
     rcases hc with rfl | hc
     . exact hbe
     . rintro rfl;rcases he with z | z
       . exact nown c b hc z
       . rw [hc] at z;cases z;exact hb rfl
end
structure Un (fs ex:List Addr) (H H':Hp) (h h':Heap):Prop where
 keep:∀b o,h.get? b=some o->H b=none->b ∉ fs->b ∉ ex->h'.get? b=some o
 slot:∀b o,h.get? b=some o->H b=none->b ∈ fs->b ∉ ex->∃sl,h'.get? b=some {o with slots:=sl}
 free:∀b o,h.get? b=some o->H b=none->b ∉ ex->H' b=none
 there:∀b o,h.get? b=some o->b ∉ ex->∃o',h'.get? b=some o'
 tups:∀b xs,H b=some (.tup xs)->H' b=some (.tup xs)
 frzs:∀b o u,H b=some (.frz o u)->H' b=some (.frz o u)
 tbls:∀b ps,H b=some (.tbl ps)->∃more,H' b=some (.tbl (ps++more))
section
variable {fs fs' ex ex':List Addr} {H H1 H2:Hp} {h h1 h2 h':Heap} {a x e:Addr} {o:HO}
theorem Un.any(u:Un fs ex H H1 h h1){b:Addr}{ob:Obj}(q:h.get? b=some ob)(n:H b=none)(hx:b ∉ ex):∃sl,h1.get? b=some {ob with slots:=sl}:=by
 by_cases hb:b ∈ fs
 . exact u.slot b ob q n hb hx
 . exact ⟨ob.slots,u.keep b ob q n hb hx⟩
theorem Un.kept(k:∀b u,h.get? b=some u->h'.get? b=some u):Un fs ex H H h h' :=
 ⟨fun b ob q _ _ _=>k b ob q,fun b ob q _ _ _=>⟨ob.slots,k b ob q⟩,fun _ _ _ n _=>n,fun b ob q _=>⟨ob,k b ob q⟩,fun _ _ q=>q,fun _ _ _ q=>q,fun _ ps q=>⟨#[],by rw [q];simp⟩⟩
theorem Un.refl:Un fs ex H H h h:=Un.kept fun _ _ q=>q
theorem Un.laid(k:∀b u,h.get? b=some u->h'.get? b=some u)(hp:h.objs.size<=a)(hn:H a=none):Un fs ex H (upd H a o) h h' where
 keep:=fun b u q _ _ _=>k b u q
 slot:=fun b u q _ _ _=>⟨u.slots,k b u q⟩
 free:=fun b u q n _=>by rw [BQ (D2 (B4 (AV q) hp))];exact n
 there:=fun b u q _=>⟨u,k b u q⟩
 tups:=fun b xs q=>by rw [BQ (BY q hn)];exact q
 frzs:=fun b u xs q=>by rw [BQ (BY q hn)];exact q
 tbls:=fun b ps q=>⟨#[],by rw [BQ (BY q hn),q];simp⟩
theorem Un.write(mu:Mut (H x))(he:e=x\/H e=some (.own x))(k:∀b u,b≠e->h.get? b=some u->h'.get? b=some u)(heo:∃u,h'.get? e=some u):Un fs ex H (upd H x o) h h':=by
 have hx:∀b,H b=none->b≠x:=fun b n z=>by subst z;rw [n] at mu;exact mu
 have hb:∀b,H b=none->b≠e:=fun b n z=>by
  subst z;rcases he with r | r
  . exact hx b n r
  . rw [n] at r;cases r
 have hm:∀b u,H b=some u->¬Mut (some u)->b≠x:=fun b u q nm z=>by subst z;rw [q] at mu;exact nm mu
 refine ⟨fun b u q n _ _=>k b u (hb b n) q,fun b u q n _ _=>⟨u.slots,k b u (hb b n) q⟩,fun b u q n _=>by rw [BQ (hx b n)];exact n,fun b u q _=> ?_,
  fun b xs q=>by rw [BQ (hm b _ q fun z=>z)];exact q,fun b u xs q=>by rw [BQ (hm b _ q fun z=>z)];exact q,fun b ps q=>⟨#[],by rw [BQ (hm b _ q fun z=>z),q];simp⟩⟩
 by_cases hbe:b=e
 . subst hbe;exact heo
 . exact ⟨u,k b u hbe q⟩
end
def trk(h:Heap)(H:Hp):List Addr:=(List.range h.objs.size).filter fun a=>(H a).isSome
def RH(h:Heap)(H:Hp):Heap:=PySem.W.hideAll h (trk h H)
theorem iM(h:Heap)(H:Hp):(RH h H).objs.size=h.objs.size:=PySem.W.hideAll_size _ _
theorem mT{h:Heap}{H:Hp}{b:Addr}{o:Obj}(e:h.get? b=some o)(n:H b=none):(RH h H).get? b=some o:=
 PySem.W.hideAll_get _ e fun hm=>by
  have q:(H b).isSome=true:=(KP.mp hm).2;rw [n] at q;simp at q
theorem qJ{h:Heap}{H:Hp}{b:Addr}{o:Obj}(e:(RH h H).get? b=some o):h.get? b=some o/\H b=none:=by
 have e':h.get? b=some o:=PySem.W.of_hideAll (trk h H) e;refine ⟨e',?_⟩
 cases q:H b with
 | none=>rfl
 | some x=>
  have hm:b ∈ trk h H:=KP.mpr ⟨BC.mpr (AV e'),by simp [q]⟩;have z:(RH h H).get? b=none:=PySem.W.hideAll_none (trk h H) hm;rw [z] at e;cases e
def qC(g h:Heap)(L:Addr):List (Addr×Obj):=(List.range h.objs.size).filterMap fun a=>if a=L\/(g.get? a).isSome=true then none else (h.get? a).map fun o=>(a,o)
def GX(g h:Heap)(L d:Addr):List (Addr×Obj):=(qC g h L).filter fun p=>decide (p.1≠d)
end L2
namespace L2
open PySem PySem.Spec PyProof.Rows
def SJ(K:PySem.W.Frag):List Addr:=match K.getLast? with
 | some (_,⟨.type "tables",_, .fields vs,_⟩)=>vs.toList.filterMap fun v=>match v with
  | .ref a=>some a
  | _=>none
 | _=> []
structure Mod (K:PySem.W.Frag) (mg:Str->Option Value) (base:Heap):Prop where
 kin:K.In base
 glob:base.Ns mainGlobals mg
 blt:∃mb,base.Ns builtinsNs mb/\∀x:Str,x ≠ "__name__" -> mb x=bootBuiltins x
 nolimit:base.NoLimit
structure Cx where
 prog:Program
 w:World
 K:PySem.W.Frag
 mg:Str->Option Value
 base:Heap
 A:Around
 N:List Str
 s₀:Shared
 H₀:Hp
 env:Env
 outer:List Env
 stack:List Env
 ex:List Addr
 fn:Str->Bool
 calm:Bool
 pn:List (Addr×Obj)
 xe:Value->Shared->Prop
def frs(l:List Env):List Addr:=l.filterMap (·.frame)
abbrev Cx.fs (X:Cx):List Addr:=frs X.outer
def Vis(sc:Scope)(x:Str):Prop:=sc.names.lookup x=some .local\/sc.names.lookup x=some .cell\/sc.names.lookup x=some .free
def Loc(sc:Scope)(x:Str):Prop:=sc.names.lookup x=some .local\/sc.names.lookup x=some .cell
def AE3(env:Env)(h:Heap)(m:Str->Option Value)(x:Str)(u:Value):Prop:=
 (env.kindOf x=some .local/\m x=some u)\/((env.kindOf x=some .cell\/env.kindOf x=some .free)/\∃c,env.cells.lookup x=some c/\h.IsCell c (some u))
structure Cx.Ok (X:Cx):Prop where
 mod:Mod X.K X.mg X.base
 kind:X.env.scope.kind = .function
 glob:X.env.globals=mainGlobals
 blt:X.env.builtins=builtinsNs
 above:X.s₀.heap.objs.size<=X.env.locals
 inj:∀x y c,X.env.cells.lookup x=some c->X.env.cells.lookup y=some c->x=y
 has:∀x,(X.env.kindOf x=some .cell\/X.env.kindOf x=some .free)->∃c,X.env.cells.lookup x=some c
 cab:∀x c,X.fn x=true->X.env.cells.lookup x=some c->X.s₀.heap.objs.size<=c
 hd:X.calm=true->X.A.handled=none
 frames:X.A.frames=some X.stack
 stk:X.stack=X.outer\/(X.stack=X.env::X.outer/\X.env.frame=some X.env.locals)
 exf:∀b ∈ X.ex,b≠X.env.locals/\∀x c,X.env.cells.lookup x=some c->c≠b
 bs:∀b o,X.base.get? b=some o->X.s₀.heap.get? b=some o/\X.H₀ b=none
 bsz:X.base.objs.size<=X.s₀.heap.objs.size
 noex:∀b o,X.base.get? b=some o->b ∉ X.ex
 exfs:∀b ∈ X.ex,b ∉ X.fs
 funs:X.s₀.heap.FunFrames X.base X.outer
 frf:∀b ∈ X.fs,X.H₀ b=none
 tb:∀p ∈ SJ X.K,∃ps,X.H₀ p=some (.tbl ps)
structure Inv (X:Cx) (pins:List (Addr×Obj)) (σ:List (Option V)) (H:Hp) (s:Shared):Prop where
 ok:X.Ok
 os:s.os=X.s₀.os
 bare:AllBare s.gens
 base:Un X.fs X.ex X.H₀ H X.s₀.heap s.heap
 loc:∃m,s.heap.Ns X.env.locals m/\∀(i:Nat) (x:Str) (v:V),X.N[i]? = some x->σ[i]? = some (some v)->Vis X.env.scope x->∃u,RelV v u/\AE3 X.env s.heap m x u
 cell:∀x c,X.env.cells.lookup x=some c->∃v,s.heap.IsCell c v
 free:H X.env.locals=none
 freeC:∀x c,X.env.cells.lookup x=some c->H c=none
 pin:∀p ∈ X.pn++pins,s.heap.get? p.1=some p.2/\H p.1=none/\p.1≠X.env.locals/\p.1 ∉ X.fs/\∀v,p.2.data ≠ .cell v
 hok:HOk X.prog X.w H s.heap
 len:σ.length=X.N.length
section
variable {X:Cx} {pins:List (Addr×Obj)} {σ:List (Option V)} {H H':Hp} {s:Shared} {h':Heap}
theorem Cx.Ok.nofr(ok:X.Ok){b:Addr}{o:Obj}(e:X.base.get? b=some o):b ∉ X.fs:=fun hb=>by
 have:=(ok.funs.mem hb).1;rw [e] at this;cases this
theorem Inv.bs(I:Inv X pins σ H s):∀b o,X.base.get? b=some o->s.heap.get? b=some o/\H b=none:=fun b o e=>
 ⟨I.base.keep b o (I.ok.bs b o e).1 (I.ok.bs b o e).2 (I.ok.nofr e) (I.ok.noex b o e),I.base.free b o (I.ok.bs b o e).1 (I.ok.bs b o e).2 (I.ok.noex b o e)⟩
theorem Inv.bk(I:Inv X pins σ H s):∀b o,X.base.get? b=some o->s.heap.get? b=some o:=fun b o e=>(I.bs b o e).1
theorem Inv.tb(I:Inv X pins σ H s):∀p ∈ SJ X.K,∃ps,H p=some (.tbl ps):=fun p hp=>by
 obtain ⟨ps,e⟩:=I.ok.tb p hp;obtain ⟨m,e2⟩:=I.base.tbls p ps e;exact ⟨_,e2⟩
theorem Inv.mod(I:Inv X pins σ H s):Mod X.K X.mg X.base:=I.ok.mod
theorem Inv.kIn(I:Inv X pins σ H s):X.K.In s.heap:=I.ok.mod.kin.keeps I.bk
theorem Inv.fr(I:Inv X pins σ H s):∃m,Fr X.base X.env.locals s.heap m:=
 let ⟨m,hn,_⟩:=I.loc
 ⟨m,hn,I.bk,AY I.ok.bsz I.ok.above⟩
theorem Inv.lt(I:Inv X pins σ H s):X.env.locals<s.heap.objs.size:=let ⟨_,hn,_⟩:=I.loc;hn.lt
theorem Inv.sz(I:Inv X pins σ H s):X.s₀.heap.objs.size<=s.heap.objs.size:=AY I.ok.above (GI I.lt)
theorem Inv.nofs(I:Inv X pins σ H s){a:Addr}(h:s.heap.objs.size<=a):a ∉ X.fs:=fun hb=>by
 obtain ⟨_,o,ho,_⟩:=I.ok.funs.mem hb;exact absurd (B4 (AV ho) (AY I.sz h)) (NJ _)
theorem Inv.cne(I:Inv X pins σ H s):∀x c,X.env.cells.lookup x=some c->c≠X.env.locals:=fun x c e z=>by
 obtain ⟨v,o,ho,hd⟩:=I.cell x c e;obtain ⟨m,⟨o',es,ep,ho',hd',_⟩,_⟩:=I.loc;rw [z,ho'] at ho;cases ho;rw [hd'] at hd;cases hd
theorem Inv.funs(I:Inv X pins σ H s):s.heap.FunFrames X.base X.outer:=by
 have all:∀(l:List Env),(∀b ∈ frs l,b ∈ X.fs)->X.s₀.heap.FunFrames X.base l->s.heap.FunFrames X.base l:=by
  intro l
  induction l with
  | nil=>intro _ _;trivial
  | cons env r ih=>
   intro hs hl;obtain ⟨hk,⟨L,o,hf,hn,ho,hd⟩,hr⟩:=hl;have hL:L ∈ X.fs:=hs L (by unfold frs;rw [List.filterMap_cons,hf];exact List.mem_cons_self);obtain ⟨sl,e⟩:=I.base.slot L o ho (I.ok.frf L hL) hL fun z=>I.ok.exfs L z hL;exact ⟨hk,⟨L,_,hf,hn,e,hd⟩,ih (fun b hb=>hs b (by unfold frs;rw [List.filterMap_cons,hf];exact List.mem_cons_of_mem _ hb)) hr⟩
 exact all X.outer (fun _ hb=>hb) I.ok.funs
theorem Inv.stack(I:Inv X pins σ H s):s.heap.FunFrames X.base X.stack:=by
 rcases I.ok.stk with e | ⟨e,hf⟩
 . rw [e];exact I.funs
 . rw [e];obtain ⟨m,hn,_⟩:=I.loc;refine .cons (by rw [I.ok.kind];decide) hf hn ?_ I.funs;exact Heap.get?_none_of_le (AY I.ok.bsz I.ok.above)
theorem Inv.stkSub(I:Inv X pins σ H s):∀b ∈ frs X.stack,b ∈ X.env.locals::X.fs:=fun b hb=>by
 rcases I.ok.stk with e | ⟨e,hf⟩
 . rw [e] at hb;exact AN _ hb
 . rw [e] at hb
   unfold frs at hb
   rw [List.filterMap_cons,hf] at hb
   exact hb
theorem Inv.stkFree(I:Inv X pins σ H s):∀b ∈ frs X.stack,H b=none:=fun b hb=>by
 rcases B7.mp (I.stkSub b hb) with e | hb
 . rw [e];exact I.free
 . obtain ⟨_,o,ho,_⟩:=I.ok.funs.mem hb;exact I.base.free b o ho (I.ok.frf b hb) fun z=>I.ok.exfs b z hb
theorem Inv.step {g' : Array GenState} {t' : Nat} {d' : Drawn} {ch : List Addr} (I : Inv X pins σ H s)
 (hch:∀b ∈ ch,(b ∈ X.ex\/X.s₀.heap.objs.size<=b)/\b≠X.env.locals/\(∀x c,X.env.cells.lookup x=some c->c≠b)/\∀p ∈ X.pn++pins,p.1≠b)
 (keep:∀b o,b≠X.env.locals->b ∉ X.fs->b ∉ ch->s.heap.get? b=some o->H b=none->h'.get? b=some o)
 (slot:∀b o,b≠X.env.locals->b ∈ X.fs->b ∉ ch->s.heap.get? b=some o->H b=none->∃sl,h'.get? b=some {o with slots:=sl}) (free:∀b o,b ∉ ch->s.heap.get? b=some o->H b=none->H' b=none)
 (there:∀b o,b ∉ ch->s.heap.get? b=some o->∃o',h'.get? b=some o')
 (tups:∀b xs,H b=some (.tup xs)->H' b=some (.tup xs)) (frzs:∀b o u,H b=some (.frz o u)->H' b=some (.frz o u)) (tbls:∀b ps,H b=some (.tbl ps)->∃more,H' b=some (.tbl (ps++more)))
 (ns:∀m,s.heap.Ns X.env.locals m->h'.Ns X.env.locals m) (hok:HOk X.prog X.w H' h') (hg:AllBare g') :
 Inv X pins σ H' {s with heap:=h',gens:=g',drawn:=d',toks:=t' }:=by
 have neL:∀b o,X.s₀.heap.get? b=some o->b≠X.env.locals:=fun b o e=>D2 (B4 (AV e) I.ok.above)
 have neC:∀b o,X.s₀.heap.get? b=some o->b ∉ X.ex->b ∉ ch:=fun b o e hx hb=>by
  rcases (hch b hb).1 with z | z
  . exact hx z
  . exact absurd (B4 (AV e) z) (NJ _)
 have cellK:∀x c,X.env.cells.lookup x=some c->∀v,s.heap.IsCell c v->h'.IsCell c v:=fun x c e v ⟨o,ho,hd⟩=>by
  have nch:c ∉ ch:=fun z=>(hch c z).2.2.1 x c e rfl
  by_cases hc:c ∈ X.fs
  . obtain ⟨sl,q⟩:=slot c o (I.cne x c e) hc nch ho (I.freeC x c e);exact ⟨_,q,hd⟩
  . exact ⟨o,keep c o (I.cne x c e) hc nch ho (I.freeC x c e),hd⟩
 refine ⟨I.ok,I.os,hg,⟨fun b o e n hb hx=> ?_,fun b o e n hb hx=> ?_,fun b o e n hx=> ?_,fun b o e hx=> ?_,fun b xs e=>tups b xs (I.base.tups b xs e),fun b o xs e=>frzs b o xs (I.base.frzs b o xs e),fun b ps e=> ?_⟩,?_,fun x c e=> ?_,?_,fun x c e=> ?_,fun p hp=> ?_,hok,I.len⟩
 . exact keep b o (neL b o e) hb (neC b o e hx) (I.base.keep b o e n hb hx) (I.base.free b o e n hx)
 . obtain ⟨sl,e1⟩:=I.base.slot b o e n hb hx;obtain ⟨sl',e2⟩:=slot b _ (neL b o e) hb (neC b o e hx) e1 (I.base.free b o e n hx);exact ⟨sl',e2⟩
 . obtain ⟨o',e1⟩:=I.base.there b o e hx;exact free b o' (neC b o e hx) e1 (I.base.free b o e n hx)
 . obtain ⟨o',e1⟩:=I.base.there b o e hx;exact there b o' (neC b o e hx) e1
 . obtain ⟨m1,e1⟩:=I.base.tbls b ps e;obtain ⟨m2,e2⟩:=tbls b _ e1;exact ⟨m1++m2,by rw [e2,Array.append_assoc]⟩
 . obtain ⟨m,hn,hl⟩:=I.loc;refine ⟨m,ns m hn,fun i x v e1 e2 e3=> ?_⟩;obtain ⟨u,r,l⟩:=hl i x v e1 e2 e3;refine ⟨u,r,?_⟩;rcases l with l | ⟨k,c,e,z⟩
   . exact .inl l
   . exact .inr ⟨k,c,e,cellK x c e _ z⟩
 . obtain ⟨v,z⟩:=I.cell x c e;exact ⟨v,cellK x c e v z⟩
 . obtain ⟨m,⟨o,_,_,ho,_⟩,_⟩:=I.loc;exact free _ o (fun z=>(hch _ z).2.1 rfl) ho I.free
 . obtain ⟨v,o,ho,hd⟩:=I.cell x c e;exact free c o (fun z=>(hch c z).2.2.1 x c e rfl) ho (I.freeC x c e)
 . obtain ⟨e,n,ne,nf,d⟩:=I.pin p hp;have nch:p.1 ∉ ch:=fun z=>(hch p.1 z).2.2.2 p hp rfl;exact ⟨keep p.1 p.2 ne nf nch e n,free p.1 p.2 nch e n,ne,nf,d⟩
theorem Inv.un{t':Nat}(I:Inv X pins σ H s)(u:Un X.fs [] H H' s.heap h')(hok:HOk X.prog X.w H' h'):Inv X pins σ H' {s with heap:=h',toks:=t' }:=by
 obtain ⟨m,⟨o,es,ep,ho,r⟩,_⟩:=id I.loc;obtain ⟨sl,hL⟩:=u.any ho I.free (by simp)
 exact I.step (g':=s.gens) (d':=s.drawn) (ch:= []) (fun _ z=>nomatch z) (fun b o _ hb _ e n=>u.keep b o e n hb (by simp)) (fun b o _ hb _ e n=>u.slot b o e n hb (by simp)) (fun b o _ e n=>u.free b o e n (by simp)) (fun b o _ e=>u.there b o e (by simp)) u.tups u.frzs u.tbls (fun m' hm=>by
  obtain ⟨o',es',ep',ho',r'⟩:=hm;rw [ho] at ho';cases ho'
  exact ⟨_,es',ep',hL,r'⟩) hok I.bare
theorem Inv.call {g' : Array GenState} {t' : Nat} {d' : Drawn} {ch : List Addr} (I : Inv X pins σ H s) (u : Un (frs X.stack) ch H H' s.heap h') (hok : HOk X.prog X.w H' h') (hg : AllBare g')
 (hch:∀b ∈ ch,(b ∈ X.ex\/X.s₀.heap.objs.size<=b)/\b≠X.env.locals/\(∀x c,X.env.cells.lookup x=some c->c≠b)/\∀p ∈ X.pn++pins,p.1≠b) :
 Inv X pins σ H' {s with heap:=h',gens:=g',drawn:=d',toks:=t' }:=by
 obtain ⟨m,⟨o,es,ep,ho,r⟩,_⟩:=id I.loc;obtain ⟨sl,hL⟩:=u.any ho I.free fun z=>(hch _ z).2.1 rfl
 exact I.step (ch:=ch) hch (fun b o hL hb hc e n=>u.keep b o e n (fun z=>(B7.mp (I.stkSub b z)).elim hL hb) hc) (fun b o _ _ hc e n=>u.any e n hc) (fun b o hc e n=>u.free b o e n hc) (fun b o hc e=>u.there b o e hc) u.tups u.frzs u.tbls (fun m' hm=>by
  obtain ⟨o',es',ep',ho',r'⟩:=hm;rw [ho] at ho';cases ho'
  exact ⟨_,es',ep',hL,r'⟩) hok hg
theorem Inv.turned {t' : Nat} {it : Addr} (I : Inv X pins σ H s) (k : ∀ b o, b ≠ it -> s.heap.get? b = some o -> h'.get? b = some o) (hn : H it = none) (hL : it ≠ X.env.locals)
 (h1:it ∈ X.ex\/X.s₀.heap.objs.size<=it) (h2:∀x c,X.env.cells.lookup x=some c->c≠it) (h3:∀p ∈ X.pn++pins,p.1≠it):Inv X pins σ H {s with heap:=h',toks:=t' }:=by
 have nit:∀b u,H b=some u->b≠it:=fun b u e z=>by rw [z,hn] at e;cases e
 refine I.step (g':=s.gens) (d':=s.drawn) (ch:= [it]) (fun b hb=> ?_) (fun b o _ _ hc e _=>k b o (fun z=>hc (by simp [z])) e) (fun b o _ _ hc e _=>⟨o.slots,k b o (fun z=>hc (by simp [z])) e⟩) (fun _ _ _ _ n=>n)
  (fun b o hc e=>⟨o,k b o (fun z=>hc (by simp [z])) e⟩) (fun _ _ e=>e) (fun _ _ _ e=>e) (fun b ps e=>⟨#[],by rw [e];simp⟩) (fun m hm=> ?_) (fun b u e=> ?_) I.bare
 . have e:b=it:=by simpa using hb
   subst e;exact ⟨h1,hL,h2,h3⟩
 . obtain ⟨o,es,ep,ho,r⟩:=hm;exact ⟨o,es,ep,k _ o (N5 hL) ho,r⟩
 . refine (I.hok b u e).stay (fun c v hc q=>k c v ?_ q) (fun _ q=>q) fun _ _ q=>q;rcases hc with z | z
   . rw [z];exact nit b u e
   . exact nit c _ z
theorem Inv.tok(I:Inv X pins σ H s)(t:Nat):Inv X pins σ H {s with toks:=t}:=I.un (h':=s.heap) (t':=t) Un.refl I.hok
theorem Inv.kept{t':Nat}(I:Inv X pins σ H s)(k:∀b u,s.heap.get? b=some u->h'.get? b=some u):Inv X pins σ H {s with heap:=h',toks:=t' }:=I.un (Un.kept k) (I.hok.kept k)
theorem Inv.laid {a : Addr} {o : HO} {t' : Nat} (I : Inv X pins σ H s) (k : ∀ b u, s.heap.get? b = some u -> h'.get? b = some u) (hp : s.heap.objs.size <= a) (new : ObjOk X.prog X.w (upd H a o) h' a o) :
 Inv X pins σ (upd H a o) {s with heap:=h',toks:=t' }:=I.un (Un.laid k hp (I.hok.fresh hp)) (I.hok.laid k hp new)
theorem Inv.write {x e : Addr} {o : HO} {t' : Nat} (I : Inv X pins σ H s) (mu : Mut (H x)) (he : e = x \/ H e = some (.own x)) (k : ∀ b u, b ≠ e -> s.heap.get? b = some u -> h'.get? b = some u) (heo : ∃ u, h'.get? e = some u)
 (new:ObjOk X.prog X.w (upd H x o) h' x o):Inv X pins σ (upd H x o) {s with heap:=h',toks:=t' }:=I.un (Un.write mu he k heo) (I.hok.write mu he k heo new)
theorem Inv.weak{σ':List (Option V)}(I:Inv X pins σ H s)(hl:σ'.length=σ.length)(w:∀(i:Nat) v,σ'[i]? = some (some v)->σ[i]? = some (some v)):Inv X pins σ' H s:=
 ⟨I.ok,I.os,I.bare,I.base,let ⟨m,hn,hl'⟩:=I.loc;⟨m,hn,fun i x v e1 e2 e3=>hl' i x v e1 (w i v e2) e3⟩,I.cell,I.free,I.freeC,I.pin,I.hok,hl.trans I.len⟩
theorem Inv.pins_of{pins':List (Addr×Obj)}(I:Inv X pins σ H s)(h:∀p ∈ pins',s.heap.get? p.1=some p.2/\H p.1=none/\p.1≠X.env.locals/\p.1 ∉ X.fs/\∀v,p.2.data ≠ .cell v):Inv X pins' σ H s:=
 ⟨I.ok,I.os,I.bare,I.base,I.loc,I.cell,I.free,I.freeC,fun p hp=>(CM.mp hp).elim (fun z=>I.pin p (EW _ z)) (h p),I.hok,I.len⟩
theorem SS{N:List Str}(hN:N.Nodup){i j:Nat}{x:Str}(a:N[i]? = some x)(b:N[j]? = some x):i=j:=by
 obtain ⟨h1,e1⟩:=AX.mp a;obtain ⟨h2,e2⟩:=AX.mp b;exact (List.getElem_inj hN).mp (e1.trans e2.symm)
theorem UK {M : Model} {A : Around} {E : Value -> Shared -> Prop} {i : Nat} {x : Str} {v : V} {u : Value} {Q : Unit -> Shared -> Prop} (I : Inv X pins σ H s) (hN : X.N.Nodup) (hi : X.N[i]? = some x) (hx : Loc X.env.scope x) (r : RelV v u)
 (h:∀s',Inv X pins (σ.set i (some v)) H s'->(∃a,Heap.SameBut a s.heap s'.heap/\(a=X.env.locals\/X.env.cells.lookup x=some a))->Q () s') (hf:X.fn x=true\/X.env.scope.names.lookup x=some .local:=by first | exact .inl rfl | exact .inr rfl | assumption):wpAny M A (storeName X.env x u) Q E s:=by
 obtain ⟨m,hn,hl⟩:=id I.loc;have hcls:(X.env.scope.kind == .class || (X.env.scope.kind == .module && X.env.locals != X.env.globals))=false:=by rw [I.ok.kind];rfl
 have hiσ:i<σ.length:=by rw [I.len];exact (AX.mp hi).1
 have cne:=I.cne
 have tracked:∀ {a:Addr} {h':Heap},(∃o,s.heap.get? a=some o/\H a=none)->Heap.SameBut a s.heap h'->HOk X.prog X.w H h':=fun {a h'} ha hs b ob e=>by
  obtain ⟨_,_,hfree⟩:=ha;refine (I.hok b ob e).stay (fun c w' hc q=>(hs.2 c ?_).trans q) (fun _ q=>q) fun _ _ q=>q;rintro rfl;rcases hc with rfl | hc
  . rw [hfree] at e;cases e
  . rw [hfree] at hc;cases hc
 rcases hx with hk | hk
 . refine wpAny_storeName_local hk hn (fun h' hn' hs=> ?_) hcls;obtain ⟨oL,_,_,hoL,_⟩:=id hn;refine h _ ⟨I.ok,I.os,I.bare,⟨fun b o e n hb hx=> ?_,fun b o e n hb hx=> ?_,I.base.free,fun b o e hx=> ?_,I.base.tups,I.base.frzs,I.base.tbls⟩,⟨_,hn',fun j y v' e1 e2 e3=> ?_⟩,fun y c e=> ?_,I.free,I.freeC,fun p hp=> ?_,tracked ⟨oL,hoL,I.free⟩ hs,by simpa using I.len⟩ ⟨_,hs, .inl rfl⟩
   . exact (hs.2 b (D2 (B4 (AV e) I.ok.above))).trans (I.base.keep b o e n hb hx)
   . obtain ⟨sl,e1⟩:=I.base.slot b o e n hb hx;exact ⟨sl,(hs.2 b (D2 (B4 (AV e) I.ok.above))).trans e1⟩
   . obtain ⟨o',e1⟩:=I.base.there b o e hx;exact ⟨o',(hs.2 b (D2 (B4 (AV e) I.ok.above))).trans e1⟩
   . by_cases hj:j=i
     . subst hj;rw [hi] at e1;cases e1
       rw [JE hiσ] at e2
       cases e2
       exact ⟨u,r, .inl ⟨hk,by simp⟩⟩
     . rw [AT (N5 hj)] at e2
       obtain ⟨u',r',q⟩:=hl j y v' e1 e2 e3;refine ⟨u',r',?_⟩;rcases q with ⟨k,e⟩ | ⟨k,c,e,z⟩
       . refine .inl ⟨k,?_⟩;have:y≠x:=fun e=>hj (SS hN e1 (e ▸ hi));simp [this,e]
       . exact .inr ⟨k,c,e,z.sameBut hs (cne y c e)⟩
   . obtain ⟨w',z⟩:=I.cell y c e;exact ⟨w',z.sameBut hs (cne y c e)⟩
   . obtain ⟨e,n,ne,nf,d⟩:=I.pin p hp;exact ⟨(hs.2 p.1 ne).trans e,n,ne,nf,d⟩
 . have hfn : X.fn x = true := by
    rcases hf with z | z
    . exact z
    . rw [z] at hk;cases hk
   obtain ⟨c,hc⟩:=I.ok.has x (.inl hk);obtain ⟨w',z⟩:=I.cell x c hc;refine wpAny_storeName_cell I.ok.kind hk hc z (fun h' hc' hs=> ?_);obtain ⟨oc,hoc,hocd⟩:=id z;refine h {s with heap:=h' } ⟨I.ok,I.os,I.bare,⟨fun b o e n hb hx=> ?_,fun b o e n hb hx=> ?_,I.base.free,fun b o e hx=> ?_,I.base.tups,I.base.frzs,I.base.tbls⟩,⟨m,hn.sameBut hs (N5 (cne x c hc)),fun j y v' e1 e2 e3=> ?_⟩,fun y c' e=> ?_,I.free,I.freeC,fun p hp=> ?_,tracked ⟨oc,hoc,I.freeC x c hc⟩ hs,by simpa using I.len⟩ ⟨c,hs, .inr hc⟩
   . exact (hs.2 b (D2 (B4 (AV e) (I.ok.cab x c hfn hc)))).trans (I.base.keep b o e n hb hx)
   . obtain ⟨sl,e1⟩:=I.base.slot b o e n hb hx;exact ⟨sl,(hs.2 b (D2 (B4 (AV e) (I.ok.cab x c hfn hc)))).trans e1⟩
   . obtain ⟨o',e1⟩:=I.base.there b o e hx;exact ⟨o',(hs.2 b (D2 (B4 (AV e) (I.ok.cab x c hfn hc)))).trans e1⟩
   . by_cases hj:j=i
     . subst hj;rw [hi] at e1;cases e1
       rw [JE hiσ] at e2
       cases e2
       exact ⟨u,r, .inr ⟨.inl hk,c,hc,hc'⟩⟩
     . rw [AT (N5 hj)] at e2
       obtain ⟨u',r',q⟩:=hl j y v' e1 e2 e3;refine ⟨u',r',?_⟩;rcases q with q | ⟨k,c',e,z'⟩
       . exact .inl q
       . refine .inr ⟨k,c',e,z'.sameBut hs ?_⟩;rintro rfl;exact hj (SS hN e1 (I.ok.inj _ _ _ e hc ▸ hi))
   . by_cases hcc:c'=c
     . subst hcc;exact ⟨_,hc'⟩
     . obtain ⟨w2,z2⟩:=I.cell y c' e;exact ⟨w2,z2.sameBut hs hcc⟩
   . obtain ⟨e,n,ne,nf,d⟩:=I.pin p hp;refine ⟨(hs.2 p.1 ?_).trans e,n,ne,nf,d⟩;intro q;rw [q,hoc] at e
     have q':oc=p.2:=B6 e;exact d w' (by rw [<-q'];exact hocd)
theorem YX {M : Model} {A : Around} {E : Value -> Shared -> Prop} {i : Nat} {x : Str} {v : V} {u : Value} {Q : Unit -> Shared -> Prop} (I : Inv X pins σ H s) (hN : X.N.Nodup) (hi : X.N[i]? = some x) (hx : Loc X.env.scope x) (r : RelV v u)
 (h:∀s',Inv X pins (σ.set i (some v)) H s'->Q () s') (hf:X.fn x=true\/X.env.scope.names.lookup x=some .local:=by first | exact .inl rfl | exact .inr rfl | assumption):wpAny M A (storeName X.env x u) Q E s:=
 UK I hN hi hx r (fun s' I' _=>h s' I') hf
theorem Inv.call' {s' : Shared} {ch : List Addr} (I : Inv X pins σ H s) (ho : s'.os = s.os) (u : Un (frs X.stack) ch H H' s.heap s'.heap) (hok : HOk X.prog X.w H' s'.heap) (hg : AllBare s'.gens)
 (hch:∀b ∈ ch,(b ∈ X.ex\/X.s₀.heap.objs.size<=b)/\b≠X.env.locals/\(∀x c,X.env.cells.lookup x=some c->c≠b)/\∀p ∈ X.pn++pins,p.1≠b):Inv X pins σ H' s':=by
 obtain ⟨h',g',d',t',o'⟩:=s';have e:o'=s.os:=ho;subst e;exact I.call (g':=g') (t':=t') (d':=d') u hok hg hch
end
abbrev XK:=Value->Option Addr->Hp->Prop
abbrev St:=List (Option V)
abbrev VK:=V->Hp->Prop
abbrev TE:=St->Hp->VK->Prop
abbrev TT:=St->Hp->(Bool->Hp->Prop)->Prop
abbrev TA:=St->Hp->(List V->Hp->Prop)->Prop
structure Ends where
 nx:St->Hp->Prop
 rt:VK
 bk:St->Hp->Prop:=fun _ _=>False
 ct:St->Hp->Prop:=fun _ _=>False
abbrev TS:=Ends->St->Hp->Prop
def EP(X:Cx)(pins:List (Addr×Obj))(σ:St)(Q:VK)(u:Value)(s':Shared):Prop:=∃v H',Inv X pins σ H' s'/\RelV v u/\Q v H'
def TP(X:Cx)(pins:List (Addr×Obj))(σ:St)(Q:Bool->Hp->Prop)(b:Bool)(s':Shared):Prop:=∃H',Inv X pins σ H' s'/\Q b H'
def AP(X:Cx)(pins:List (Addr×Obj))(σ:St)(Q:List V->Hp->Prop)(us:List Value)(s':Shared):Prop:=∃vs H',Inv X pins σ H' s'/\Vals vs us/\Q vs H'
def SP(X:Cx)(pins:List (Addr×Obj))(D:Ends)(f:Flow)(s':Shared):Prop:=
 match f with
 | .next=>∃σ' H',Inv X pins σ' H' s'/\D.nx σ' H'
 | .brk=>∃σ' H',Inv X pins σ' H' s'/\D.bk σ' H'
 | .cont=>∃σ' H',Inv X pins σ' H' s'/\D.ct σ' H'
 | .ret u=>∃v σ' H',Inv X pins σ' H' s'/\RelV v u/\D.rt v H'
def PE(X:Cx)(e:Expr)(t:TE):Prop:=
 ∀(pins:List (Addr×Obj)) (s:Shared) (σ:St) (H:Hp) (Q:VK),Inv X pins σ H s->t σ H Q->wpAny (model X.prog X.w) X.A (eval e X.env) (EP X pins σ Q) X.xe s
def PT(X:Cx)(e:Expr)(t:TT):Prop:=
 ∀(pins:List (Addr×Obj)) (s:Shared) (σ:St) (H:Hp) (Q:Bool->Hp->Prop),Inv X pins σ H s->t σ H Q->wpAny (model X.prog X.w) X.A (isTrue e X.env (eval e X.env)) (TP X pins σ Q) X.xe s
def PW(X:Cx)(e:Expr)(t:TT):Prop:=
 ∀(whole:Sem Value) (pins:List (Addr×Obj)) (s:Shared) (σ:St) (H:Hp) (Q:Bool->Hp->Prop),Inv X pins σ H s->t σ H Q->wpAny (model X.prog X.w) X.A (isTrue e X.env whole) (TP X pins σ Q) X.xe s
theorem PW.pt{X:Cx}{e:Expr}{t:TT}(h:PW X e t):PT X e t:=h _
def PA(X:Cx)(es:List Expr)(t:TA):Prop:=
 ∀(pos:Pos) (pins:List (Addr×Obj)) (s:Shared) (σ:St) (H:Hp) (Q:List V->Hp->Prop),Inv X pins σ H s->t σ H Q->wpAny (model X.prog X.w) X.A (spliced (backTo pos (starEach es X.env))) (AP X pins σ Q) X.xe s
def PS(X:Cx)(st:Stmt)(t:TS):Prop:=
 ∀(pins:List (Addr×Obj)) (s:Shared) (σ:St) (H:Hp) (D:Ends),Inv X pins σ H s->t D σ H->wpAny (model X.prog X.w) X.A (exec st X.env) (SP X pins D) X.xe s
def PSs(X:Cx)(st:List Stmt)(t:TS):Prop:=
 ∀(pins:List (Addr×Obj)) (s:Shared) (σ:St) (H:Hp) (D:Ends),Inv X pins σ H s->t D σ H->wpAny (model X.prog X.w) X.A (execs st X.env) (SP X pins D) X.xe s
theorem thn{α:Type}{t:Sem α}{Q Q':α->Shared->Prop}{M:Model}{A:Around}{E:Value->Shared->Prop}{s:Shared}(h:wpAny M A t Q E s)(hQ:∀a s,Q a s->Q' a s):wpAny M A t Q' E s:=HF h hQ fun _ _ x=>x
end L2
namespace L2
open PySem PySem.Spec PyProof.Rows
section
variable {X:Cx}
theorem bin {a b : Expr} {ta tb : TE} (ha : PE X a ta) (hb : PE X b tb) {pins : List (Addr × Obj)} {s : Shared} {σ : St} {H : Hp} {R : V -> V -> Hp -> Prop} (I : Inv X pins σ H s) (h : ta σ H fun x H1 => tb σ H1 fun y H2 => R x y H2)
 {α:Type} {Q:α->Shared->Prop} {f:Value->Value->Sem α}
 (hf:∀v u s2 x y H2,Inv X pins σ H2 s2->RelV x v->RelV y u->R x y H2->wpAny (model X.prog X.w) X.A (f v u) Q X.xe s2) :
 wpAny (model X.prog X.w) X.A (eval a X.env) (fun v s₁=>wpAny (model X.prog X.w) X.A (eval b X.env) (fun u s₂=>wpAny (model X.prog X.w) X.A (f v u) Q X.xe s₂) X.xe s₁) X.xe s:=by
 refine thn (ha pins s σ H _ I h) fun v s1 ⟨x,H1,I1,r1,q1⟩ => ?_;refine thn (hb pins s1 σ H1 _ I1 q1) fun u s2 ⟨y,H2,I2,r2,q2⟩ => ?_;exact hf v u s2 x y H2 I2 r1 r2 q2
def MY(i:Nat):TE:=fun σ H Q=>∃v,σ[i]? = some (some v)/\Q v H
def tC(v:V):TE:=fun _ H Q=>Q v H
theorem GV {i:Nat} {x:Str} {pos:Pos} (hN:X.N[i]? = some x) (hv:Vis X.env.scope x) (hd:(x==("__debug__" : Str))=false:=by decide) (hcd:(x==("__classdict__" : Str))=false:=by decide):PE X (.Name x pos) (MY i):=by
 intro pins s σ H Q I h;obtain ⟨v,e,h⟩:=h;obtain ⟨m,hn,hl⟩:=I.loc;obtain ⟨u,r,l⟩:=hl i x v hN e hv;have fin:EP X pins σ Q u s:=⟨v,H,I,r,h⟩;rcases l with ⟨hk,hm⟩ | ⟨hk,c,hc,hcell⟩
 . exact wpAny_Name (wpAny_loadName_local I.ok.kind hk hn hm fin) hd
 . rcases hk with hk | hk
   . exact wpAny_Name (wpAny_loadName_cell I.ok.kind hk hc hcell fin) hd
   . exact wpAny_Name (wpAny_loadName_free I.ok.kind hk hc hcell fin hcd) hd
theorem yH{i j pos}:PE X (.Constant (.int i) j pos) (tC (.int i)):=fun _ _ _ H _ I h=>wpAny_Constant_int ⟨.int i,H,I.tok _,⟨_,rfl⟩,h⟩
theorem A71{b j pos}:PE X (.Constant (.bool b) j pos) (tC (.bl b)):=fun _ _ _ H _ I h=>Constant_bool ⟨.bl b,H,I,rfl,h⟩
theorem zR{j pos}:PE X (.Constant .none j pos) (tC .non):=fun _ _ _ H _ I h=>Constant_none ⟨.non,H,I,rfl,h⟩
theorem xV{x j pos}:PE X (.Constant (.str x) j pos) (tC (.str x)):=fun _ _ _ H _ I h=>Calls.Constant_str ⟨.str x,H,I.tok _,⟨_,rfl⟩,h⟩
def Gl(X:Cx)(x:Str):Prop:=X.env.kindOf x=some .globalImplicit
theorem VJ {E : Value -> Shared -> Prop} {pins : List (Addr × Obj)} {s : Shared} {σ : St} {H : Hp} {x : Str} {u : Value} {pos : Pos} {Q : Value -> Shared -> Prop} (I : Inv X pins σ H s) (hg : Gl X x) (hm : X.mg x = some u) (h : Q u s)
 (hd:(x==("__debug__" : Str))=false:=by decide):wpAny (model X.prog X.w) X.A (eval (.Name x pos) X.env) Q E s:=
 A57 I.ok.kind hg (Calls.loadGlobal_global (by rw [I.ok.glob];exact I.mod.glob.keeps I.bk) hm h) hd
theorem HS {E : Value -> Shared -> Prop} {pins : List (Addr × Obj)} {s : Shared} {σ : St} {H : Hp} {x : Str} {u : Value} {pos : Pos} {Q : Value -> Shared -> Prop} (I : Inv X pins σ H s) (hg : Gl X x) (hm : X.mg x = none) (hv : bootBuiltins x = some u) (h : Q u s)
 (hn:x ≠ "__name__" :=by decide) (hd:(x==("__debug__" : Str))=false:=by decide):wpAny (model X.prog X.w) X.A (eval (.Name x pos) X.env) Q E s:=by
 obtain ⟨mb,h1,h2⟩:=I.mod.blt;exact A57 I.ok.kind hg (Calls.loadGlobal_builtin (by rw [I.ok.glob];exact I.mod.glob.keeps I.bk) hm (by rw [I.ok.blt];exact h1.keeps I.bk) ((h2 x hn).trans hv) h) hd
theorem sK {x:Str} {v:V} {u:Value} {pos:Pos} (hg:Gl X x) (hm:X.mg x=some u) (r:RelV v u) (hd:(x==("__debug__" : Str))=false:=by decide):PE X (.Name x pos) (tC v) :=
 fun _ _ _ H _ I h=>VJ I hg hm ⟨v,H,I,r,h⟩ hd
variable {a b:Expr} {ta tb:TE} {pos:Pos}
def PC(X:Cx)(op:CmpOp)(a b:Expr)(t:TE):Prop:=
 ∀(pins:List (Addr×Obj)) (s:Shared) (σ:St) (H:Hp) (Q:VK),Inv X pins σ H s->t σ H Q ->
   wpAny (model X.prog X.w) X.A (eval a X.env) (fun v s₁=>wpAny (model X.prog X.w) X.A (eval b X.env) (fun u s₂=>wpAny (model X.prog X.w) X.A (compareOp op v u) (EP X pins σ Q) X.xe s₂) X.xe s₁) X.xe s
def tB(t:TE):TT:=fun σ H Q=>t σ H fun x H1=>∃c,x = .bl c/\Q c H1
theorem AF5{op:CmpOp}{t:TE}(h:PC X op a b t)(h1:behindInMarks op b=false:=by first | exact nobehind _ (by decide) (by decide) | rfl):PT X (.Compare a [op] [b] pos) (tB t):=by
 intro pins s σ H Q I hw;refine AG7 (thn (h pins s σ H _ I hw) fun v s1 h1=>thn h1 fun u s2 h2=>thn h2 fun c s3 ⟨x,H1,I1,r1,q1⟩ => ?_) h1;obtain ⟨d,rfl,q⟩:=q1
 cases r1
 exact KE ⟨H1,I1,q⟩
theorem A07{e:Expr}{t:TE}(h:PE X e t)(he:∀whole,isTrue e X.env whole=(do let v <-whole;standAt e.pos;holding [v] (truthy v)):=by intro _;rfl):PT X e (tB t):=by
 intro pins s σ H Q I hw;refine isTrue_plain (thn (h pins s σ H _ I hw) fun v s1 ⟨x,H1,I1,r1,q1⟩ => ?_) (he _);obtain ⟨d,rfl,q⟩:=q1
 cases r1
 exact KE ⟨H1,I1,q⟩
variable {tA tB':TT} {GX:List Expr}
def AC1(t u:TT):TT:=fun σ H Q=>t σ H fun c H1=>if c=true then u σ H1 Q else Q false H1
def tOr(t u:TT):TT:=fun σ H Q=>t σ H fun c H1=>if c=true then Q true H1 else u σ H1 Q
def A64(t:TT):TT:=fun σ H Q=>t σ H fun c H1=>Q (!c) H1
theorem uG(ha:PT X a tA):PW X (.BoolOp .And [a] pos) tA:=by
 intro wh pins s σ H Q I h;refine isTrue_and (thn (ha pins s σ H Q I h) fun c s1 e=> ?_)
 cases c with
 | true=>exact isTrue_and_nil e
 | false=>exact e
theorem xA(ha:PT X a tA):PW X (.BoolOp .Or [a] pos) tA:=by
 intro wh pins s σ H Q I h;refine isTrue_or (thn (ha pins s σ H Q I h) fun c s1 e=> ?_)
 cases c with
 | false=>exact isTrue_or_nil e
 | true=>exact e
theorem zM(ha:PT X a tA)(hb:PW X (.BoolOp .And (b::GX) pos) tB'):PW X (.BoolOp .And (a::b::GX) pos) (AC1 tA tB'):=by
 intro wh pins s σ H Q I h;refine isTrue_and (thn (ha pins s σ H _ I h) fun c s1 ⟨H1,I1,q1⟩ => ?_)
 cases c with
 | true=>exact hb wh pins s1 σ H1 Q I1 q1
 | false=>exact ⟨H1,I1,q1⟩
theorem A69(ha:PT X a tA)(hb:PW X (.BoolOp .Or (b::GX) pos) tB'):PW X (.BoolOp .Or (a::b::GX) pos) (tOr tA tB'):=by
 intro wh pins s σ H Q I h;refine isTrue_or (thn (ha pins s σ H _ I h) fun c s1 ⟨H1,I1,q1⟩ => ?_)
 cases c with
 | true=>exact ⟨H1,I1,q1⟩
 | false=>exact hb wh pins s1 σ H1 Q I1 q1
theorem yX(ha:PT X a tA):PT X (.UnaryOp .Not a pos) (A64 tA):=by
 intro pins s σ H Q I h;exact isTrue_not (ha pins s σ H (fun c H1=>Q (!c) H1) I h)
def vF(ta tb:TE):TE:=fun σ H Q=>ta σ H fun x H1=>∃c,x = .bl c/\if c=true then tb σ H1 Q else Q (.bl false) H1
theorem wO{op}{t:TE}(h:PE X a t):PE X (.BoolOp op [a] pos) t:=fun pins s σ H Q I hw=>BoolOp_one (h pins s σ H Q I hw)
theorem zK(ha:PE X a ta)(hb:PE X (.BoolOp .And (b::GX) pos) tb):PE X (.BoolOp .And (a::b::GX) pos) (vF ta tb):=by
 intro pins s σ H Q I h;refine BoolOp_and (thn (ha pins s σ H _ I h) fun v s1 ⟨x,H1,I1,r1,q1⟩ => ?_);obtain ⟨c,rfl,q1⟩:=q1
 cases r1
 refine KE ?_
 cases c with
 | true=>exact hb pins s1 σ H1 Q I1 q1
 | false=>exact ⟨.bl false,H1,I1,rfl,q1⟩
end
end L2
namespace L2
open PySem PySem.Spec PyProof.Rows
def SqL(K:PySem.W.Frag)(H:Hp)(a:Addr)(xs:List V):Prop:=
 Rd H a (.lst xs) \/
  ∃(o:Obj) (its:Array Value) (n:Nat),K.lookup a=some o/\o.cls = .type "list" /\ o.dict=none/\o.data = .seq its n/\its.size<=sizeLine/\Vals xs its.toList
def SqT(K:PySem.W.Frag)(H:Hp)(a:Addr)(xs:List V):Prop:=
 Rd H a (.tup xs) \/
  ∃(o:Obj) (its:Array Value) (n:Nat),K.lookup a=some o/\o.cls = .type "tuple" /\ o.data = .seq its n/\its.size<=sizeLine/\Vals xs its.toList
def AF0:Value->Option V
 | .none=>some .non
 | .bool b=>some (.bl b)
 | .int i _=>some (.int i)
 | .str x _=>some (.str x)
 | .bytes b _=>some (.byt b)
 | .float b _=>some (.flt b)
 | .ref a=>some (.ref a)
 | .type n=>some (.ty n)
 | _=>none
theorem RelV.abs{x:V}{u:Value}(r:RelV x u):AF0 u=some x:=by
 cases x with
 | non=>cases r;rfl
 | bl _=>cases r;rfl
 | int _=>obtain ⟨t,rfl⟩:=r;rfl
 | str _=>obtain ⟨t,rfl⟩:=r;rfl
 | byt _=>obtain ⟨t,rfl⟩:=r;rfl
 | flt _=>obtain ⟨t,rfl⟩:=r;rfl
 | ref _=>cases r;rfl
 | ty _=>cases r;rfl
theorem RelV.inj{x y:V}{u:Value}(r:RelV x u)(q:RelV y u):x=y:=B6 (r.abs.symm.trans q.abs)
theorem Vals.inj:∀ {xs ys:List V} {us:List Value},Vals xs us->Vals ys us->xs=ys
 | _,_,_, .nil, .nil=>rfl
 | _,_,_, .cons r t, .cons r' t'=>by rw [r.inj r',Vals.inj t t']
section
variable {X:Cx} {pins:List (Addr×Obj)} {σ:St} {H:Hp} {s:Shared} {a:Addr} {xs ys:List V}
theorem SqL.of{K:PySem.W.Frag}(h:H a=some (.lst xs)):SqL K H a xs:= .inl (.inl h)
theorem SqT.of{K:PySem.W.Frag}(h:H a=some (.tup xs)):SqT K H a xs:= .inl (.inl h)
theorem Inv.list(I:Inv X pins σ H s)(h:SqL X.K H a xs):∃its:List Value,Vals xs its/\PlainL s.heap a its.toArray/\xs.length<=sizeLine:=by
 rcases h with h | ⟨o,its,n,hk,hc,hd,hs,hz,r⟩
 . obtain ⟨z,its,n,r,e⟩:=h.ok I.hok;exact ⟨its,r,⟨_,n,e,rfl,rfl,rfl⟩,z⟩
 . refine ⟨its.toList,r,⟨o,n,I.kIn a o hk,hc,hd,by simpa using hs⟩,?_⟩;have e:=r.length;simp only [F4] at e
   omega
theorem Inv.tuple(I:Inv X pins σ H s)(h:SqT X.K H a xs):∃its:List Value,Vals xs its/\IsTup s.heap a its.toArray/\xs.length<=sizeLine:=by
 rcases h with h | ⟨o,its,n,hk,hc,hs,hz,r⟩
 . obtain ⟨z,its,r,p⟩:=h.ok I.hok;exact ⟨its,r,p,z⟩
 . refine ⟨its.toList,r,⟨o,I.kIn a o hk,hc,n,by simpa using hs⟩,?_⟩;have e:=r.length;simp only [F4] at e
   omega
theorem Inv.list_inj(I:Inv X pins σ H s)(h:SqL X.K H a xs)(h':SqL X.K H a ys):xs=ys:=by
 obtain ⟨its,r,⟨o,n,e,_,_,d⟩,_⟩:=I.list h;obtain ⟨its',r',⟨o',n',e',_,_,d'⟩,_⟩:=I.list h';rw [e] at e';cases e'
 rw [d] at d'
 injection d' with d1 _
 have:its=its':=by simpa using GM Array.toList d1
 subst this;exact r.inj r'
theorem Inv.tuple_inj(I:Inv X pins σ H s)(h:SqT X.K H a xs)(h':SqT X.K H a ys):xs=ys:=by
 obtain ⟨its,r,⟨o,e,_,n,d⟩,_⟩:=I.tuple h;obtain ⟨its',r',⟨o',e',_,n',d'⟩,_⟩:=I.tuple h';rw [e] at e';cases e'
 rw [d] at d'
 injection d' with d1 _
 have:its=its':=by simpa using GM Array.toList d1
 subst this;exact r.inj r'
end
abbrev Cx.wish (X:Cx) (E:Value->Shared->Prop):Cx:={ X with xe:=E}
abbrev Cx.nox (X:Cx):Cx:=X.wish fun _ _=>False
theorem Cx.Ok.wish{X:Cx}(ok:X.Ok)(E:Value->Shared->Prop):(X.wish E).Ok:=
 ⟨ok.mod,ok.kind,ok.glob,ok.blt,ok.above,ok.inj,ok.has,ok.cab,ok.hd,ok.frames,ok.stk,ok.exf,ok.bs,ok.bsz,ok.noex,ok.exfs,ok.funs,ok.frf,ok.tb⟩
theorem Cx.Ok.unwish{X:Cx}{E:Value->Shared->Prop}(ok:(X.wish E).Ok):X.Ok:=
 ⟨ok.mod,ok.kind,ok.glob,ok.blt,ok.above,ok.inj,ok.has,ok.cab,ok.hd,ok.frames,ok.stk,ok.exf,ok.bs,ok.bsz,ok.noex,ok.exfs,ok.funs,ok.frf,ok.tb⟩
section
variable {X:Cx} {pins:List (Addr×Obj)} {σ:St} {H:Hp} {s:Shared} {E:Value->Shared->Prop}
theorem Inv.wish(I:Inv X pins σ H s)(E:Value->Shared->Prop):Inv (X.wish E) pins σ H s:=⟨I.ok.wish E,I.os,I.bare,I.base,I.loc,I.cell,I.free,I.freeC,I.pin,I.hok,I.len⟩
theorem Inv.unwish(I:Inv (X.wish E) pins σ H s):Inv X pins σ H s:=⟨I.ok.unwish,I.os,I.bare,I.base,I.loc,I.cell,I.free,I.freeC,I.pin,I.hok,I.len⟩
theorem SP.unwish{D:Ends}{f:Flow}{s':Shared}(h:SP (X.wish E) pins D f s'):SP X pins D f s':=by
 cases f with
 | next=>obtain ⟨σ',H',I,q⟩:=h;exact ⟨σ',H',I.unwish,q⟩
 | brk=>obtain ⟨σ',H',I,q⟩:=h;exact ⟨σ',H',I.unwish,q⟩
 | cont=>obtain ⟨σ',H',I,q⟩:=h;exact ⟨σ',H',I.unwish,q⟩
 | ret u=>obtain ⟨v,σ',H',I,r,q⟩:=h;exact ⟨v,σ',H',I.unwish,r,q⟩
theorem PSs.nox{st:List Stmt}{t:TS}(h:PSs X.nox st t):PSs X st t:=fun pins s σ H D I hw=>
 HF (h pins s σ H D (I.wish _) hw) (fun _ _ q=>q.unwish) fun _ _ z=>False.elim z
end
section
variable {X:Cx} {st:Stmt} {GX:List Stmt} {t u:TS} {e:Expr} {te:TE} {pos:Pos}
def tNext:TS:=fun D σ H=>D.nx σ H
def xK(t u:TS):TS:=fun D σ H=>t { D with nx:=u D} σ H
theorem qW:PSs X [] tNext:=fun _ _ σ H _ I h=>U6 ⟨σ,H,I,h⟩
theorem YT(h1:PS X st t)(h2:PSs X GX u):PSs X (st::GX) (xK t u):=by
 intro pins s σ H D I h;refine wpAny_execs_cons (thn (h1 pins s σ H { D with nx:=u D} I h) fun f s1 q=> ?_)
 cases f with
 | next=>
  obtain ⟨σ',H',I',q⟩:=q
  exact h2 pins s1 σ' H' D I' q
 | ret v=>exact q
 | brk=>exact q
 | cont=>exact q
theorem d0(h1:PS X st t):PSs X [st] t:=by
 intro pins s σ H D I h;refine wpAny_execs_cons (thn (h1 pins s σ H D I h) fun f s1 q=> ?_)
 cases f with
 | next=>exact U6 q
 | ret v=>exact q
 | brk=>exact q
 | cont=>exact q
theorem Inv.quiet{pins:List (Addr×Obj)}{σ:St}{H:Hp}{s:Shared}(I:Inv X pins σ H s):interactive X.env=false:=by simp [interactive,I.ok.kind]
def ZK(te:TE):TS:=fun D σ H=>te σ H fun _ H1=>D.nx σ H1
theorem QX(he:PE X e te)(hs:swapsWith e none pos.line X.env=pure false:=by rfl):PS X (.Expr e pos) (ZK te):=by
 intro pins s σ H D I h;exact wpAny_Expr_any (thn (he pins s σ H _ I h) fun v s1 ⟨x,H1,I1,r1,q1⟩=>⟨σ,H1,I1,q1⟩) I.quiet hs
def wT(te:TE):TS:=fun D σ H=>te σ H D.rt
theorem aI(he:PE X e te):PS X (.Return (some e) pos) (wT te):=by
 intro pins s σ H D I h;exact wpAny_Return_some (thn (he pins s σ H _ I h) fun v s1 ⟨x,H1,I1,r1,q1⟩=>⟨x,σ,H1,I1,r1,q1⟩)
def tRetN:TS:=fun D _ H=>D.rt .non H
theorem rJ:PS X (.Return none pos) tRetN:=fun _ _ σ H _ I h=>wpAny_Return_none ⟨.non,σ,H,I,rfl,h⟩
def A65(c:TT)(t u:TS):TS:=fun D σ H=>c σ H fun b H1=>if b=true then t D σ H1 else u D σ H1
theorem A79{c:Expr}{a b:List Stmt}{tc:TT}(hc:PT X c tc)(ha:PSs X a t)(hb:PSs X b u):PS X (.If c a b pos) (A65 tc t u):=by
 intro pins s σ H D I h;refine wpAny_If (thn (hc pins s σ H _ I h) fun d s1 ⟨H1,I1,q1⟩ => ?_)
 cases d with
 | true=>exact ha pins s1 σ H1 D I1 q1
 | false=>exact hb pins s1 σ H1 D I1 q1
def tNever:TS:=fun _ _ _=>False
theorem oY:PS X st tNever:=fun _ _ _ _ _ _ h=>h.elim
end
abbrev TG:=V->St->Hp->(St->Hp->Prop)->Prop
abbrev TGs:=List V->St->Hp->(St->Hp->Prop)->Prop
def PG(X:Cx)(target:Expr)(t:TG):Prop:=
 ∀(pins:List (Addr×Obj)) (s:Shared) (σ:St) (H:Hp) (v:V) (u:Value) (Q:St->Hp->Prop),Inv X pins σ H s->RelV v u->t v σ H Q ->
   wpAny (model X.prog X.w) X.A (assign target X.env u) (fun _ s'=>∃σ' H',Inv X pins σ' H' s'/\Q σ' H') X.xe s
def PGs(X:Cx)(ts:List Expr)(t:TGs):Prop:=
 ∀(pins:List (Addr×Obj)) (s:Shared) (σ:St) (H:Hp) (vs:List V) (us:List Value) (Q:St->Hp->Prop),Inv X pins σ H s->Vals vs us->t vs σ H Q ->
   wpAny (model X.prog X.w) X.A (assignInOrder ((assignEach ts X.env).map (·.2)) us) (fun _ s'=>∃σ' H',Inv X pins σ' H' s'/\Q σ' H') X.xe s
abbrev A33:=V->V->V->Hp->(Hp->Prop)->Prop
def AC7(X:Cx)(t:A33):Prop:=
 ∀(pins:List (Addr×Obj)) (s:Shared) (σ:St) (H:Hp) (o i v:V) (ov iv u:Value) (Q:Hp->Prop),Inv X pins σ H s->RelV o ov->RelV i iv->RelV v u->t o i v H Q ->
   wpAny (model X.prog X.w) X.A (setItem ov iv u) (fun _ s'=>∃H',Inv X pins σ H' s'/\Q H') X.xe s
section
variable {X:Cx} {pos:Pos}
def SB(i:Nat):TG:=fun v σ H Q=>Q (σ.set i (some v)) H
theorem fD{i:Nat}{x:Str}(hN:X.N.Nodup)(hi:X.N[i]? = some x)(hx:Loc X.env.scope x)(hf:X.fn x=true\/X.env.scope.names.lookup x=some .local:=by first | exact .inl rfl | exact .inr rfl | assumption):PG X (.Name x pos) (SB i):=by
 intro pins s σ H v u Q I r h;exact wpAny_assign_Name (YX I hN hi hx r (fun s' I'=>⟨_,H,I',h⟩) hf)
def gNil:TGs:=fun vs σ H Q=>vs = []/\Q σ H
def jX(t:TG)(u:TGs):TGs:=fun vs σ H Q=>∃v r,vs=v::r/\t v σ H fun σ' H'=>u r σ' H' Q
theorem eO:PGs X [] gNil:=by
 intro pins s σ H vs us Q I r h;obtain ⟨e,h⟩:=h;subst e
 cases r
 exact assignInOrder_nil ⟨σ,H,I,h⟩
theorem XQ {e : Expr} {es : List Expr} {t : TG} {u : TGs} (h1 : PG X e t) (h2 : PGs X es u)
 (hs:(assignEach (e::es) X.env).map (·.2)=assign e X.env::(assignEach es X.env).map (·.2):=by rfl):PGs X (e::es) (jX t u):=by
 intro pins s σ H vs us Q I r h;obtain ⟨v,vr,e1,h⟩:=h;subst e1
 cases r with
 | cons r rr=>
  rw [hs];refine assignInOrder_cons (thn (h1 pins s σ H _ _ _ I r h) fun _ s1 ⟨σ1,H1,I1,q1⟩ => ?_);exact h2 pins s1 σ1 H1 _ _ Q I1 rr q1
def xI(K:PySem.W.Frag)(n:Nat)(t:TGs):TG:=fun v σ H Q=>∃a xs,v = .ref a/\SqT K H a xs/\xs.length=n/\t xs σ H Q
theorem oH {es : List Expr} {k : Nat} {t : TGs} {n : Nat} (hc : X.calm = true) (h : PGs X es t)
 (hn:(assignEach es X.env).length=n:=by rfl) (hst:(assignEach es X.env).findIdx? (·.1)=none:=by rfl):PG X (.Tuple es k pos) (xI X.K n t):=by
 intro pins s σ H v u Q I r hw;obtain ⟨a,xs,e1,hq,hl,hw⟩:=hw;subst e1
 cases r
 obtain ⟨its,rv,ht,hz⟩:=I.tuple hq;refine assign_Tuple_tuple (I.ok.hd hc) ht (by simp [hn, <-hl,rv.length]) hst fun h' hx=> ?_;have I1:Inv X pins σ H {s with heap:=h' }:=I.kept (t':=s.toks) fun b o e=>hx b o (D2 (AV e)) e;exact h pins _ σ H xs _ Q I1 (by simpa using rv) hw
def wM(to ti:TE)(t:A33):TG:=fun v σ H Q=>to σ H fun o H1=>ti σ H1 fun i H2=>t o i v H2 fun H3=>Q σ H3
theorem jL {o i : Expr} {to ti : TE} {t : A33} (ho : PE X o to) (hi : PE X i ti) (hs : AC7 X t)
 (ha:∀v,assign (.Subscript o i pos) X.env v=(do
  let ov <-holding [v] (eval o X.env)
  let iv <-holding [v,ov] (eval i X.env)
  standAt pos
  holding [v,ov,iv] (setItem ov iv v)
  release [v,ov,iv] []):=by intro _;rfl):PG X (.Subscript o i pos) (wM to ti t):=by
 intro pins s σ H v u Q I r h;rw [ha];refine A7 (FT (thn (ho pins s σ H _ I h) fun ov s1 ⟨x,H1,I1,r1,q1⟩ => ?_));refine A7 (FT (thn (hi pins s1 σ H1 _ I1 q1) fun iv s2 ⟨y,H2,I2,r2,q2⟩ => ?_));refine A7 (AD7 (A7 (FT (thn (hs pins s2 σ H2 x y v ov iv u _ I2 r1 r2 r q2) fun _ s3 ⟨H3,I3,q3⟩ => ?_))));exact wpAny_release ⟨σ,H3,I3,q3⟩
def Z2(te:TE)(g:TG):TS:=fun D σ H=>te σ H fun x H1=>g x σ H1 D.nx
theorem bK {tg e : Expr} {te : TE} {g : TG} (he : PE X e te) (hg : PG X tg g) (hs : swapsWithSole [tg] e pos.line X.env = pure false := by rfl) (hw : swappedStores [tg] e X.env = pure none := by rfl)
 (h1:(assignEach [tg] X.env).map (·.2) = [assign tg X.env]:=by rfl):PS X (.Assign [tg] e pos) (Z2 te g):=by
 intro pins s σ H D I h;refine wpAny_Assign_stores (thn (he pins s σ H _ I h) fun v s1 ⟨x,H1,I1,r1,q1⟩ => ?_) hs hw;rw [h1];exact thn (hg pins s1 σ H1 x v _ I1 r1 q1) fun _ s2 q=>q
theorem b7 {i : Nat} {x : Str} {e : Expr} {te : TE} {pos' : Pos} (hN : X.N.Nodup) (hi : X.N[i]? = some x) (hx : Loc X.env.scope x) (he : PE X e te) (hs : swapsWith e (some (.Name x pos')) pos.line X.env = pure false := by rfl) (hf : X.fn x = true \/ X.env.scope.names.lookup x = some .local := by first | exact .inl rfl | exact .inr rfl | assumption) :
 PS X (.Assign [.Name x pos'] e pos) (Z2 te (SB i)):=by
 intro pins s σ H D I h;refine wpAny_Assign_Name (thn (he pins s σ H _ I h) fun v s1 ⟨y,H1,I1,r1,q1⟩ => ?_) hs;exact YX I1 hN hi hx r1 (fun s2 I2=>⟨_,H1,I2,q1⟩) hf
end
section
variable {X:Cx} {pos:Pos}
def kP(c:TT)(tb:TS):TS:=fun D σ H=>∃W:Nat->St->Hp->Prop,(∃m,W m σ H)/\∀m σ H,W m σ H ->
 c σ H fun b H1=>if b=true then ∃N:St->Hp->Prop,(∀σ' H',N σ' H'->∃m',m'<m/\W m' σ' H')/\tb { D with nx:=N,ct:=N,bk:=D.nx} σ H1 else D.nx σ H1
theorem jG{c:Expr}{body:List Stmt}{tc:TT}{tb:TS}(hp:PassesOwn (model X.prog X.w) X.A X.env X.xe)(hc:PT X c tc)(hb:PSs X body tb):PS X (.While c body [] pos) (kP tc tb):=by
 intro pins s σ H D I h;obtain ⟨W,⟨m0,w0⟩,turn⟩:=h;refine wpAny_While (codeAny_whileLoop (fun n s'=>∃σ' H',Inv X pins σ' H' s'/\W n σ' H') ?_ m0 ⟨σ,H,I,w0⟩);rintro n s1 ⟨σ1,H1,I1,w1⟩;refine HI hp (thn (hc pins s1 σ1 H1 _ I1 (turn n σ1 H1 w1)) fun b s2 ⟨H2,I2,q2⟩ => ?_)
 cases b with
 | true=>
  obtain ⟨N,hN,q2⟩:=q2;rw [AU rfl];refine HI hp (thn (hb pins s2 σ1 H2 _ I2 q2) fun f s3 q3=> ?_)
  cases f with
  | next=>
   obtain ⟨σ3,H3,I3,n3⟩:=q3;obtain ⟨m',hm,w3⟩:=hN σ3 H3 n3
   exact ⟨m',hm,σ3,H3,I3,w3⟩
  | cont=>
   obtain ⟨σ3,H3,I3,n3⟩:=q3;obtain ⟨m',hm,w3⟩:=hN σ3 H3 n3
   exact ⟨m',hm,σ3,H3,I3,w3⟩
  | brk=>exact q3
  | ret v=>exact q3
 | false=>
  rw [AR EO];exact U6 ⟨σ1,H2,I2,q2⟩
end
structure It where
 go:Nat->Hp->Prop
 yld:Nat->Hp->V->Hp->Prop
 stop:Nat->Hp->Prop
def W1(X:Cx)(pins:List (Addr×Obj))(H:Hp)(b:Addr):Prop:=
 H b=none/\b≠X.env.locals/\b ∉ X.fs/\(b ∈ X.ex\/X.s₀.heap.objs.size<=b)/\(∀x c,X.env.cells.lookup x=some c->c≠b)/\∀p ∈ X.pn++pins,p.1≠b
theorem Inv.fpOk{X:Cx}{pins:List (Addr×Obj)}{σ:St}{H H':Hp}{s:Shared}{b:Addr}(I:Inv X pins σ H s)(hb:s.heap.objs.size<=b)(hn:H' b=none):W1 X pins H' b:=by
 refine ⟨hn,wB (B4 I.lt hb),I.nofs hb, .inr (AY I.sz hb),fun x c e z=> ?_,fun p hp z=> ?_⟩
 . obtain ⟨v,q⟩:=I.cell x c e;exact absurd (B4 q.lt (by rw [z];exact hb)) (NJ _)
 . exact absurd (B4 (AV (I.pin p hp).1) (by rw [z];exact hb)) (NJ _)
structure Turn (P:Program) (w:World) (K:PySem.W.Frag) (tg:Expr) (J:It) (fp:List Addr) (it:Addr) (tn:Nat->Heap->Prop):Prop where
 mem:it ∈ fp
 obj:∀i h,tn i h->∀b ∈ fp,∃o,h.get? b=some o/\∀v,o.data ≠ .cell v
 keep:∀i h h',tn i h->(∀b ∈ fp,∀o,h.get? b=some o->h'.get? b=some o)->tn i h'
 item:∀(X:Cx),X.prog=P->X.w=w->X.K=K->X.calm=true->∀(i:Nat) (pins:List (Addr×Obj)) (s:Shared) (σ:St) (H:Hp) (E:Value->Shared->Prop),Inv X pins σ H s->(∀b ∈ fp,W1 X pins H b)->tn i s.heap->J.go i H ->
  wpAny (model P w) X.A (pyNext (.ref it)) (fun r s1=>∃u,r=some u /\
   wpAny (model P w) X.A (letOwnedTupleGo tg (.ref it) u) (fun _ s2=>∃x H',Inv X pins σ H' s2/\RelV x u/\J.yld i H x H'/\tn (i+1) s2.heap/\∀b ∈ fp,H' b=none) E s1) E s
 done:∀(X:Cx),X.prog=P->X.w=w->X.K=K->X.calm=true->∀(i:Nat) (pins:List (Addr×Obj)) (s:Shared) (σ:St) (H:Hp) (E:Value->Shared->Prop),Inv X pins σ H s->(∀b ∈ fp,W1 X pins H b)->tn i s.heap->J.stop i H ->
  wpAny (model P w) X.A (pyNext (.ref it)) (fun r s1=>r=none/\Inv X pins σ H s1) E s
 self:∀(A:Around) (i:Nat) (s:Shared) (Q:Value->Shared->Prop) (E:Value->Shared->Prop),tn i s.heap->Q (.ref it) s->wpAny (model P w) A (pyIter (.ref it)) Q E s
abbrev TI:=St->Hp->(It->Hp->Prop)->Prop
def PIE(X:Cx)(pins:List (Addr×Obj))(σ:St)(tg:Expr)(R:It->Hp->Prop)(itv:Value)(s2:Shared):Prop:=
 ∃(it:Addr) (fp:List Addr) (tn:Nat->Heap->Prop) (J:It) (H':Hp),itv = .ref it/\Inv X pins σ H' s2/\Turn X.prog X.w X.K tg J fp it tn/\tn 0 s2.heap/\(∀b ∈ fp,W1 X pins H' b)/\R J H'
def PI(X:Cx)(tg iter:Expr)(wi:TI):Prop:=
 ∀(pins:List (Addr×Obj)) (s:Shared) (σ:St) (H:Hp) (R:It->Hp->Prop),Inv X pins σ H s->wi σ H R ->
   wpAny (model X.prog X.w) X.A (eval iter X.env) (fun v s1=>wpAny (model X.prog X.w) X.A (pyIter v) (PIE X pins σ tg R) X.xe s1) X.xe s
theorem XI {M : Model} {A : Around} {E : Value -> Shared -> Prop} {s : Shared} {tg : Expr} {it : Addr} {u : Value} {o : Obj} {n : String} {vs : Array Value} {Q : Unit -> Shared -> Prop} (ho : s.heap.get? it = some o) (hc : o.cls = .type n) (hd : o.data = .fields vs)
 (hn : ["enumerate","zip","dict_itemiterator","dict_reverseitemiterator","odict_iterator","itertools.zip_longest","itertools.pairwise"].contains n=false) (hQ:Q () s):wpAny M A (letOwnedTupleGo tg (.ref it) u) Q E s:=by
 unfold letOwnedTupleGo
 cases tg <;> first
  | exact AS hQ
  | (cases u <;> first
   | exact AS hQ
   | (refine A7 (wpAny_load ho ?_)
      rw [hc,hd];show wpAny M A (if (["enumerate","zip","dict_itemiterator","dict_reverseitemiterator","odict_iterator","itertools.zip_longest","itertools.pairwise"].contains n && vs[0]? ==some (rawInt _))=true then _ else _) Q E s;rw [AR (by intro h;rw [hn,Bool.false_and] at h;cases h)];exact AS hQ))
def Itl(K:PySem.W.Frag)(a:Addr):It:=
 ⟨fun i H=>∃xs x,SqL K H a xs/\xs[i]? = some x,fun i H x H'=>H'=H/\∀xs,SqL K H a xs->xs[i]? = some x,fun i H=>∃xs,SqL K H a xs/\xs.length<=i⟩
def Itt(K:PySem.W.Frag)(a:Addr):It:=
 ⟨fun i H=>∃xs x,SqT K H a xs/\xs[i]? = some x,fun i H x H'=>H'=H/\∀xs,SqT K H a xs->xs[i]? = some x,fun i H=>∃xs,SqT K H a xs/\xs.length<=i⟩
def Itr(lo:Int)(n:Nat):It:=⟨fun i _=>i<n,fun i H x H'=>H'=H/\x = .int (lo+i),fun i _=>n<=i⟩
theorem UV{P:Program}{w:World}{K:PySem.W.Frag}{tg:Expr}(a it:Addr):Turn P w K tg (Itl K a) [it] it (fun i h=>h.IsListIter it a i) where
 mem:=by simp
 obj:=fun i h st b hb=>by
  have e:b=it:=by simpa using hb
  subst e;obtain ⟨o,e,c,d⟩:=st;exact ⟨o,e,fun v z=>by rw [d] at z;cases z⟩
 keep:=fun i h h' st k=>st.at fun o e=>k it (by simp) o e
 item:=by
  intro X hP hw hK hc i pins s σ H E I hf st hg;subst hP hw hK;obtain ⟨xs,x,hq,hx⟩:=hg;obtain ⟨its,rv,p,hz⟩:=I.list hq;obtain ⟨u,hu,ru⟩:=rv.get hx;obtain ⟨f0,f1,f2,f3,f4,f5⟩:=hf it (by simp);refine TQ st p.isList (x:=u) (by simpa using hu) fun h' st' sb=> ?_;have I1:Inv X pins σ H {s with heap:=h' }:=I.turned (t':=s.toks) (fun b o hb e=>(sb.2 b hb).trans e) f0 f1 f3 f4 f5;obtain ⟨o,e,c,d⟩:=id st';exact ⟨u,rfl,XI (s:={s with heap:=h' }) e c d (by decide) ⟨x,H,I1,ru,⟨rfl,fun ys hy=>by rw [I.list_inj hy hq];exact hx⟩,st',fun b hb=>(hf b hb).1⟩⟩
 done:=by
  intro X hP hw hK hc i pins s σ H E I hf st hg;subst hP hw hK;obtain ⟨xs,hq,hx⟩:=hg;obtain ⟨its,rv,p,hz⟩:=I.list hq;obtain ⟨f0,f1,f2,f3,f4,f5⟩:=hf it (by simp);have hl:=rv.length;exact AG8 (I.ok.hd hc) st p.isList (by simp;omega) fun h' eb=>⟨rfl,I.turned (t':=s.toks) (fun b o hb e=>eb b o hb e) f0 f1 f3 f4 f5⟩
 self:=fun _ _ _ _ _ st h=>wpAny_pyIter_listiter st h
theorem bH{P:Program}{w:World}{K:PySem.W.Frag}{tg:Expr}(a it:Addr):Turn P w K tg (Itt K a) [it] it (fun i h=>h.IsTupleIter it a i) where
 mem:=by simp
 obj:=fun i h st b hb=>by
  have e:b=it:=by simpa using hb
  subst e;obtain ⟨o,e,c,d⟩:=st;exact ⟨o,e,fun v z=>by rw [d] at z;cases z⟩
 keep:=fun i h h' st k=>st.at fun o e=>k it (by simp) o e
 item:=by
  intro X hP hw hK hc i pins s σ H E I hf st hg;subst hP hw hK;obtain ⟨xs,x,hq,hx⟩:=hg;obtain ⟨its,rv,p,hz⟩:=I.tuple hq;obtain ⟨u,hu,ru⟩:=rv.get hx;obtain ⟨f0,f1,f2,f3,f4,f5⟩:=hf it (by simp);refine wpAny_pyNext_tuple_item st (show s.heap.IsTuple a its.toArray from p) (x:=u) (by simpa using hu) fun h' st' sb=> ?_;have I1:Inv X pins σ H {s with heap:=h' }:=I.turned (t':=s.toks) (fun b o hb e=>(sb.2 b hb).trans e) f0 f1 f3 f4 f5;obtain ⟨o,e,c,d⟩:=id st';exact ⟨u,rfl,XI (s:={s with heap:=h' }) e c d (by decide) ⟨x,H,I1,ru,⟨rfl,fun ys hy=>by rw [I.tuple_inj hy hq];exact hx⟩,st',fun b hb=>(hf b hb).1⟩⟩
 done:=by
  intro X hP hw hK hc i pins s σ H E I hf st hg;subst hP hw hK;obtain ⟨xs,hq,hx⟩:=hg;obtain ⟨its,rv,p,hz⟩:=I.tuple hq;obtain ⟨f0,f1,f2,f3,f4,f5⟩:=hf it (by simp);have hl:=rv.length;exact wpAny_pyNext_tuple_end (I.ok.hd hc) st (show s.heap.IsTuple a its.toArray from p) (by simp;omega) fun h' eb=>⟨rfl,I.turned (t':=s.toks) (fun b o hb e=>eb b o hb e) f0 f1 f3 f4 f5⟩
 self:=fun _ _ _ _ _ st h=>wpAny_pyIter_tupleiter st h
theorem ZR{P:Program}{w:World}{K:PySem.W.Frag}{tg:Expr}(it:Addr)(lo:Int)(n:Nat):Turn P w K tg (Itr lo n) [it] it (fun i h=>IsRangeIter h it (lo+(i:Nat)*1) ((n:Int) - (i:Nat)) 1) where
 mem:=by simp
 obj:=fun i h st b hb=>by
  have e:b=it:=by simpa using hb
  subst e
  exact ⟨_,st,fun v z=>by
   have z':Data.fields _=Data.cell v:=z
   cases z'⟩
 keep:=fun i h h' st k=>k it (by simp) _ st
 item:=by
  intro X hP hw hK hc i pins s σ H E I hf st hg;subst hP hw hK;obtain ⟨f0,f1,f2,f3,f4,f5⟩:=hf it (by simp);have W:=Walks.range (prog:=X.prog) (w:=X.w) (I.ok.hd hc) it lo 1 n;refine W.item i s _ _ hg st fun v h' tk hv st' kk=> ?_;obtain ⟨t,rfl⟩:=hv;have I1:Inv X pins σ H {s with heap:=h',toks:=tk}:=I.turned (fun b o hb e=>kk b o (by simpa using hb) e) f0 f1 f3 f4 f5;refine ⟨_,rfl,XI (s:={s with heap:=h',toks:=tk}) (n:= "range_iterator") st' rfl rfl (by decide) ⟨.int (lo+i),H,I1,⟨t,?_⟩,⟨rfl,rfl⟩,st',fun b hb=>(hf b hb).1⟩⟩;rw [N6]
 done:=by
  intro X hP hw hK hc i pins s σ H E I hf st hg;subst hP hw hK;obtain ⟨f0,f1,f2,f3,f4,f5⟩:=hf it (by simp);exact AG1 (I.ok.hd hc) st (by have:n<=i:=hg;omega) fun h' eb=>⟨rfl,I.turned (t':=s.toks) (fun b o hb e=>eb b o hb e) f0 f1 f3 f4 f5⟩
 self:=fun _ _ _ _ _ st h=>AG2 st h
end L2
namespace L2
open PySem PySem.Spec PyProof.Rows
section
variable {X:Cx} {tg:Expr}
def vG(K:PySem.W.Frag)(tl:TE):TI:=fun σ H R=>tl σ H fun x H1=>∃a,x = .ref a/\(∃xs,SqL K H1 a xs)/\R (Itl K a) H1
theorem qU{l:Expr}{tl:TE}(hl:PE X l tl):PI X tg l (vG X.K tl):=by
 intro pins s σ H R I h;refine thn (hl pins s σ H _ I h) fun v s1 ⟨x,H1,I1,r1,q1⟩ => ?_;obtain ⟨a,e,⟨xs,hq⟩,q⟩:=q1;subst e
 cases r1
 obtain ⟨its,rv,p,hz⟩:=I1.list hq;refine iZ p.isList ?_;refine ⟨s1.heap.objs.size,[s1.heap.objs.size],_,_,H1,rfl,I1.kept (t':=s1.toks) fun b o e=>A3 _ e,UV a _,⟨_,AW _ rfl,rfl,rfl⟩,fun b hb=> ?_,q⟩;have e:b=s1.heap.objs.size:=by simpa using hb
 subst e;exact I1.fpOk (A8 _) (I1.hok.fresh (A8 _))
theorem XS {pins : List (Addr × Obj)} {σ : St} {H : Hp} {s : Shared} {R : It -> Hp -> Prop} {E : Value -> Shared -> Prop} {lo hi : Int} {t u v : Tok} {tk : Nat} (I : Inv X pins σ H s) (h1 : -(2 ^ 62) <= lo) (h2 : lo < 2 ^ 62) (h3 : -(2 ^ 62) <= hi) (h4 : hi < 2 ^ 62)
 (q:R (Itr lo (hi - lo).toNat) H):wpAny (model X.prog X.w) X.A (pyIter (.ref s.heap.objs.size)) (PIE X pins σ tg R) E {s with heap:=s.heap.push {cls:= .type "range",data:= .fields #[.int lo t, .int hi u, .int 1 v]},toks:=tk}:=by
 refine wpAny_pyIter_range (AH3 ..) (small_one h1 h2 h3 h4) ?_;have I1:Inv X pins σ H {s with heap:=s.heap.push {cls:= .type "range",data:= .fields #[.int lo t, .int hi u, .int 1 v]},toks:=tk}:=I.kept fun b o e=>A3 _ e
 refine ⟨(s.heap.push {cls:= .type "range",data:= .fields #[.int lo t, .int hi u, .int 1 v]}).objs.size,[(s.heap.push {cls:= .type "range",data:= .fields #[.int lo t, .int hi u, .int 1 v]}).objs.size],_,_,H,rfl,
  I1.kept (t':=tk) fun b o e=>A3 _ e,ZR _ lo (hi - lo).toNat,?_,fun b hb=> ?_,q⟩
 . have e1:lo+((0:Nat):Int)*1=lo:=by simp
   have e2:(((hi - lo).toNat:Nat):Int) - ((0:Nat):Int)=Builtin.Range.rangeSize lo hi 1:=by rw [rangeSize_one];split <;> omega
   show IsRangeIter _ _ (lo+((0:Nat):Int)*1) ((((hi - lo).toNat:Nat):Int) - ((0:Nat):Int)) 1;rw [e1,e2];exact AW _ rfl
 . have e:b=(s.heap.push {cls:= .type "range",data:= .fields #[.int lo t, .int hi u, .int 1 v]}).objs.size:=by simpa using hb
   subst e;exact I1.fpOk (A8 _) (I1.hok.fresh (A8 _))
def vT(ta:TA):TI:=fun σ H R=>ta σ H fun vs H1=>∃j:Int,vs = [.int j] /\ -(2 ^ 62)<=j/\j<2 ^ 62/\R (Itr 0 j.toNat) H1
def vU(ta:TA):TI:=fun σ H R=>ta σ H fun vs H1=>∃i j:Int,vs = [.int i, .int j]/\(-(2 ^ 62)<=i/\i<2 ^ 62 /\ -(2 ^ 62)<=j/\j<2 ^ 62)/\R (Itr i (j - i).toNat) H1
theorem gT {a:Expr} {ta:TA} {p pos:Pos} (hg:Gl X "range") (hm:X.mg "range" = none) (ha:PA X [a] ta) (hs:starEach [a] X.env = [(false,eval a X.env)]:=by rfl):PI X tg (.Call (.Name "range" p) [a] [] pos) (vT ta):=by
 intro pins s σ H R I h;refine Call_ (HS I hg hm boot_range (BD (thn (ha pos pins s σ H _ I h) fun us s1 ⟨vs,H1,I1,r1,q1⟩ => ?_) hs rfl));obtain ⟨j,e,q1,q2,q⟩:=q1;subst e
 cases r1 with
 | cons r rr=>
  cases rr
  obtain ⟨t,rfl⟩:=r;exact call_range_1 (XS I1 (by omega) (by omega) q1 q2 (by simpa using q))
theorem iY {a b : Expr} {ta : TA} {p pos : Pos} (hg : Gl X "range") (hm : X.mg "range" = none) (ha : PA X [a, b] ta) (hs : starEach [a, b] X.env = [(false, eval a X.env), (false, eval b X.env)] := by rfl) (hs2 : starEach [b] X.env = [(false, eval b X.env)] := by rfl) :
 PI X tg (.Call (.Name "range" p) [a,b] [] pos) (vU ta):=by
 intro pins s σ H R I h;refine Call_ (HS I hg hm boot_range (BD (thn (ha pos pins s σ H _ I h) fun us s1 ⟨vs,H1,I1,r1,q1⟩ => ?_) (by rw [hs,hs2]) (by rw [hs2];rfl)));obtain ⟨i,j,e,⟨q1,q2,q3,q4⟩,q⟩:=q1;subst e
 cases r1 with
 | cons r rr=>
  cases rr with
  | cons r' rr=>
   cases rr
   obtain ⟨t,rfl⟩:=r;obtain ⟨t',rfl⟩:=r';exact call_range_2 (XS I1 q1 q2 q3 q4 q)
def AC2(wi:TI)(g:TG)(tb:TS):TS:=fun D σ H=>wi σ H fun J H1=>∃W:Nat->Nat->St->Hp->Prop,(∃m,W 0 m σ H1)/\∀i m σ H,W i m σ H ->
 (J.stop i H/\D.nx σ H)\/(J.go i H/\∃N:St->Hp->Prop,(∀σ' H',N σ' H'->∃m',m'<m/\W (i+1) m' σ' H')/\∀x H',J.yld i H x H'->g x σ H' fun σ2 H2=>tb { D with nx:=N,ct:=N,bk:=D.nx} σ2 H2)
def SC(fp:List Addr)(h:Heap):List (Addr×Obj):=fp.filterMap fun b=>(h.get? b).map fun o=>(b,o)
theorem KU{fp:List Addr}{h:Heap}{b:Addr}{o:Obj}(hb:b ∈ fp)(e:h.get? b=some o):(b,o) ∈ SC fp h:=LP.mpr ⟨b,hb,by rw [e];rfl⟩
theorem gY{fp:List Addr}{h:Heap}{p:Addr×Obj}(hp:p ∈ SC fp h):p.1 ∈ fp/\h.get? p.1=some p.2:=by
 obtain ⟨b,hb,e⟩:=LP.mp hp
 cases q:h.get? b with
 | none=>rw [q] at e;cases e
 | some o=>
  rw [q] at e
  have e':(b,o)=p:=B6 e;subst e';exact ⟨hb,q⟩
theorem Inv.pinned{pins:List (Addr×Obj)}{σ:St}{H:Hp}{s:Shared}{fp:List Addr}(I:Inv X pins σ H s)(hf:∀b ∈ fp,W1 X pins H b)(ho:∀b ∈ fp,∃o,s.heap.get? b=some o/\∀v,o.data ≠ .cell v):Inv X (pins++SC fp s.heap) σ H s:=
 I.pins_of fun p hp=>(CM.mp hp).elim (fun z=>I.pin p (BS _ z)) fun z=>by
  obtain ⟨hb,e⟩:=gY z;obtain ⟨f0,f1,f2,_⟩:=hf p.1 hb;obtain ⟨o,e',d⟩:=ho p.1 hb;rw [e] at e';cases e'
  exact ⟨e,f0,f1,f2,d⟩
theorem Inv.unpinned{pins pl:List (Addr×Obj)}{σ:St}{H:Hp}{s:Shared}(I:Inv X (pins++pl) σ H s):Inv X pins σ H s:=I.pins_of fun p hp=>I.pin p (BS _ (EW _ hp))
theorem A31 {iter : Expr} {body : List Stmt} {wi : TI} {g : TG} {tb : TS} {pos : Pos} (hp : PassesOwn (model X.prog X.w) X.A X.env X.xe) (hc : X.calm = true) (hi : PI X tg iter wi) (hg : PG X tg g) (hb : PSs X body tb)
 (hs:∀x,foldedSetIterable iter X.env x=pure x:=by intro _;rfl):PS X (.For tg iter body [] pos) (AC2 wi g tb):=by
 intro pins s σ H D I h;refine wpAny_For (thn (hi pins s σ H _ I h) fun v s1 h1=>thn h1 fun itv s2 h2=> ?_) hs;obtain ⟨it,fp,tn,J,H2,e,I2,T,st2,f2,W,⟨m0,w0⟩,turn⟩:=h2;subst e;have stat:∀ {H':Hp},(∀b ∈ fp,H' b=none)->∀b ∈ fp,W1 X pins H' b:=fun hn b hb=>⟨hn b hb,(f2 b hb).2⟩;refine codeAny_forLoop_any (fun n s'=>∃i σ' H',Inv X pins σ' H' s'/\tn i s'.heap/\(∀b ∈ fp,H' b=none)/\W i n σ' H') ?_ m0 ⟨0,σ,H2,I2,st2,fun b hb=>(f2 b hb).1,w0⟩;rintro n s3 ⟨i,σ3,H3,I3,st3,fr3,w3⟩;rcases turn i n σ3 H3 w3 with ⟨stop,qn⟩ | ⟨go,N,hN,step⟩
 . refine HI hp (thn (T.done X rfl rfl rfl hc i pins s3 σ3 H3 X.xe I3 (stat fr3) st3 stop) fun r s4 ⟨hr,I4⟩ => ?_);subst hr;exact U6 ⟨σ3,H3,I4,qn⟩
 . refine HI hp (thn (T.item X rfl rfl rfl hc i pins s3 σ3 H3 X.xe I3 (stat fr3) st3 go) fun r s4 ⟨u,hr,h4⟩ => ?_);subst hr;refine HI hp (thn h4 fun _ s5 ⟨x,H5,I5,r5,y5,st5,fr5⟩ => ?_);have I5':=I5.pinned (stat fr5) (T.obj _ _ st5);refine HI hp (thn (hg _ s5 σ3 H5 x u _ I5' r5 (step x H5 y5)) fun _ s6 ⟨σ6,H6,I6,q6⟩ => ?_);refine HI hp (thn (hb _ s6 σ6 H6 _ I6 q6) fun f s7 q7=> ?_)
   have again:∀ {σ7:St} {H7:Hp},Inv X (pins++SC fp s5.heap) σ7 H7 s7->N σ7 H7->∃m,m<n/\∃i σ' H',Inv X pins σ' H' s7/\tn i s7.heap/\(∀b ∈ fp,H' b=none)/\W i m σ' H':=fun {σ7 H7} I7 n7=>by
    obtain ⟨m',hm,w7⟩:=hN σ7 H7 n7;refine ⟨m',hm,i+1,σ7,H7,I7.unpinned,T.keep _ _ _ st5 fun b hb o e=>(I7.pin (b,o) (BS _ (BS _ (KU hb e)))).1,fun b hb=> ?_,w7⟩;obtain ⟨o,e,d⟩:=T.obj _ _ st5 b hb;exact (I7.pin (b,o) (BS _ (BS _ (KU hb e)))).2.1
   cases f with
   | next=>obtain ⟨σ7,H7,I7,n7⟩:=q7;exact again I7 n7
   | cont=>obtain ⟨σ7,H7,I7,n7⟩:=q7;exact again I7 n7
   | brk=>obtain ⟨σ7,H7,I7,q7⟩:=q7;exact ⟨σ7,H7,I7.unpinned,q7⟩
   | ret v=>obtain ⟨x7,σ7,H7,I7,r7,q7⟩:=q7;exact ⟨x7,σ7,H7,I7.unpinned,r7,q7⟩
end
end L2
namespace L2
open PySem PySem.Spec PyProof.Rows
abbrev R2:=V->V->Hp->VK->Prop
def OpR(X:Cx)(f:Value->Value->Sem Value)(r:R2):Prop:=
 ∀(pins:List (Addr×Obj)) (s:Shared) (σ:St) (H:Hp) (x y:V) (v u:Value) (Q:VK),Inv X pins σ H s->RelV x v->RelV y u->r x y H Q ->
   wpAny (model X.prog X.w) X.A (f v u) (EP X pins σ Q) X.xe s
def UnR(X:Cx)(f:Value->Sem Value)(r:V->Hp->VK->Prop):Prop:=
 ∀(pins:List (Addr×Obj)) (s:Shared) (σ:St) (H:Hp) (x:V) (v:Value) (Q:VK),Inv X pins σ H s->RelV x v->r x H Q ->
   wpAny (model X.prog X.w) X.A (f v) (EP X pins σ Q) X.xe s
def LF(X:Cx)(f:Value)(r:List V->Hp->VK->Prop):Prop:=
 ∀(pins:List (Addr×Obj)) (s:Shared) (σ:St) (H:Hp) (xs:List V) (us:List Value) (Q:VK),Inv X pins σ H s->Vals xs us->r xs H Q ->
   wpAny (model X.prog X.w) X.A (call f us) (EP X pins σ Q) X.xe s
def tOp(r:R2)(ta tb:TE):TE:=fun σ H Q=>ta σ H fun x H1=>tb σ H1 fun y H2=>r x y H2 Q
def tUn(r:V->Hp->VK->Prop)(ta:TE):TE:=fun σ H Q=>ta σ H fun x H1=>r x H1 Q
def rI(C:Int->Int->Prop)(g:Int->Int->V):R2:=fun x y H Q=>∃i j,x = .int i/\y = .int j/\C i j/\Q (g i j) H
def rI0(g:Int->Int->V):R2:=fun x y H Q=>∃i j,x = .int i/\y = .int j/\Q (g i j) H
def rU(g:Int->V):V->Hp->VK->Prop:=fun x H Q=>∃i,x = .int i/\Q (g i) H
section
variable {X:Cx} {a b c:Expr} {ta tb tc:TE} {pos:Pos}
theorem A20 (ha : PE X a ta) (hb : PE X b tb) {pins : List (Addr × Obj)} {s : Shared} {σ : St} {H : Hp} {R : V -> V -> Hp -> Prop} (I : Inv X pins σ H s)
 (h:ta σ H fun x H1=>tb σ H1 fun y H2=>R x y H2) {Q:Value->Shared->Prop} {f:Value->Value->Sem Value}
 (hf:∀v u s2 x y H2,Inv X pins σ H2 s2->RelV x v->RelV y u->R x y H2->wpAny (model X.prog X.w) X.A (f v u) Q X.xe s2) :
 wpAny (model X.prog X.w) X.A (eval a X.env) (fun v s₁=>wpAny (model X.prog X.w) X.A (eval b X.env) (fun u s₂=>wpAny (model X.prog X.w) X.A (f v u) Q X.xe s₂) X.xe s₁) X.xe s:=by
 refine thn (ha pins s σ H _ I h) fun v s1 ⟨x,H1,I1,r1,q1⟩ => ?_;refine thn (hb pins s1 σ H1 _ I1 q1) fun u s2 ⟨y,H2,I2,r2,q2⟩ => ?_;exact hf v u s2 x y H2 I2 r1 r2 q2
theorem A80{op:Operator}{r:R2}(ho:OpR X (binaryOp op) r)(ha:PE X a ta)(hb:PE X b tb):PE X (.BinOp a op b pos) (tOp r ta tb):=by
 intro pins s σ H Q I h;exact wpAny_BinOp (A20 ha hb I h fun v u s2 x y H2 I2 rx ry q=>ho pins s2 σ H2 x y v u Q I2 rx ry q)
theorem A88{op:UnaryOp}{r:V->Hp->VK->Prop}(ho:UnR X (unaryOp op) r)(ha:PE X a ta):PE X (.UnaryOp op a pos) (tUn r ta):=by
 intro pins s σ H Q I h;exact UnaryOp_ (thn (ha pins s σ H _ I h) fun v s1 ⟨x,H1,I1,r1,q1⟩=>ho pins s1 σ H1 x v Q I1 r1 q1)
theorem opI {f : Value -> Value -> Sem Value} {C : Int -> Int -> Prop} {g : Int -> Int -> Int}
 (rule:∀(i j:Int) (t u:Tok) (s:Shared) (Q:Value->Shared->Prop) (E:Value->Shared->Prop),C i j->Q (.int (g i j) s.toks) {s with toks:=s.toks+1}->wpAny (model X.prog X.w) X.A (f (.int i t) (.int j u)) Q E s) :
 OpR X f (rI C fun i j=> .int (g i j)):=by
 intro pins s σ H x y v u Q I rx ry h;obtain ⟨i,j,rfl,rfl,hc,q⟩:=h;obtain ⟨t,rfl⟩:=rx;obtain ⟨t',rfl⟩:=ry;exact rule i j t t' s _ _ hc ⟨.int (g i j),H,I.tok _,⟨_,rfl⟩,q⟩
theorem AB4 {f : Value -> Value -> Sem Value} {g : Int -> Int -> Int}
 (rule:∀(i j:Int) (t u:Tok) (s:Shared) (Q:Value->Shared->Prop) (E:Value->Shared->Prop),Q (.int (g i j) s.toks) {s with toks:=s.toks+1}->wpAny (model X.prog X.w) X.A (f (.int i t) (.int j u)) Q E s) :
 OpR X f (rI0 fun i j=> .int (g i j)):=by
 intro pins s σ H x y v u Q I rx ry h;obtain ⟨i,j,rfl,rfl,q⟩:=h;obtain ⟨t,rfl⟩:=rx;obtain ⟨t',rfl⟩:=ry;exact rule i j t t' s _ _ ⟨.int (g i j),H,I.tok _,⟨_,rfl⟩,q⟩
theorem AC3 {f : Value -> Value -> Sem Value} {g : Int -> Int -> Bool}
 (rule:∀(i j:Int) (t u:Tok) (s:Shared) (Q:Value->Shared->Prop) (E:Value->Shared->Prop),Q (.bool (g i j)) s->wpAny (model X.prog X.w) X.A (f (.int i t) (.int j u)) Q E s) :
 OpR X f (rI0 fun i j=> .bl (g i j)):=by
 intro pins s σ H x y v u Q I rx ry h;obtain ⟨i,j,rfl,rfl,q⟩:=h;obtain ⟨t,rfl⟩:=rx;obtain ⟨t',rfl⟩:=ry;exact rule i j t t' s _ _ ⟨.bl (g i j),H,I,rfl,q⟩
def CMul(i j:Int):Prop:=(-(2 ^ 64)<i/\i<2 ^ 64)\/(-(2 ^ 64)<j/\j<2 ^ 64)
theorem CMul.ok{i j:Int}(h:CMul i j):IntMulOk i j:=by
 rcases h with ⟨h1,h2⟩ | ⟨h1,h2⟩
 . exact .of_left (intBits_le_64 h1 h2)
 . exact .of_right (intBits_le_64 h1 h2)
theorem yN:OpR X (binaryOp .Add) (rI0 fun i j=> .int (i+j)):=AB4 fun _ _ _ _ _ _ _ q=>add_int q
theorem wX:OpR X (binaryOp .Sub) (rI0 fun i j=> .int (i - j)):=AB4 fun _ _ _ _ _ _ _ q=>sub_int q
theorem sM:OpR X (binaryOp .Mod) (rI (fun _ j=>j≠0) fun i j=> .int (i.fmod j)):=opI fun _ _ _ _ _ _ _ hc q=>mod_int' hc q
theorem unI {f : Value -> Sem Value} {g : Int -> Int}
 (rule:∀(i:Int) (t:Tok) (s:Shared) (Q:Value->Shared->Prop) (E:Value->Shared->Prop),Q (.int (g i) s.toks) {s with toks:=s.toks+1}->wpAny (model X.prog X.w) X.A (f (.int i t)) Q E s) :
 UnR X f (rU fun i=> .int (g i)):=by
 intro pins s σ H x v Q I rx h;obtain ⟨i,rfl,q⟩:=h;obtain ⟨t,rfl⟩:=rx;exact rule i t s _ _ ⟨.int (g i),H,I.tok _,⟨_,rfl⟩,q⟩
theorem A38:UnR X (unaryOp .USub) (rU fun i=> .int (-i)):=unI fun _ _ _ _ _ q=>neg_int q
end
section
variable {X:Cx} {a b c:Expr} {ta tb tc:TE} {pos:Pos}
theorem A37{pins:List (Addr×Obj)}{σ:St}{H:Hp}{s:Shared}{Q:VK}{k k':Bool}(I:Inv X pins σ H s)(q:Q (.bl k) H)(e:k=k'):EP X pins σ Q (.bool k') s:=by
 subst e;exact ⟨.bl k,H,I,rfl,q⟩
theorem AC0:OpR X (compareOp .Lt) (rI0 fun i j=> .bl (decide (i<j))):=AC3 fun _ _ _ _ _ _ _ q=>lt_int q
theorem vR:OpR X (compareOp .Gt) (rI0 fun i j=> .bl (decide (j<i))):=AC3 fun _ _ _ _ _ _ _ q=>gt_int q
theorem xM:OpR X (compareOp .Is) (fun x y H Q=>y = .non/\Q (.bl (decide (x = .non))) H):=by
 intro pins s σ H x y v u Q I rx ry h;obtain ⟨rfl,q⟩:=h
 cases ry
 refine is_none_gen (A37 I q ?_)
 cases x <;> first
  | (cases rx;rfl)
  | (obtain ⟨t,rfl⟩:=rx;rfl)
theorem OpR.or{f:Value->Value->Sem Value}{r r':R2}(h:OpR X f r)(h':OpR X f r'):OpR X f (fun x y H Q=>r x y H Q\/r' x y H Q):=by
 intro pins s σ H x y v u Q I rx ry q;rcases q with q | q
 . exact h pins s σ H x y v u Q I rx ry q
 . exact h' pins s σ H x y v u Q I rx ry q
theorem NO(b:Expr){op:CmpOp}(h:op ≠ .In:=by decide)(h2:op ≠ .NotIn:=by decide):behindInMarks op b=false:=by
 have e1:(op==CmpOp.In)=false:=by cases op <;> first | rfl | exact absurd rfl h
 have e2:(op==CmpOp.NotIn)=false:=by cases op <;> first | rfl | exact absurd rfl h2
 cases b <;> simp [behindInMarks,e1,e2]
theorem qE{op:CmpOp}{r:R2}(ho:OpR X (compareOp op) r)(ha:PE X a ta)(hb:PE X b tb)(hm:behindInMarks op b=false):PE X (.Compare a [op] [b] pos) (tOp r ta tb):=by
 intro pins s σ H Q I h;exact wpAny_Compare1 (A20 ha hb I h fun v u s2 x y H2 I2 rx ry q=>ho pins s2 σ H2 x y v u Q I2 rx ry q) hm
def w4(t:TE):TT:=fun σ H Q=>t σ H fun x H'=>∃k,x = .bl k/\Q k H'
theorem tT{op:CmpOp}{r:R2}(ho:OpR X (compareOp op) r)(ha:PE X a ta)(hb:PE X b tb)(hm:behindInMarks op b=false):PT X (.Compare a [op] [b] pos) (w4 (tOp r ta tb)):=by
 intro pins s σ H Q I h
 refine AG7 (thn (ha pins s σ H _ I h) fun v s1 ⟨x,H1,I1,r1,q1⟩=>thn (hb pins s1 σ H1 _ I1 q1) fun u s2 ⟨y,H2,I2,r2,q2⟩ =>
  thn (ho pins s2 σ H2 x y v u _ I2 r1 r2 q2) fun c s3 ⟨z,H3,I3,r3,k,e,q3⟩ => ?_) hm
 subst e
 cases r3
 exact KE ⟨H3,I3,q3⟩
theorem RY:(sizeLine:Nat)<2 ^ 63:=by rw [QC];decide
theorem aF:OpR X (binaryOp .Add) (fun x y H Q=>∃i j,x = .str i/\y = .str j/\i.length+j.length<=sizeLine/\Q (.str (i++j)) H):=by
 intro pins s σ H x y v u Q I rx ry h;obtain ⟨i,j,rfl,rfl,hz,q⟩:=h;obtain ⟨t,rfl⟩:=rx;obtain ⟨t',rfl⟩:=ry;exact add_str (fun t' tk=>⟨.str (i++j),H,I.tok _,⟨_,rfl⟩,q⟩) hz
theorem LD{x:V}{us:List Value}(r:Vals [x] us):∃u,us = [u]/\RelV x u:=by
 cases r with
 | cons r1 r2=>cases r2;exact ⟨_,rfl,r1⟩
theorem w6{x y:V}{us:List Value}(r:Vals [x,y] us):∃u w',us = [u,w']/\RelV x u/\RelV y w':=by
 cases r with
 | cons r1 r2=>
  cases r2 with
  | cons r3 r4=>cases r4;exact ⟨_,_,rfl,r1,r3⟩
theorem lN:LF X (.builtin "abs") (fun xs H Q=>∃i,xs = [.int i]/\Q (.int (if i<0 then -i else i)) H):=by
 intro pins s σ H xs us Q I r h;obtain ⟨i,rfl,q⟩:=h;obtain ⟨u,rfl,t,rfl⟩:=LD r;exact call_abs_int fun u tk=>⟨.int (if i<0 then -i else i),H,I.tok _,⟨_,rfl⟩,q⟩
theorem iH:LF X (.type "int") (fun xs H Q=>(∃i,xs = [.int i]/\Q (.int i) H)\/∃k,xs = [.bl k]/\Q (.int (if k then 1 else 0)) H):=by
 intro pins s σ H xs us Q I r h;rcases h with ⟨i,rfl,q⟩ | ⟨k,rfl,q⟩
 . obtain ⟨u,rfl,t,rfl⟩:=LD r;exact call_int_int ⟨.int i,H,I,⟨_,rfl⟩,q⟩
 . obtain ⟨u,rfl,r1⟩:=LD r
   cases r1
   exact call_int_bool ⟨.int (if k then 1 else 0),H,I.tok _,⟨_,rfl⟩,q⟩
end
end L2
namespace L2
open PySem PySem.Spec PyProof.Rows
structure ObjM (h:Heap) (x dx C:Addr) (mA:Str->Option Value):Prop where
 obj:h.get? x=some (PySem.W.instObj C dx)
 ns:h.Ns1 dx mA
 ne:dx≠x
theorem iI{h:Heap}{dx:Addr}{mA:Str->Option Value}(n:h.Ns1 dx mA):∃od,h.get? dx=some od/\∀name,PySem.W.lookIn name od=some (mA name):=by
 obtain ⟨o,es,ep,ho,hd,hk,_,hm⟩:=n;refine ⟨o,ho,fun name=> ?_⟩;have e:=hm name;unfold nsFind findBy at e
 rw [<-Array.find?_toList] at e
 unfold PySem.W.lookIn;rw [hd]
 dsimp only
 split
 . rename_i y q;rw [q] at e
   exact GM some e
 . rename_i q;rw [q] at e
   have a:es.toList.any (·.refKey)=false:=by
    rw [List.any_eq_false];intro y hy;obtain ⟨z,t,hkey⟩:=hk y (Array.mem_toList_iff.mp hy);simp [DictEntry.refKey,hkey]
   have a':¬es.toList.any (·.refKey)=true:=by rw [a];exact EO
   rw [AR a'];exact GM some e
theorem ObjM.look{h:Heap}{x dx C:Addr}{mA:Str->Option Value}(I:ObjM h x dx C mA):∃od,PySem.W.InstAt h x (PySem.W.instObj C dx) C (some od)/\∀name,PySem.W.lookIn name od=some (mA name) :=
 let ⟨od,ho,hl⟩:=iI I.ns
 ⟨od,⟨I.obj,rfl,rfl,ho⟩,hl⟩
section
variable {prog:Program} {w:World} {A:Around} {E:Value->Shared->Prop} {s:Shared} {K:PySem.W.Frag} {x dx C f:Addr} {mA:Str->Option Value} {name:Str} {v:Value}
theorem sT {expr : Bool} {Q : Value -> Shared -> Prop} (X : K.In s.heap) (I : ObjM s.heap x dx C mA) (hg : PySem.W.plainGet K C name = true) (hh : PySem.W.hasDictIn K C = true)
 (ha:PySem.W.findIn K (.ref C) name=some none) (hv:mA name=some v) (hv':PySem.W.handedIn v=true) (h:Q v {s with toks:=s.toks+1}) :
 wpAny (model prog w) A (getAttr (.ref x) name expr) Q E s:=by
 obtain ⟨od,J,hl⟩:=I.look;exact PySem.W.get_value X J (TR hg).1 (PySem.W.findObj_own hh ha rfl (by rw [hl,hv])) hv' h
theorem kJ {pl : Sem Bool} {Q : Value × List Value -> Shared -> Prop} (X : K.In s.heap) (I : ObjM s.heap x dx C mA) (hg : PySem.W.plainGet K C name = true)
 (hf:PySem.W.findIn K (.ref C) name=some (some (.ref f))) (ht:PySem.W.isFn K (.ref f)=true) (hv:mA name=none) (h:Q (.ref f,[.ref x]) s) :
 wpAny (model prog w) A (getMethod (.ref x) name pl) Q E s:=by
 obtain ⟨od,J,hl⟩:=I.look;exact PySem.W.method_fn X J (TR hg).1 (TR hg).2 hf (DY.mp ht) (by show (PySem.W.lookIn name od).map (·.isSome)=some false;rw [hl,hv];rfl) h
theorem sE {ns : List Str} {Q : Unit -> Shared -> Prop} (X : K.In s.heap) (I : ObjM s.heap x dx C mA)
 (hs:PySem.W.findIn K (.ref C) "__setattr__" = some (some (.builtin "object.__setattr__"))) (hp:PySem.W.plainOver K C=true) (ht:PySem.W.takerIn K C name=some none) (hh:PySem.W.hasDictIn K C=true)
 (hw:PySem.Within mA ns) (hsz:ns.length<=sizeLine)
 (h:∀h',ObjM h' x dx C (fun y=>if y=name then some v else mA y)->Heap.SameBut dx s.heap h'->Q () {s with heap:=h',toks:=s.toks+2}) :
 wpAny (model prog w) A (setAttr (.ref x) name v) Q E s:=by
 obtain ⟨od,J,hl⟩:=I.look;refine PySem.W.set_plain X J hs (PySem.W.osa_open (s:={s with toks:=s.toks+1}) (r:=none) X J hp ht fun b=> ?_);obtain ⟨cd,hc,hd'⟩:=PySem.W.any_some hh;have hx:s.heap.get? x=some ⟨.ref C,some dx, .plain, #[]⟩:=I.obj;refine A7 (AS (A7 (A7 (wpAny_loadPart hx (A7 (PySem.W.Looks.here (s:={s with toks:=s.toks+1}) (PySem.W.looks_clsIn X hc) ?_))))));rw [hd'];refine AS (a:=some dx) (A7 (AS (A7 ?_)));refine wpAny_nsSet1 (s:={s with toks:=s.toks+1}) I.ns fun h' hn2 hs2=> ?_;obtain ⟨oD,esD,epD,hoD,hdD,hcD⟩:=hn2.count (PySem.Within.cons name v hw);refine A7 (wpAny_lookBehind hoD (by rw [hdD];exact pastItsLine_dict (AY hcD (by rw [B9];omega))) ?_);exact AS (h _ ⟨(hs2.2 _ (N5 I.ne)).trans I.obj,hn2,I.ne⟩ hs2)
theorem oM {R : Result -> Shared -> Prop} {vs : List Value} {kw : List (Str × Value)} (X : K.In s.heap) (hm : PySem.W.makesIn K C = true)
 (hi:PySem.W.findIn K (.ref C) "__init__" = some (some (.ref f))) (hf:PySem.W.typeIn K (.ref f)=some (.type "function"))
 (h:codeAny (model prog w) (A.under (.builtin "type.__call__" ⟨.ref C::vs,kw⟩)) (.call (.ref f) ⟨.ref (s.heap.objs.size+1)::vs,kw⟩) (PySem.W.InitBack (s.heap.objs.size+1) R)
  {s with heap:=(s.heap.push PySem.W.emptyDict).push (PySem.W.instObj C s.heap.objs.size)}) :
 codeAny (model prog w) A (.call (.ref C) ⟨vs,kw⟩) R s:=by
 obtain ⟨hh,g,d,t,os⟩:=s;exact PySem.W.make_core (PySem.W.makes_of X hm) (PySem.W.looks_findIn X hi) (fun self=>PySem.W.bind_fn X self hf) (.inl rfl) h
end
def L0(f:Str)(v:V):List (Str×V)->List (Str×V)
 | []=> [(f,v)]
 | (g,x)::r=>if g=f then (g,v)::r else (g,x)::L0 f v r
theorem K2(f g:Str)(v:V):∀fs:List (Str×V),(L0 f v fs).lookup g=if g=f then some v else fs.lookup g
 | []=>by
  show List.lookup g [(f,v)]=_
  by_cases h:g=f
  . have hb:(g==f)=true:=DY.mpr h;simp only [List.lookup,hb,AU h]
  . have hb:(g==f)=false:=G6.mpr h
    simp only [List.lookup,hb,AR h]
 | (k,x)::r=>by
  have ih:=K2 f g v r;rw [show L0 f v ((k,x)::r)=(if k=f then (k,v)::r else (k,x)::L0 f v r) from rfl]
  by_cases hk:k=f
  . rw [AU hk]
    by_cases h:g=k
    . have hb:(g==k)=true:=DY.mpr h;simp only [List.lookup,hb,AU (h.trans hk)]
    . have hb:(g==k)=false:=G6.mpr h;simp only [List.lookup,hb,AR (fun e:g=f=>h (e.trans hk.symm))]
  . rw [AR hk]
    by_cases h:g=k
    . have hb:(g==k)=true:=DY.mpr h;simp only [List.lookup,hb,AR (fun e:g=f=>hk (h.symm.trans e))]
    . have hb:(g==k)=false:=G6.mpr h;simp only [List.lookup,hb];exact ih
theorem Q6(f:Str)(v:V):∀fs:List (Str×V),f ∈ (L0 f v fs).map (·.1)/\∀g,g ∈ fs.map (·.1)->g ∈ (L0 f v fs).map (·.1)
 | []=>⟨by simp [L0],fun g h=>by simp at h⟩
 | (k,x)::r=>by
  obtain ⟨i1,i2⟩:=Q6 f v r;rw [show L0 f v ((k,x)::r)=(if k=f then (k,v)::r else (k,x)::L0 f v r) from rfl]
  by_cases hk:k=f
  . rw [AU hk];subst hk;exact ⟨by simp,fun g h=>by simpa using h⟩
  . rw [AR hk];refine ⟨?_,fun g h=> ?_⟩
    . rw [BN];exact AN _ i1
    . rw [BN] at h ⊢
      rcases B7.mp h with e | e
      . exact B7.mpr (.inl e)
      . exact AN _ (i2 g e)
theorem M9(f:Str)(v:V):∀fs:List (Str×V),(L0 f v fs).length<=fs.length+1
 | []=>by simp [L0]
 | (k,x)::r=>by
  have ih:=M9 f v r;rw [show L0 f v ((k,x)::r)=(if k=f then (k,v)::r else (k,x)::L0 f v r) from rfl]
  by_cases hk:k=f
  . rw [AU hk,B9,B9];omega
  . rw [AR hk,B9,B9];omega
theorem RelO.some_of{v:V}{o:Option Value}(r:RelO (some v) o):∃u,o=some u/\RelV v u:=by
 cases o with
 | none=>exact (show False from r).elim
 | some u=>exact ⟨u,rfl,r⟩
theorem RelO.none_of{o:Option Value}(r:RelO none o):o=none:=by
 cases o with
 | none=>rfl
 | some u=>exact (show False from r).elim
theorem iF{v:V}{u:Value}(r:RelV v u):PySem.W.handedIn u=true:=by
 cases v with
 | non=>cases (show u=Value.none from r);rfl
 | bl b=>cases (show u=Value.bool b from r);rfl
 | int i=>obtain ⟨t,e⟩:=(show ∃t,u=Value.int i t from r);cases e;rfl
 | str x=>obtain ⟨t,e⟩:=(show ∃t,u=Value.str x t from r);cases e;rfl
 | byt b=>obtain ⟨t,e⟩:=(show ∃t,u=Value.bytes b t from r);cases e;rfl
 | flt b=>obtain ⟨t,e⟩:=(show ∃t,u=Value.float b t from r);cases e;rfl
 | ref a=>cases (show u=Value.ref a from r);rfl
 | ty n=>cases (show u=Value.type n from r);rfl
section
variable {P:Program} {w:World} {H H':Hp} {h h':Heap} {a C dx:Addr} {fs fs':List (Str×V)}
theorem WG(hok:HOk P w H h)(e:H a=some (.ins C dx fs)):∃mA,ObjM h a dx C mA/\(∀f,RelO (fs.lookup f) (mA f))/\PySem.Within mA (fs.map (·.1))/\fs.length<=1000/\H dx=some (.own a):=by
 obtain ⟨d,z,ne,ob,mA,n,r,q⟩:=(show ObjOk P w H h a (.ins C dx fs) from hok a _ e);exact ⟨mA,⟨ob,n,ne⟩,r,q,z,d⟩
end
structure Cls (K:PySem.W.Frag) (C:Addr):Prop where
 pg:PySem.W.plainGet K C Str.empty=true
 hd:PySem.W.hasDictIn K C=true
 po:PySem.W.plainOver K C=true
 sa:PySem.W.findIn K (.ref C) "__setattr__" = some (some (.builtin "object.__setattr__"))
theorem Cls.get{K:PySem.W.Frag}{C:Addr}(c:Cls K C)(f:Str):PySem.W.plainGet K C f=true:=c.pg
def NoAttr(K:PySem.W.Frag)(C:Addr)(f:Str):Prop:=PySem.W.findIn K (.ref C) f=some none
theorem NoAttr.taker{K:PySem.W.Frag}{C:Addr}{f:Str}(n:NoAttr K C f):PySem.W.takerIn K C f=some none:=by
 unfold PySem.W.takerIn;rw [show PySem.W.findIn K (.ref C) f=some none from n];rfl
structure Con (K:PySem.W.Frag) (C:Addr) (f:Str) (v:V) (u:Value):Prop where
 at_:PySem.W.findIn K (.ref C) f=some (some u)
 rel:RelV v u
 get:PySem.W.specialIn K u "__get__" = some none
 cp:PySem.W.copiedNames.contains f=false
structure Meth (K:PySem.W.Frag) (C:Addr) (m:Str) (f:Addr):Prop where
 at_:PySem.W.findIn K (.ref C) m=some (some (.ref f))
 fn:PySem.W.isFn K (.ref f)=true
 kp:PySem.W.keepIn K (.ref f)=true
section
variable {X:Cx} {pins:List (Addr×Obj)} {σ:St} {H:Hp} {s:Shared} {a C dx:Addr} {fs:List (Str×V)} {f:Str} {v:V} {A:Around} {E:Value->Shared->Prop}
theorem aW {b : Bool} {Q : Value -> Shared -> Prop} (I : Inv X pins σ H s) (e : H a = some (.ins C dx fs)) (c : Cls X.K C) (n : NoAttr X.K C f) (l : fs.lookup f = some v)
 (h:∀u s',Inv X pins σ H s'->RelV v u->Q u s'):wpAny (model X.prog X.w) A (getAttr (.ref a) f b) Q E s:=by
 obtain ⟨mA,O,r,_,_,_⟩:=WG I.hok e;obtain ⟨u,hu,ru⟩:=RelO.some_of (v:=v) (o:=mA f) (by rw [<-l];exact r f);exact sT I.kIn O (c.get f) c.hd n hu (iF ru) (h u _ (I.tok _) ru)
theorem T6 {m : Str} {g : Addr} {pl : Sem Bool} {Q : Value × List Value -> Shared -> Prop} (I : Inv X pins σ H s) (e : H a = some (.ins C dx fs)) (c : Cls X.K C) (k : Meth X.K C m g) (l : fs.lookup m = none)
 (h:Q (.ref g,[.ref a]) s):wpAny (model X.prog X.w) A (getMethod (.ref a) m pl) Q E s:=by
 obtain ⟨mA,O,r,_,_,_⟩:=WG I.hok e;have hn:mA m=none:=RelO.none_of (by rw [<-l];exact r m);exact kJ I.kIn O (c.get m) k.at_ k.fn hn h
theorem ZW {y : V} {u : Value} {Q : Unit -> Shared -> Prop} (I : Inv X pins σ H s) (e : H a = some (.ins C dx fs)) (c : Cls X.K C) (n : NoAttr X.K C f) (hl : fs.length < 1000) (ry : RelV y u)
 (h:∀s',Inv X pins σ (upd H a (.ins C dx (L0 f y fs))) s'->Q () s'):wpAny (model X.prog X.w) A (setAttr (.ref a) f u) Q E s:=by
 obtain ⟨mA,O,r,wi,_,ho⟩:=WG I.hok e;have hz:(fs.map (·.1)).length<=sizeLine:=by rw [A4,QC];omega
 refine sE I.kIn O c.sa c.po n.taker c.hd wi hz fun h' O' sb=>h _ ?_;have hd:∃o,h'.get? dx=some o:=let ⟨o,_,_,e',_⟩:=O'.ns;⟨o,e'⟩;refine I.write (x:=a) (e:=dx) (by rw [e];exact E4) (.inr ho) (fun b q hb z=>(sb.2 b hb).trans z) hd ?_;refine ⟨by rw [BQ O.ne];exact ho,?_,O.ne,O'.obj,_,O'.ns,fun g=> ?_,fun g hg=> ?_⟩
 . have:=M9 f y fs;omega
 . show RelO ((L0 f y fs).lookup g) (if g=f then some u else mA g);rw [K2]
   by_cases q:g=f
   . rw [AU q,AU q];exact ry
   . rw [AR q,AR q];exact r g
 . by_cases q:g=f
   . rw [q];exact (Q6 f y fs).1
   . refine (Q6 f y fs).2 g (wi g fun z=>hg ?_);show (if g=f then some u else mA g)=none;rw [AR q];exact z
theorem Inv.made (I : Inv X pins σ H s) : Inv X pins σ (upd (upd H s.heap.objs.size (.own (s.heap.objs.size + 1))) (s.heap.objs.size + 1) (.ins C s.heap.objs.size []))
 {s with heap:=(s.heap.push PySem.W.emptyDict).push (PySem.W.instObj C s.heap.objs.size)}:=by
 have e1:(s.heap.push PySem.W.emptyDict).get? s.heap.objs.size=some PySem.W.emptyDict:=AW s.heap rfl
 have e2:((s.heap.push PySem.W.emptyDict).push (PySem.W.instObj C s.heap.objs.size)).get? (s.heap.objs.size+1)=some (PySem.W.instObj C s.heap.objs.size):=by
  have:=AW (s.heap.push PySem.W.emptyDict) (o:=PySem.W.instObj C s.heap.objs.size) rfl
  rwa [D4] at this
 have e3:(s.heap.push PySem.W.emptyDict).Ns s.heap.objs.size (fun _=>none):=⟨PySem.W.emptyDict, #[],_,e1,rfl,(fun e he=>absurd he (by simp)),fun _=>rfl⟩;have I1:=I.laid (a:=s.heap.objs.size) (o:= .own (s.heap.objs.size+1)) (h':=s.heap.push PySem.W.emptyDict) (t':=s.toks) (fun b u q=>A3 _ q) (A8 _) ⟨_,e1⟩;refine I1.laid (a:=s.heap.objs.size+1) (o:= .ins C s.heap.objs.size []) (t':=s.toks) (fun b u q=>A3 _ q) (WP (D4 _ _)) ?_;have ne:s.heap.objs.size≠s.heap.objs.size+1:=D2 (O6 _);refine ⟨by rw [BQ ne,C9],DF _,ne,e2,fun _=>none,(Heap.Ns1.of_empty e3).at fun o q=>A3 _ q,fun _=>E4,fun y hy=>absurd rfl hy⟩
theorem rT {prog : Program} {w : World} {env : Env} {e : Expr} {f : Str} {pos : Pos} {s : Shared} {Q : Value -> Shared -> Prop} (hb : attributeBase e f env (eval e env) = eval e env)
 (h:wpAny (model prog w) A (eval e env) (fun o s₁=>wpAny (model prog w) A (getAttr o f true) Q E s₁) E s):wpAny (model prog w) A (eval (.Attribute e f pos) env) Q E s:=
 Attribute_any_ h (by rw [arm_eval_Attribute,hb])
end
def iT(K:PySem.W.Frag)(ta:TE)(f:Str):TE:=fun σ H Q=>ta σ H fun x H1=>∃a C dx fs v,x = .ref a/\H1 a=some (.ins C dx fs)/\Cls K C/\NoAttr K C f/\fs.lookup f=some v/\Q v H1
def A94(K:PySem.W.Frag)(ta tv:TE)(f:Str):TS:=fun D σ H=>tv σ H fun y H1=>ta σ H1 fun x H2=>∃a C dx fs,x = .ref a/\H2 a=some (.ins C dx fs)/\Cls K C/\NoAttr K C f/\fs.length<1000 /\
 D.nx σ (upd H2 a (.ins C dx (L0 f y fs)))
section
variable {X:Cx} {o e value:Expr} {f:Str} {pos pos' tpos:Pos} {ta tv:TE}
theorem TK(he:PE X e ta)(hb:attributeBase e f X.env (eval e X.env)=eval e X.env):PE X (.Attribute e f pos) (iT X.K ta f):=by
 intro pins s σ H Q I h;refine rT hb (thn (he pins s σ H _ I h) fun u s1 ⟨x,H1,I1,rx,a,C,dx,fs,v,ex,ea,c,n,l,q⟩ => ?_);subst ex;obtain rfl:u=Value.ref a:=rx;exact aW I1 ea c n l fun u' s2 I2 ru=>⟨v,H1,I2,ru,q⟩
theorem zC(ha:PE X o ta)(hv:PE X value tv)(hs:swapsWith value (some (.Attribute o f pos')) pos.line X.env=pure false):PS X (.Assign [.Attribute o f pos'] value pos) (A94 X.K ta tv f):=by
 intro pins s σ H D I h;refine plainObj_wpAny_Assign_Attribute (thn (hv pins s σ H _ I h) fun u s1 ⟨y,H1,I1,ry,q⟩=>thn (ha pins s1 σ H1 _ I1 q) fun ov s2 ⟨x,H2,I2,rx,a,C,dx,fs,ex,ea,c,n,l,q2⟩ => ?_) hs;subst ex;obtain rfl:ov=Value.ref a:=rx;exact ZW I2 ea c n l ry fun s3 I3=>⟨σ,_,I3,q2⟩
theorem uY {pl : Sem Bool} {m : Str} {apos : Pos} {args : List Expr} {pins : List (Addr × Obj)} {s : Shared} {σ : St} {H : Hp} {Q : Value -> Shared -> Prop} {te : TE} (he : PE X e te) (I : Inv X pins σ H s)
 (h:te σ H fun x H1=>∃a C dx fs g,x = .ref a/\H1 a=some (.ins C dx fs)/\Cls X.K C/\Meth X.K C m g/\fs.lookup m=none /\
  ∀s1,Inv X pins σ H1 s1->wpAny (model X.prog X.w) X.A (callWith pos (.ref g) [.ref a] (backTo pos (starEach args X.env)) (backToKw pos (keywordEach [] X.env))) Q X.xe s1)
 (ht:eval (.Call (.Attribute e m apos) args [] pos) X.env=(do
  let ov <-eval e X.env
  standAt apos.atName
  let (f,first) <-holding [ov] (getMethod ov m pl)
  callWith pos f first (backTo pos (starEach args X.env)) (backToKw pos (keywordEach [] X.env)))) :
 wpAny (model X.prog X.w) X.A (eval (.Call (.Attribute e m apos) args [] pos) X.env) Q X.xe s:=by
 refine A54 (pl:=pl) (thn (he pins s σ H _ I h) fun u s1 ⟨x,H1,I1,rx,a,C,dx,fs,g,ex,ea,c,k,l,q⟩ => ?_) ht;subst ex;obtain rfl:u=Value.ref a:=rx;exact T6 I1 ea c k l (q s1 I1)
end
section
variable {X:Cx} {pins:List (Addr×Obj)} {σ:St} {H:Hp} {s:Shared} {A:Around} {E:Value->Shared->Prop} {Q:Value->Shared->Prop} {c:Value} {b:Bool}
inductive TyOf (K:PySem.W.Frag) (H:Hp):V->Value->Prop where
 | non:TyOf K H .non (.type "NoneType")
 | bl (x:Bool):TyOf K H (.bl x) (.type "bool")
 | int (i:Int):TyOf K H (.int i) (.type "int")
 | str (x:Str):TyOf K H (.str x) (.type "str")
 | flt (x:UInt64):TyOf K H (.flt x) (.type "float")
 | lst {a:Addr} {xs:List V} (e:H a=some (.lst xs)):TyOf K H (.ref a) (.type "list")
 | frz {a:Addr} {o:Obj} {xs:List V} (e:H a=some (.frz o (.lst xs))):TyOf K H (.ref a) (.type "list")
 | tup {a:Addr} {xs:List V} (e:H a=some (.tup xs)):TyOf K H (.ref a) (.type "tuple")
 | dK {a:Addr} {kvs:List (Key×V)} (e:H a=some (.dK kvs)):TyOf K H (.ref a) (.type "dict")
 | dT {a:Addr} {kvs:List (List Key×V)} (e:H a=some (.dT kvs)):TyOf K H (.ref a) (.type "dict")
 | ins {a C dx : Addr} {fs : List (Str × V)} (e : H a = some (.ins C dx fs)) (cl : Cls K C) (ha : PySem.W.findIn K (.ref C) "__class__" = some (some (.builtin "object.__class__")))
  (hn:PySem.W.specialIn K (.builtin "object.__class__") "__get__" = some (some (.builtin "getset_descriptor.__get__"))) (htk:PySem.W.takesIn K (.builtin "object.__class__")=some true)
  (hm:PySem.W.mroIn K C (.type "object")=some true):TyOf K H (.ref a) (.ref C)
end
end L2
namespace L2
open PySem PySem.Spec PyProof.Rows
structure Room (k:Nat) (A:Around):Prop where
 hd:A.handled=none
 dp:A.depth+3*k+5<recursionLimit
 un:A.units+16*k+200<cLine
theorem Room.mono{j k:Nat}{A:Around}(r:Room k A)(h:j<=k):Room j A:=⟨r.hd,by have:=r.dp;omega,by have:=r.un;omega⟩
theorem Room.deeper{k:Nat}{A:Around}(r:Room (k+1) A)(env:Env):Room k (A.deeper env) :=
 ⟨r.hd,by have:=r.dp;show A.depth+1+3*k+5<_;omega,by have:=r.un;show A.units+3+16*k+200<_;omega⟩
theorem aJ{A:Around}{C:Addr}{us:List Value}{kw:List (Str×Value)}:(A.under (.builtin "type.__call__" ⟨.ref C::us,kw⟩)).depth=A.depth+1:=by
 first | rfl | simp [Around.under,Code.weight,Code.isCreation,Code.isGuard,Code.isCaller,Code.frames,Code.isFrame,guardIds]
theorem aK{A:Around}{C:Addr}{us:List Value}{kw:List (Str×Value)}:(A.under (.builtin "type.__call__" ⟨.ref C::us,kw⟩)).units=A.units+1:=by
 first | rfl | simp [Around.under,Code.cUnits,Code.frames,Code.isFrame]
theorem Room.make{k:Nat}{A:Around}(r:Room (k+1) A)(C:Addr)(us:List Value)(kw:List (Str×Value)):Room k (A.under (.builtin "type.__call__" ⟨.ref C::us,kw⟩)) :=
 ⟨r.hd,by have:=r.dp;rw [aJ];omega,by have:=r.un;rw [aK];omega⟩
theorem Room.depth{k:Nat}{A:Around}(r:Room k A):A.depth<recursionLimit:=by have:=r.dp;omega
theorem Room.units{k:Nat}{A:Around}(r:Room k A):A.units+64<cLine:=by have:=r.un;omega
def tNil:TA:=fun _ H Q=>Q [] H
def UB(ta:TE)(tr:TA):TA:=fun σ H Q=>ta σ H fun x H1=>tr σ H1 fun xs H2=>Q (x::xs) H2
section
variable {X:Cx} {e:Expr} {es:List Expr} {te:TE} {t:TA} {pos:Pos}
theorem NW:PA X [] tNil:=fun _ _ _ _ H Q I h=>QD ⟨[],H,I, .nil,h⟩
theorem K3(ha:PE X e te)(hr:PA X es t)(hs:starEach (e::es) X.env=(false,eval e X.env)::starEach es X.env:=by rfl):PA X (e::es) (UB te t):=by
 intro pos pins s σ H Q I h;rw [hs];show wpAny _ _ (spliced ((false,eval e X.env)::backTo pos (starEach es X.env))) _ _ s;refine O8 (thn (ha pins s σ H _ I h) fun u s1 ⟨x,H1,I1,r1,q1⟩ => ?_);exact thn (hr pos pins s1 σ H1 _ I1 q1) fun us s2 ⟨xs,H2,I2,r2,q2⟩=>⟨x::xs,H2,I2, .cons r1 r2,q2⟩
def A70(t:TA):TE:=fun σ H Q=>t σ H fun xs H1=>xs.length<=sizeLine/\∀p,H1 p=none->Q (.ref p) (upd H1 p (.tup xs))
def AA6(t:TA):TE:=fun σ H Q=>t σ H fun xs H1=>xs.length<=sizeLine/\∀p,H1 p=none->Q (.ref p) (upd H1 p (.lst xs))
theorem xZ{x1}(h:PA X es t):PE X (.Tuple es x1 pos) (A70 t):=by
 intro pins s σ H Q I hq;refine wpAny_Tuple_spliced (thn (h pos pins s σ H _ I hq) fun us s1 ⟨xs,H1,I1,r,z,q⟩=>⟨by rw [<-r.length];exact z,?_⟩);have hf:H1 s1.heap.objs.size=none:=I1.hok.fresh (A8 _);refine ⟨.ref s1.heap.objs.size,upd H1 s1.heap.objs.size (.tup xs),I1.laid (t':=s1.toks) (fun b u e=>A3 _ e) (A8 _) ?_,rfl,q _ hf⟩;exact ⟨z,us,r,⟨_,AW _ rfl,rfl,_,rfl⟩⟩
theorem yF(h:PA X es t):PE X (.List es pos) (AA6 t):=by
 intro pins s σ H Q I hq;refine wpAny_List_spliced (thn (h pos pins s σ H _ I hq) fun us s1 ⟨xs,H1,I1,r,z,q⟩=>⟨by rw [<-r.length];exact z,?_⟩);have hf:H1 s1.heap.objs.size=none:=I1.hok.fresh (A8 _);refine ⟨.ref s1.heap.objs.size,upd H1 s1.heap.objs.size (.lst xs),I1.laid (t':=s1.toks) (fun b u e=>A3 _ e) (A8 _) ?_,rfl,q _ hf⟩;exact ⟨z,us,0,r,AW _ rfl⟩
end
abbrev Sp:=List V->Hp->VK->XK->Prop
abbrev CXT:=List Env->Hp->Shared->XK->Value->Shared->Prop
structure Env0 (P:Program) (w:World) (K:PySem.W.Frag) (mg:Str->Option Value) (base:Heap) (A:Around) (outer:List Env) (s:Shared) (H:Hp):Prop where
 frames:A.frames=some outer
 mod:Mod K mg base
 bs:∀b o,base.get? b=some o->s.heap.get? b=some o/\H b=none
 bsz:base.objs.size<=s.heap.objs.size
 funs:s.heap.FunFrames base outer
 frf:∀b ∈ frs outer,H b=none
 hok:HOk P w H s.heap
 bare:AllBare s.gens
 tb:∀p ∈ SJ K,∃ps,H p=some (.tbl ps)
def CE(outer:List Env)(P:Program)(w:World)(H:Hp)(s:Shared)(Q:VK)(u:Value)(s':Shared):Prop:=
 ∃v H',s'.os=s.os/\AllBare s'.gens/\Un (frs outer) [] H H' s.heap s'.heap/\HOk P w H' s'.heap/\RelV v u/\Q v H'
def CR(CX:CXT)(outer:List Env)(P:Program)(w:World)(H:Hp)(s:Shared)(Q:VK)(E:XK)(r:Result)(s':Shared):Prop:=
 match r with
 | .ok (.ret u)=>CE outer P w H s Q u s'
 | .ok _=>False
 | .error e=>CX outer H s E e s'
structure FnOk (P:Program) (w:World) (K:PySem.W.Frag) (mg:Str->Option Value) (base:Heap) (CX:CXT) (k:Nat) (f:Addr) (fd:FuncData) (ps:List Str) (sp:Sp):Prop where
 len:∀vs H Q E,sp vs H Q E->vs.length=ps.length
 run:∀(A:Around) (outer:List Env) (s:Shared) (H:Hp) (args:Args) (us:List Value) (vs:List V) (Q:VK) (E:XK),Room k A->Env0 P w K mg base A outer s H->BindsTo s fd args (ps.zip us)->Vals vs us->sp vs H Q E ->
  codeAny (model P w) A (.call (.ref f) args) (CR CX outer P w H s Q E) s
theorem FnOk.imp {P : Program} {w : World} {K : PySem.W.Frag} {mg : Str -> Option Value} {base : Heap} {CX : CXT} {k : Nat} {f : Addr} {fd : FuncData} {ps : List Str} {sp sp' : Sp} (F : FnOk P w K mg base CX k f fd ps sp)
 (h:∀vs H Q E,sp' vs H Q E->sp vs H Q E):FnOk P w K mg base CX k f fd ps sp' :=
 ⟨fun vs H Q E q=>F.len vs H Q E (h _ _ _ _ q),fun A outer s H args us vs Q E hr he hb hv hs=>F.run A outer s H args us vs Q E hr he hb hv (h _ _ _ _ hs)⟩
theorem Env0.make {P : Program} {w : World} {K : PySem.W.Frag} {mg : Str -> Option Value} {base : Heap} {A : Around} {outer : List Env} {s : Shared} {H : Hp} (e : Env0 P w K mg base A outer s H) (C : Addr) (us : List Value) (kw : List (Str × Value)) :
 Env0 P w K mg base (A.under (.builtin "type.__call__" ⟨.ref C::us,kw⟩)) outer s H:=⟨by first | exact e.frames | (simpa [Around.under,Code.envs,Code.isFrame,pushEnvs] using e.frames),e.mod,e.bs,e.bsz,e.funs,e.frf,e.hok,e.bare,e.tb⟩
section
variable {X:Cx} {pins:List (Addr×Obj)} {σ:St} {H:Hp} {s s':Shared}
theorem Inv.env0(I:Inv X pins σ H s):Env0 X.prog X.w X.K X.mg X.base X.A X.stack s H:=
 ⟨I.ok.frames,I.ok.mod,I.bs,AY I.ok.bsz I.sz,I.stack,I.stkFree,I.hok,I.bare,I.tb⟩
theorem Inv.after{Q:VK}{u:Value}(I:Inv X pins σ H s)(h:CE X.stack X.prog X.w H s Q u s'):EP X pins σ Q u s':=by
 obtain ⟨v,H',os,bare,un,hok,r,q⟩:=h;obtain ⟨hh,g,d,t,os'⟩:=s';obtain rfl:os'=s.os:=os;exact ⟨v,H',I.call (h':=hh) (g':=g) (d':=d) (t':=t) (ch:= []) un hok bare (fun b z=>absurd z (by simp)),r,q⟩
end
def dN(sp:Sp)(dvs:List V)(E:XK)(t:TA):TE:=fun σ H Q=>t σ H fun vs H1=>sp (vs++dvs) H1 Q E
def fI(C:Addr)(m:Str)(sp:Sp)(dvs:List V)(E:XK)(ta:TE)(t:TA):TE:=fun σ H Q=>ta σ H fun x H1=>∃a dx fs,x = .ref a/\H1 a=some (.ins C dx fs)/\fs.lookup m=none /\
 t σ H1 fun vs H2=>sp (x::(vs++dvs)) H2 Q E
def vL(C:Addr)(sp:Sp)(dvs:List V)(E:XK)(t:TA):TE:=fun σ H Q=>t σ H fun vs H1=>∀x dx,H1 x=none->H1 dx=none->dx≠x ->
 sp (.ref x::(vs++dvs)) (upd (upd H1 dx (.own x)) x (.ins C dx [])) (fun v H2=>v = .non/\Q (.ref x) H2) E
def Binds(K:PySem.W.Frag)(fd:FuncData)(ps:List Str)(ds:List Value):Prop:=
 ∀(s:Shared) (us:List Value),K.In s.heap->(us++ds).length=ps.length->BindsTo s fd ⟨us,[]⟩ (ps.zip (us++ds))
theorem Binds.all{K:PySem.W.Frag}{fd:FuncData}{ps:List Str}(h:∀us:List Value,us.length=ps.length->bindArgs fd ⟨us,[]⟩=pure (ps.zip us)):Binds K fd ps []:=fun s us _ hl=>by
 rw [DK] at hl ⊢
 exact .of_eq (h us hl)
def PP(CX:CXT)(X:Cx)(E:XK):Prop:=∀(pins:List (Addr×Obj)) (σ:St) (H:Hp) (s:Shared) (e:Value) (s':Shared),Inv X pins σ H s->CX X.stack H s E e s'->X.xe e s'
section
variable {X:Cx} {CX:CXT} {k:Nat} {f C:Addr} {fd:FuncData} {ps:List Str} {sp:Sp} {dvs:List V} {ds:List Value} {E:XK} {x m:Str} {p pos apos:Pos} {e o:Expr} {es:List Expr} {ta:TE} {t:TA}
theorem jF {pins : List (Addr × Obj)} {σ : St} {H : Hp} {s : Shared} {Q : VK} {us : List Value} {vs : List V} (F : FnOk X.prog X.w X.K X.mg X.base CX k f fd ps sp) (hr : Room k X.A) (hb : Binds X.K fd ps ds) (hd : Vals dvs ds) (hx : PP CX X E)
 (I:Inv X pins σ H s) (r:Vals vs us) (h:sp (vs++dvs) H Q E):wpAny (model X.prog X.w) X.A (call (.ref f) us) (EP X pins σ Q) X.xe s:=by
 have r2:Vals (vs++dvs) (us++ds):=r.append hd;have hl:(us++ds).length=ps.length:=by rw [<-r2.length];exact F.len _ _ _ _ h
 refine wpAny_call (j0 (F.run X.A X.stack s H ⟨us,[]⟩ (us++ds) (vs++dvs) Q E hr I.env0 (hb s us I.kIn hl) r2 h) fun r s' hq=> ?_)
 cases r with
 | error e=>exact hx pins σ H s e s' I hq
 | ok fl=>
  cases fl with
  | ret u=>exact I.after hq
  | next=>exact False.elim hq
  | brk=>exact False.elim hq
  | cont=>exact False.elim hq
theorem u5 (F : FnOk X.prog X.w X.K X.mg X.base CX k f fd ps sp) (hr : Room k X.A) (hg : Gl X x) (hm : X.mg x = some (.ref f)) (hk : PySem.W.keepIn X.K (.ref f) = true) (hb : Binds X.K fd ps ds) (hd : Vals dvs ds) (hx : PP CX X E)
 (ha:PA X (e::es) t) (hdb:(x==("__debug__" : Str))=false:=by decide) (he:starEach (e::es) X.env=(false,eval e X.env)::starEach es X.env:=by rfl) (hpl:(backTo pos (starEach es X.env)).any (·.1)=false:=by rfl) :
 PE X (.Call (.Name x p) (e::es) [] pos) (dN sp dvs E t):=by
 intro pins s σ H Q I h;refine HH (VJ I hg hm ?_ hdb);refine V8 (h₀:=X.base) I.ok.mod.kin hk (thn (ha pos pins s σ H _ I h) fun us s1 ⟨vs,H1,I1,r,q⟩=>⟨I1.kIn,?_⟩) he hpl;exact jF F hr hb hd hx I1 r q
theorem VS {pl : Sem Bool} (he : PE X o ta) (c : Cls X.K C) (hm : Meth X.K C m f) (F : FnOk X.prog X.w X.K X.mg X.base CX k f fd ps sp) (hr : Room k X.A) (hb : Binds X.K fd ps ds) (hd : Vals dvs ds) (hx : PP CX X E) (ha : PA X (e :: es) t)
 (hst:starEach (e::es) X.env=(false,eval e X.env)::starEach es X.env:=by rfl) (hpl:(backTo pos (starEach es X.env)).any (·.1)=false:=by rfl)
 (ht:eval (.Call (.Attribute o m apos) (e::es) [] pos) X.env=(do
  let ov <-eval o X.env
  standAt apos.atName
  let (f,first) <-holding [ov] (getMethod ov m pl)
  callWith pos f first (backTo pos (starEach (e::es) X.env)) (backToKw pos (keywordEach [] X.env))):=by rfl) :
 PE X (.Call (.Attribute o m apos) (e::es) [] pos) (fI C m sp dvs E ta t):=by
 intro pins s σ H Q I h;refine A54 (pl:=pl) (thn (he pins s σ H _ I h) fun u s1 ⟨x,H1,I1,rx,a,dx,fs,ex,ea,l,q⟩ => ?_) ht;subst ex;obtain rfl:u=Value.ref a:=rx;refine T6 I1 ea c hm l ?_;refine V8 (first:= [.ref a]) (h₀:=X.base) I.ok.mod.kin hm.kp (thn (ha pos pins s1 σ H1 _ I1 q) fun us s2 ⟨vs,H2,I2,r,q2⟩=>⟨I2.kIn,?_⟩) hst hpl;exact jF (us:= .ref a::us) (vs:= .ref a::vs) F hr hb hd hx I2 (.cons rfl r) q2
structure Mk (K:PySem.W.Frag) (C f:Addr):Prop where
 makes:PySem.W.makesIn K C=true
 init:PySem.W.findIn K (.ref C) "__init__" = some (some (.ref f))
 fn:PySem.W.isFn K (.ref f)=true
 kp:PySem.W.keepIn K (.ref C)=true
theorem jN {pins : List (Addr × Obj)} {σ : St} {H : Hp} {s : Shared} {Q : VK} {us : List Value} {vs : List V} (M : Mk X.K C f) (F : FnOk X.prog X.w X.K X.mg X.base CX k f fd ps sp) (hr : Room (k + 1) X.A) (hb : Binds X.K fd ps ds) (hd : Vals dvs ds)
 (hx:PP CX X E) (I:Inv X pins σ H s) (r:Vals vs us)
 (h:∀x dx,H x=none->H dx=none->dx≠x->sp (.ref x::(vs++dvs)) (upd (upd H dx (.own x)) x (.ins C dx [])) (fun v H2=>v = .non/\Q (.ref x) H2) E) :
 wpAny (model X.prog X.w) X.A (call (.ref C) us) (EP X pins σ Q) X.xe s:=by
 have hq:=h (s.heap.objs.size+1) s.heap.objs.size (I.hok.fresh (R8 _)) (I.hok.fresh (A8 _)) (D2 (O6 _));have I2:=Inv.made (C:=C) I;have r2:Vals (V.ref (s.heap.objs.size+1)::(vs++dvs)) (Value.ref (s.heap.objs.size+1)::(us++ds)):= .cons rfl (r.append hd)
 have hl:(Value.ref (s.heap.objs.size+1)::us++ds).length=ps.length:=by
  have e:=r2.length;rw [F.len _ _ _ _ hq] at e
  exact e.symm
 refine wpAny_call (oM (f:=f) I.kIn M.makes M.init (DY.mp M.fn) (j0 (F.run _ X.stack _ _ ⟨Value.ref (s.heap.objs.size+1)::us,[]⟩ (Value.ref (s.heap.objs.size+1)::(us++ds)) _ _ E (hr.make C us [])
  (I2.env0.make C us []) (hb _ (Value.ref (s.heap.objs.size+1)::us) I2.kIn hl) r2 hq) fun r s' hq' => ?_))
 cases r with
 | error e=>exact hx pins σ _ _ e s' I2 hq'
 | ok fl=>
  cases fl with
  | ret u=>
   obtain ⟨v,H',I3,rv,ev,q3⟩:=I2.after hq';subst ev
   exact ⟨rv,⟨V.ref (s.heap.objs.size+1),H',I3,rfl,q3⟩⟩
  | next=>exact False.elim hq'
  | brk=>exact False.elim hq'
  | cont=>exact False.elim hq'
theorem tF (M : Mk X.K C f) (F : FnOk X.prog X.w X.K X.mg X.base CX k f fd ps sp) (hr : Room (k + 1) X.A) (hg : Gl X x) (hm : X.mg x = some (.ref C)) (hb : Binds X.K fd ps ds) (hd : Vals dvs ds) (hx : PP CX X E)
 (ha:PA X (e::es) t) (hdb:(x==("__debug__" : Str))=false:=by decide) (he:starEach (e::es) X.env=(false,eval e X.env)::starEach es X.env:=by rfl) (hpl:(backTo pos (starEach es X.env)).any (·.1)=false:=by rfl) :
 PE X (.Call (.Name x p) (e::es) [] pos) (vL C sp dvs E t):=by
 intro pins s σ H Q I h;refine HH (VJ I hg hm ?_ hdb);refine V8 (h₀:=X.base) I.ok.mod.kin M.kp (thn (ha pos pins s σ H _ I h) fun us s1 ⟨vs,H1,I1,r,q⟩=>⟨I1.kIn,?_⟩) he hpl;exact jN M F hr hb hd hx I1 r q
end
section
variable {X:Cx} {CX:CXT} {k:Nat} {f C:Addr} {fd:FuncData} {ps ks:List Str} {sp:Sp} {E:XK} {x m:Str} {p pos apos kpos:Pos} {e o:Expr} {es:List Expr} {kws:List Keyword} {te ta:TE} {t tk:TA} {nm:Option Str}
structure KBinds (K:PySem.W.Frag) (fd:FuncData) (ps ks:List Str) (g:List Value->List Value->List Value) (gV:List V->List V->List V):Prop where
 to:∀(s:Shared) (us ws:List Value),K.In s.heap->(g us ws).length=ps.length->BindsTo s fd ⟨us,ks.zip ws⟩ (ps.zip (g us ws))
 rel:∀ {vs:List V} {us:List Value} {zs:List V} {ws:List Value},Vals vs us->Vals zs ws->Vals (gV vs zs) (g us ws)
variable {g:List Value->List Value->List Value} {gV:List V->List V->List V}
end
structure FnScope (N P:List Str) (sc:Scope):Prop where
 kind:sc.kind = .function
 co:sc.isCoroutine=false
 gen:sc.isGenerator=false
 nd:N.Nodup
 pre:N.take P.length=P
 par:∀x ∈ P,sc.names.lookup x=some .local\/sc.names.lookup x=some .cell
 nofree:∀y ∈ sc.names,y.2 ≠ .free
theorem UL{kindOf:Str->Option NameKind}{x:Str}:∀ {binds:List (Str×Value)} {m:Str->Option Value},(∀v,(x,v) ∉ binds)->bindL kindOf binds m x=m x
 | [],_,_=>rfl
 | (n,v)::r,m,h=>by
  unfold bindL;rw [UL fun w hw=>h w (List.mem_cons_of_mem _ hw)]
  split
  . have:x≠n:=by rintro rfl;exact h v B5
    simp [this]
  . rfl
theorem UG{kindOf:Str->Option NameKind}{x:Str}:∀ {binds:List (Str×Value)} {m:Str->Option Value},(∀v,(x,v) ∉ binds)->bindC kindOf binds m x=m x
 | [],_,_=>rfl
 | (n,v)::r,m,h=>by
  unfold bindC;rw [UG fun w hw=>h w (List.mem_cons_of_mem _ hw)]
  split
  . rfl
  . have:x≠n:=by rintro rfl;exact h v B5
    simp [this]
theorem UQ {kindOf : Str -> Option NameKind} {x : Str} {v : Value} : ∀ {P : List Str} {vs : List Value} {i : Nat} {m : Str -> Option Value}, P.Nodup -> P[i]? = some x -> vs[i]? = some v -> kindOf x = some .local ->
 bindL kindOf (P.zip vs) m x=some v
 | [],_,_,_,_,h,_,_=>by simp at h
 | _::_,[],_,_,_,_,h,_=>by simp at h
 | p::P,w::vs,0,m,nd,h1,h2,hk=>by
  simp at h1 h2;subst h1;subst h2
  show bindL kindOf ((p,w)::P.zip vs) m p=_;unfold bindL;rw [UL fun v hv=>(List.nodup_cons.mp nd).1 (List.of_mem_zip hv).1,if_pos hk]
  simp
 | p::P,w::vs,i+1,m,nd,h1,h2,hk=>by
  show bindL kindOf ((p,w)::P.zip vs) m x=_;unfold bindL;exact UQ (i:=i) (List.nodup_cons.mp nd).2 (by simpa using h1) (by simpa using h2) hk
theorem V2 {kindOf : Str -> Option NameKind} {x : Str} {v : Value} : ∀ {P : List Str} {vs : List Value} {i : Nat} {m : Str -> Option Value}, P.Nodup -> P[i]? = some x -> vs[i]? = some v -> kindOf x ≠ some .local ->
 bindC kindOf (P.zip vs) m x=some v
 | [],_,_,_,_,h,_,_=>by simp at h
 | _::_,[],_,_,_,_,h,_=>by simp at h
 | p::P,w::vs,0,m,nd,h1,h2,hk=>by
  simp at h1 h2;subst h1;subst h2
  show bindC kindOf ((p,w)::P.zip vs) m p=_;unfold bindC;rw [UG fun v hv=>(List.nodup_cons.mp nd).1 (List.of_mem_zip hv).1,if_neg hk]
  simp
 | p::P,w::vs,i+1,m,nd,h1,h2,hk=>by
  show bindC kindOf ((p,w)::P.zip vs) m x=_;unfold bindC;exact V2 (i:=i) (List.nodup_cons.mp nd).2 (by simpa using h1) (by simpa using h2) hk
def start(N:List Str)(vs:List V):St:=vs.map some++List.replicate (N.length - vs.length) none
def QQ(CX:CXT)(P:Program)(w:World)(K:PySem.W.Frag)(mg:Str->Option Value)(base:Heap)(N:List Str)(qual:Str)(scope:Scope)(f:Addr)(cd:Value)(A:Around)(outer:List Env)(s:Shared)(H:Hp)(E:XK):Cx where
 prog:=P
 w:=w
 K:=K
 mg:=mg
 base:=base
 A:=A.deeper (envOfC qual scope s.heap.objs.size f cd)
 N:=N
 s₀:=s
 H₀:=H
 env:=envOfC qual scope s.heap.objs.size f cd
 outer:=outer
 stack:=envOfC qual scope s.heap.objs.size f cd::outer
 ex:= []
 calm:=true
 fn:=fun _=>true
 pn:= []
 xe:=fun e s'=>wpAny (model P w) (A.deeper (envOfC qual scope s.heap.objs.size f cd)) (leaving (envOfC qual scope s.heap.objs.size f cd) e) (fun _ s''=>CX outer H s E e s'') (fun e' s''=>CX outer H s E e' s'') s'
theorem Z1{sc:Scope}{n:Nat}{x:Str}(h:sc.names.lookup x=some .cell):∃c,(cellsFrom n sc.names []).lookup x=some c:=by
 have q:=wC sc.names n [] (.inl h);exact pN.mp q
theorem i8 {CX : CXT} {P : Program} {w : World} {K : PySem.W.Frag} {mg : Str -> Option Value} {base : Heap} {N ps : List Str} {qual : Str} {scope : Scope} {f : Addr} {cd : Value} {A : Around} {outer : List Env} {s s1 : Shared} {H : Hp} {E : XK} {us : List Value} {vs : List V}
 (S:FnScope N ps scope) (hd:A.handled=none) (e0:Env0 P w K mg base A outer s H) (hl:vs.length=ps.length) (r:Vals vs us)
 (x:InCallC s s.heap.objs.size (bindL (envOfC qual scope s.heap.objs.size f cd).kindOf (ps.zip us) fun _=>none) (cellsFrom (s.heap.objs.size+1) scope.names []) (bindC (envOfC qual scope s.heap.objs.size f cd).kindOf (ps.zip us) fun _=>none) s1) :
 Inv (QQ CX P w K mg base N qual scope f cd A outer s H E) [] (start N vs) H s1:=by
 have hpl:ps.length<=N.length:=by have:=GM List.length S.pre;rw [FF] at this;omega
 obtain ⟨h1,tk,rfl,hk⟩:=x.done;have noA:∀b:Addr,b ∉ (QQ CX P w K mg base N qual scope f cd A outer s H E).ex:=fun b z=>absurd (show b ∈ ([]:List Addr) from z) (by simp)
 refine ⟨⟨e0.mod,S.kind,rfl,rfl,A8 _,fun y z c h1 h2=> ?_,fun y hy=> ?_,fun y c _ h=> ?_,fun _=>hd,Around.frames_deeper e0.frames, .inr ⟨rfl,rfl⟩,fun b z=>absurd z (noA b),e0.bs,e0.bsz,fun b _ _=>noA b,fun b z=>absurd z (noA b),e0.funs,e0.frf,e0.tb⟩,
  rfl,e0.bare,Un.kept hk,⟨_,x.toInCall.ns,fun i y v h1 h2 h3=> ?_⟩,fun y c h=>⟨_,x.cell y c h⟩,e0.hok.fresh (A8 _),fun y c h=> ?_,fun p hp=>absurd (show p ∈ ([]:List (Addr×Obj)) from hp) (by simp),e0.hok.kept hk,?_⟩
 . exact name_of_addr x.apart (ID h1) (ID h2)
 . have hy:scope.names.lookup y=some .cell\/scope.names.lookup y=some .free:=hy;rcases hy with hy | hy
   . exact Z1 hy
   . exact absurd rfl (S.nofree _ (ID hy))
 . exact GI (x.above y c (ID h))
 . have hi : i < vs.length := by
    unfold start at h2
    by_cases hi:i<vs.length
    . exact hi
    . rw [A6 (by simpa using hi)] at h2
      rw [D8] at h2
      split at h2 <;> cases h2
   have ha:vs[i]? = some v:=by
    unfold start at h2
    rw [A9 (by simpa using hi),B3] at h2
    cases e:vs[i]? with
    | none=>rw [e] at h2;cases h2
    | some a=>rw [e] at h2;cases h2;rfl
   obtain ⟨u,hu,rv⟩:=r.get ha
   have hp:ps[i]? = some y:=by
    rw [<-S.pre,pO (by omega)];exact h1
   have ndP:ps.Nodup:=by rw [<-S.pre];exact S.nd.sublist (List.take_sublist _ _)
   refine ⟨u,rv,?_⟩;rcases S.par y (B2 hp) with k | k
   . exact .inl ⟨k,UQ ndP hp hu k⟩
   . obtain ⟨c,e⟩:=Z1 (n:=s.heap.objs.size+1) k;refine .inr ⟨.inl k,c,e,?_⟩;have q:=x.cell y c e;rw [V2 ndP hp hu (by show scope.names.lookup y≠_;rw [k];decide)] at q
     exact q
 . exact e0.hok.fresh (GI (x.above y c (ID h)))
 . unfold start;show _=N.length;rw [List.length_append,List.length_map,List.length_replicate];omega
theorem A83 {CX : CXT} {P : Program} {w : World} {K : PySem.W.Frag} {mg : Str -> Option Value} {base : Heap} {k : Nat} {f : Addr} {name qual : Str} {params : Arguments} {body : List Stmt} {scope : Scope} {dV kV doc pm cdv ct oc : Value} {an od : Option Addr}
 {osl:Array (Option Value)} {N ps:List Str} {sp:Sp} (lk:K.lookup f=some ⟨oc,od, .func (PySem.W.fnOf name qual params body scope dV kV doc pm an cdv ct),osl⟩) (hcd:PySem.W.codeIn K cdv qual=true) (S:FnScope N ps scope)
 (len:∀vs H Q E,sp vs H Q E->vs.length=ps.length)
 (hbody:∀(A:Around) (outer:List Env) (s:Shared) (H:Hp) (vs:List V) (Q:VK) (E:XK),Room k (A.deeper (envOfC qual scope s.heap.objs.size f cdv))->sp vs H Q E ->
  ∃t,PSs (QQ CX P w K mg base N qual scope f cdv A outer s H E) body t/\t {nx:=fun _ H'=>Q .non H',rt:=Q} (start N vs) H) :
 FnOk P w K mg base CX (k+1) f (PySem.W.fnOf name qual params body scope dV kV doc pm an cdv ct) ps sp:=by
 refine ⟨len,fun A outer s H args us vs Q E hr e0 hb r hsp=> ?_⟩;have hl:=len _ _ _ _ hsp;have KX:K.In s.heap:=e0.mod.kin.keeps fun b o e=>(e0.bs b o e).1;have lim:s.heap.NoLimit:=e0.mod.nolimit.keeps fun b o e=>(e0.bs b o e).1
 have hkind:∀y ∈ ps.zip us,scope.names.lookup y.1=some .local\/(scope.names.lookup y.1=some .cell/\((cellsFrom (s.heap.objs.size+1) scope.names []).lookup y.1).isSome=true):=fun ⟨n,v⟩ hy=>by
  rcases S.par n (AG9 hy).1 with q | q
  . exact .inl q
  . exact .inr ⟨q,wC _ _ _ (.inl q)⟩
 refine codeAny_call_function hr.depth (KX _ _ lk) rfl S.co S.gen rfl (PySem.W.codeRec_of KX hcd) (hb _ _ _ _ ?_);refine wpAny_newFunctionEnv_cells S.kind hkind fun env he s1 x=> ?_;subst he;refine ⟨lim.keeps x.toInCall.keep,codeAny_func ?_⟩;obtain ⟨t,ht,hq⟩:=hbody A outer s H vs Q E (hr.deeper _) hsp;have I:Inv (QQ CX P w K mg base N qual scope f cdv A outer s H E) [] (start N vs) H s1:=i8 S hr.hd e0 hl r x;refine HF (ht [] s1 (start N vs) H _ I hq) (fun fl s' hs=> ?_) fun e s' hs=>hs
 have fin:∀ {σ':St} {H':Hp} {v:V} {u:Value},Inv (QQ CX P w K mg base N qual scope f cdv A outer s H E) [] σ' H' s'->RelV v u->Q v H'->CE outer P w H s Q u s' :=
  fun {σ' H' v u} J rv q=>⟨v,H',J.os,J.bare,J.base,J.hok,rv,q⟩
 cases fl with
 | ret u=>
  obtain ⟨v,σ',H',J,rv,q⟩:=hs
  exact fin J rv q
 | next=>
  obtain ⟨σ',H',J,q⟩:=hs
  exact fin (v:=V.non) (u:=Value.none) J rfl q
 | brk=>
  obtain ⟨_,_,_,q⟩:=hs
  exact False.elim q
 | cont=>
  obtain ⟨_,_,_,q⟩:=hs;exact False.elim q
end L2
namespace L2
open PySem PySem.Spec PyProof.Rows
section
variable {X:Cx} {x:Str} {p pos:Pos} {e:Expr} {es:List Expr} {t:TA} {id T:String} {r:List V->Hp->VK->Prop}
def tCB(r:List V->Hp->VK->Prop)(t:TA):TE:=fun σ H Q=>t σ H fun vs H1=>r vs H1 Q
theorem lI (hc : LF X (.builtin id) r) (hg : Gl X x) (hm : X.mg x = none) (hv : bootBuiltins x = some (.builtin id)) (ha : PA X (e :: es) t) (hn : x ≠ "__name__" := by decide) (hdb : (x == ("__debug__" : Str)) = false := by decide)
 (he:starEach (e::es) X.env=(false,eval e X.env)::starEach es X.env:=by rfl) (hpl:(backTo pos (starEach es X.env)).any (·.1)=false:=by rfl):PE X (.Call (.Name x p) (e::es) [] pos) (tCB r t):=by
 intro pins s σ H Q I h;refine HH (HS I hg hm hv ?_ hn hdb);exact PyProof.Rows.callWith_builtin1 (thn (ha pos pins s σ H _ I h) fun us s1 ⟨vs,H1,I1,r1,q1⟩=>hc pins s1 σ H1 vs us Q I1 r1 q1) he hpl
theorem fY (hc : LF X (.type T) r) (hg : Gl X x) (hm : X.mg x = none) (hv : bootBuiltins x = some (.type T)) (ha : PA X (e :: es) t) (hn : x ≠ "__name__" := by decide) (hdb : (x == ("__debug__" : Str)) = false := by decide)
 (he:starEach (e::es) X.env=(false,eval e X.env)::starEach es X.env:=by rfl) (hpl:(backTo pos (starEach es X.env)).any (·.1)=false:=by rfl):PE X (.Call (.Name x p) (e::es) [] pos) (tCB r t):=by
 intro pins s σ H Q I h;refine HH (HS I hg hm hv ?_ hn hdb);exact BD (thn (ha pos pins s σ H _ I h) fun us s1 ⟨vs,H1,I1,r1,q1⟩=>hc pins s1 σ H1 vs us Q I1 r1 q1) he hpl
end
end L2
namespace HT
open PySem PyProof.Rows
section
open PySem.SeqAt
open PySem.AutoSeq1 (wpAny_loadPart')
open PySem.MeetsSeq PySem.MeetsSeq2 PySem.MeetsSeq3
end
section
variable {prog:Program} {w:World} {A:Around} {E:Value->Shared->Prop} {s:Shared}
theorem cat_tup {t b : Addr} {vs ws : List Value} {Q : Value -> Shared -> Prop} (ht : IsTup s.heap t vs.toArray) (hb : IsTup s.heap b ws.toArray) (hv : vs ≠ [])
 (h1:ws = []->Q (.ref t) s) (h2:ws ≠ []->Q (.ref s.heap.objs.size) {s with heap:=s.heap.push {cls:= .type "tuple",data:= .seq (vs++ws).toArray} })
 (hsz:vs.length+ws.length<=sizeLine):wpAny (model prog w) A (binaryOp .Add (.ref t) (.ref b)) Q E s:=by
 obtain ⟨⟨cls,dd,data,sl⟩,ho,hc,n,hd⟩:=id ht;obtain ⟨⟨cls2,dd2,data2,sl2⟩,ho2,hc2,n2,hd2⟩:=id hb;simp only at hc hd hc2 hd2
 subst hc hd hc2 hd2;have e:vs.toArray++ws.toArray=(vs++ws).toArray:=by simp
 by_cases hw:ws = []
 . exact j3 ⟨_, ho, rfl⟩ ⟨_, ho2, rfl⟩ pP AD8 PD O9 (NK _ _)
    (tuple_addW1 t b vs.toArray ws.toArray n n2 dd dd2 sl sl2 (by simpa using hv) (by simp [hw])) ⟨ho,ho2,h1 hw⟩
 . refine j3 ⟨_, ho, rfl⟩ ⟨_, ho2, rfl⟩ pP AD8 PD O9 (NK _ _)
    (tuple_addW2 t b vs.toArray ws.toArray n n2 dd dd2 sl sl2 (by simpa using hv) (by simpa using hw) (by rw [AF,AF];exact hsz)) ⟨ho,ho2,?_⟩
   rw [e];exact h2 hw
def sIx(n d:Nat):Option Int->Nat
 | none=>d
 | some v=>if v<0 then (v+(n:Int)).toNat else min v.toNat n
theorem sIx_none(n d:Nat):sIx n d none=d:=rfl
theorem sIx_nat(n d k:Nat):sIx n d (some (k:Int))=min k n:=by
 show (if (k:Int)<0 then ((k:Int)+(n:Int)).toNat else min (k:Int).toNat n)=min k n;rw [AR (by omega),FZ]
theorem zA(n d:Nat)(hd:d<=n)(o:Option Int):sIx n d o<=n:=by
 cases o with
 | none=>exact hd
 | some v=>
  show (if v<0 then (v+(n:Int)).toNat else min v.toNat n)<=n
  by_cases hv:v<0
  . rw [AU hv];omega
  . rw [AR hv];exact Nat.min_le_right _ _
theorem fN(v:Int)(n d:Nat):(if v<0 then max (v+(n:Int)) 0 else min v (n:Int))=((sIx n d (some v):Nat):Int):=by
 show (if v<0 then max (v+(n:Int)) 0 else min v (n:Int))=(((if v<0 then (v+(n:Int)).toNat else min v.toNat n):Nat):Int)
 by_cases hv:v<0
 . simp only [AU hv];omega
 . simp only [AR hv];omega
theorem bC(lo hi:Option Int)(n:Nat):Builtin.Slice.sliceAdjust lo hi 1 (n:Int)=(((sIx n 0 lo:Nat):Int),((sIx n n hi:Nat):Int)):=by
 have h1:¬((1:Int)<0):=by omega
 unfold Builtin.Slice.sliceAdjust;simp only [h1,if_false];refine Prod.ext ?_ ?_
 . cases lo with
   | none=>rfl
   | some v=>exact fN v n 0
 . cases hi with
   | none=>rfl
   | some v=>exact fN v n n
theorem aT(i j:Nat):Builtin.Slice.slicePlaces (i:Int) (j:Int) 1=j - i:=by
 unfold Builtin.Slice.slicePlaces;have h1:(1:Int)>0:=by omega
 simp only [h1,FP,Int.ediv_one]
 split <;> omega
theorem T7{v:Value}{o:Option Int}{Q:Option Int->Shared->Prop}(p:IsPart v o)(h:Q o s):wpAny (model prog w) A (Builtin.Slice.slicePartIndex v) Q E s:=by
 cases p with
 | none=>exact slicePart_none h
 | int i t=>exact slicePart_int h
theorem PM {sl : Addr} {vl vu : Value} {lo hi : Option Int} {n : Nat} {Q : Int × Int × Nat -> Shared -> Prop} (hs : s.heap.IsSliceOf sl vl vu .none) (pl : IsPart vl lo) (pu : IsPart vu hi)
 (h:Q (((sIx n 0 lo:Nat):Int),1,sIx n n hi - sIx n 0 lo) s):wpAny (model prog w) A (Builtin.Slice.sliceApplied (.ref sl) (pure (n:Int))) Q E s:=by
 obtain ⟨os,hos,hcs,hds⟩:=id hs;unfold Builtin.Slice.sliceApplied Builtin.Slice.sliceFields;refine wpAny_bind (wpAny_bind (wpAny_field hos hds (x:=vl) rfl (wpAny_bind (wpAny_field hos hds (x:=vu) rfl (wpAny_bind (wpAny_field hos hds (x:= .none) rfl (wpAny_pure ?_)))))));refine wpAny_bind (slicePart_none ?_);show wpAny _ _ (if ((1:Int)==0)=true then _ else _) _ _ s;rw [if_neg (by decide)];refine wpAny_bind (T7 pl (wpAny_bind (T7 pu (wpAny_bind (wpAny_pure ?_)))));show wpAny _ _ (match Builtin.Slice.sliceAdjust lo hi 1 (n:Int) with | (lo,hi)=>pure (lo,(1:Int),Builtin.Slice.slicePlaces lo hi 1)) _ _ s;rw [bC lo hi n];show wpAny _ _ (pure (((sIx n 0 lo:Nat):Int),(1:Int),Builtin.Slice.slicePlaces ((sIx n 0 lo:Nat):Int) ((sIx n n hi:Nat):Int) 1)) _ _ s;rw [aT];exact wpAny_pure h
theorem kX(xs:Array Value)(i k:Nat):((List.range k).filterMap fun (m:Nat)=>xs[((i:Int)+(m:Int)*1).toNat]?).toArray=((xs.toList.drop i).take k).toArray:=by
 have e:(fun (m:Nat)=>xs[((i:Int)+(m:Int)*1).toNat]?)=fun m=>xs[i+m]? :=by
  funext m;have:((i:Int)+(m:Int)*1).toNat=i+m:=by omega
  rw [this]
 rw [e];have:=pick_run xs i k;rw [List.filterMap_map] at this
 have e2:((fun x=>xs[x]?) ∘ fun x=>i+x)=fun m=>xs[i+m]? :=rfl;rw [e2] at this
 rw [this]
theorem getItem_tuple_cut {t sl : Addr} {items : Array Value} {vl vu : Value} {lo hi : Option Int} {Q : Value -> Shared -> Prop} (ht : IsTup s.heap t items) (hs : s.heap.IsSliceOf sl vl vu .none) (pl : IsPart vl lo) (pu : IsPart vu hi)
 (hw:¬(sIx items.size 0 lo=0/\sIx items.size items.size hi=items.size))
 (h:Q (.ref s.heap.objs.size) {s with heap:=s.heap.push {cls:= .type "tuple",data:= .seq ((items.toList.drop (sIx items.size 0 lo)).take (sIx items.size items.size hi - sIx items.size 0 lo)).toArray} })
 (hsz:items.size<=sizeLine):wpAny (model prog w) A (getItem (.ref t) (.ref sl)) Q E s:=by
 have htake:sizeOk (.seq ((items.toList.drop (sIx items.size 0 lo)).take (sIx items.size items.size hi - sIx items.size 0 lo)).toArray):=by
  show ((items.toList.drop (sIx items.size 0 lo)).take (sIx items.size items.size hi - sIx items.size 0 lo)).toArray.size<=sizeLine;rw [AF,FF,OB,F4];omega
 have hj:sIx items.size items.size hi<=items.size:=zA _ _ (Nat.le_refl _) hi;obtain ⟨os,hos,hcs,hds⟩:=id hs;have hTs:s.TypeIs (.ref sl) "slice" :=⟨os,hos,hcs⟩;unfold getItem
 try with_reducible refine FT ?_
 first | refine A7 (AS ?_) | skip
 refine A7 (wpAny_sequenceKey ht.typeIs (by decide) ?_)
 refine A7 (GN (name:=Str.ofString "__getitem__") ht.typeIs JP
  (IU JP ht.typeIs entry_tuple_getitem ?_ (args_tuple_getitem _ _)))
 show wpAny _ _ (Builtin.Tuple.tupleItemsOf (.ref t) >>= _) _ _ s;refine A7 (tupleItemsOf_ ht ?_);refine A7 (wpAny_typeOf hTs ?_);rw [AU (by decide)];refine A7 (PM hs pl pu ?_)
 have hno:¬((((sIx items.size 0 lo:Nat):Int)==0 && (1:Int)==1 && (sIx items.size items.size hi - sIx items.size 0 lo)==items.size)=true):=by
  intro q;rw [FG,FG] at q
  have q1:((sIx items.size 0 lo:Nat):Int)=0:=eq_of_beq q.1.1;have q2:sIx items.size items.size hi - sIx items.size 0 lo=items.size:=eq_of_beq q.2;exact hw ⟨by omega,by omega⟩
 show wpAny _ _ (if (((sIx items.size 0 lo:Nat):Int)==0 && (1:Int)==1 && (sIx items.size items.size hi - sIx items.size 0 lo)==items.size)=true then _ else _) _ _ s;rw [AR hno,kX]
 first
  | exact A7 (m:=Builtin.Tuple.tupleExact _) (FD (AS ⟨_,rfl,AS h⟩) htake)
  | exact A7 (m:=Builtin.Tuple.tupleExact _) (FD (A7 (AS (AS ⟨_,rfl,AS h⟩))) htake)
  | exact A7 (A7 (m:=Builtin.Tuple.tupleExact _) (FD (AS (AS ⟨_,rfl,AS h⟩)) htake))
  | exact A7 (A7 (m:=Builtin.Tuple.tupleExact _) (FD (AS ⟨_,rfl,AS h⟩) htake))
end
end HT
namespace L2
open PySem PySem.Spec PyProof.Rows
abbrev TO:=St->Hp->(Option Int->Hp->Prop)->Prop
def PO(X:Cx)(e:Option Expr)(t:TO):Prop:=
 ∀(pins:List (Addr×Obj)) (s:Shared) (σ:St) (H:Hp) (Q:Option Int->Hp->Prop),Inv X pins σ H s->t σ H Q ->
   wpAny (model X.prog X.w) X.A (evalPart e X.env) (fun u s'=>∃o H',Inv X pins σ H' s'/\IsPart u o/\Q o H') X.xe s
def tNoPart:TO:=fun _ H Q=>Q none H
def vV(t:TE):TO:=fun σ H Q=>t σ H fun x H1=>∃i,x = .int i/\Q (some i) H1
theorem aP{ns:List Int}:∀ {us:List Value},Vals (ns.map V.int) us->IntsAre us ns:=by
 induction ns with
 | nil=>intro us r;rw [WQ] at r;cases r;exact .nil
 | cons n ns ih=>
  intro us r;rw [BN] at r
  cases r with
  | cons r1 r2=>
   obtain ⟨t,e⟩:=r1;subst e;exact .cons n t (ih r2)
section
variable {X:Cx} {e:Expr} {te:TE} {lo hi:Option Expr} {tl th:TO} {pos p2:Pos}
theorem qX:PO X none tNoPart:=by
 intro pins s σ H Q I h;rw [evalPart_none];exact AS ⟨none,H,I, .none,h⟩
theorem rO(h:PE X e te):PO X (some e) (vV te):=by
 intro pins s σ H Q I hw;rw [evalPart_some];refine thn (h pins s σ H _ I hw) fun u s1 ⟨x,H1,I1,r1,q1⟩ => ?_;obtain ⟨i,rfl,q⟩:=q1;obtain ⟨t,rfl⟩:=r1;exact ⟨some i,H1,I1, .int i t,q⟩
def SlR(X:Cx)(r:V->Option Int->Option Int->Hp->VK->Prop):Prop:=
 ∀(pins:List (Addr×Obj)) (s:Shared) (σ:St) (H:Hp) (x:V) (v vl vu:Value) (lo hi:Option Int) (sl:Addr) (Q:VK),Inv X pins σ H s->RelV x v->s.heap.IsSliceOf sl vl vu .none->IsPart vl lo->IsPart vu hi->r x lo hi H Q ->
   ∃T id,typeLookup (.type T) "__getitem__" = pure (some (.builtin id))/\s.TypeIs v T/\wpAny (model X.prog X.w) X.A (getItem v (.ref sl)) (EP X pins σ Q) X.xe s
theorem SlR.or{r r':V->Option Int->Option Int->Hp->VK->Prop}(h:SlR X r)(h':SlR X r'):SlR X (fun x lo hi H Q=>r x lo hi H Q\/r' x lo hi H Q):=by
 intro pins s σ H x v vl vu lo hi sl Q I rx hs pl pu q;rcases q with q | q
 . exact h pins s σ H x v vl vu lo hi sl Q I rx hs pl pu q
 . exact h' pins s σ H x v vl vu lo hi sl Q I rx hs pl pu q
def tSl(r:V->Option Int->Option Int->Hp->VK->Prop)(te:TE)(tl th:TO):TE:=fun σ H Q=>te σ H fun x H1=>tl σ H1 fun l H2=>th σ H2 fun u H3=>r x l u H3 Q
theorem nA{r:V->Option Int->Option Int->Hp->VK->Prop}(hr:SlR X r)(he:PE X e te)(hl:PO X lo tl)(hu:PO X hi th):PE X (.Subscript e (.Slice lo hi none p2) pos) (tSl r te tl th):=by
 intro pins s σ H Q I h;refine Subscript_ (thn (he pins s σ H _ I h) fun v s1 ⟨x,H1,I1,r1,q1⟩ => ?_);refine wpAny_Slice (thn (hl pins s1 σ H1 _ I1 q1) fun vl s2 ⟨l,H2,I2,pl,q2⟩=>thn (hu pins s2 σ H2 _ I2 q2) fun vu s3 ⟨u,H3,I3,pu,q3⟩ => ?_);rw [evalPart_none];refine AS ?_;have I4:Inv X pins σ H3 {s3 with heap:=s3.heap.push {cls:= .type "slice",data:= .fields #[vl,vu, .none]} }:=I3.kept (t':=s3.toks) fun b ob q=>A3 _ q;obtain ⟨T,id,hT,ht,hg⟩:=hr pins {s3 with heap:=s3.heap.push {cls:= .type "slice",data:= .fields #[vl,vu, .none]} } σ H3 x v vl vu l u s3.heap.objs.size Q I4 r1 (Heap.IsSliceOf.new ..) pl pu q3;show wpAny (model X.prog X.w) X.A (subscriptTail e (.Slice lo hi none p2) v (.ref s3.heap.objs.size)) (EP X pins σ Q) X.xe {s3 with heap:=s3.heap.push {cls:= .type "slice",data:= .fields #[vl,vu, .none]} };exact tail_any (ops:= [.ref s3.heap.objs.size,v]) ht hT hg (by with_unfolding_all rfl)
def Y3(xs:List V)(lo hi:Option Int):List V:=(xs.drop (HT.sIx xs.length 0 lo)).take (HT.sIx xs.length xs.length hi - HT.sIx xs.length 0 lo)
theorem QK(xs:List V)(lo hi:Option Int):(Y3 xs lo hi).length<=xs.length:=by
 unfold Y3;rw [List.length_take,List.length_drop];omega
def AD0(K:PySem.W.Frag):V->Option Int->Option Int->Hp->VK->Prop:=fun x lo hi H Q=>∃a xs,x = .ref a/\SqT K H a xs /\
 ¬(HT.sIx xs.length 0 lo=0/\HT.sIx xs.length xs.length hi=xs.length)/\∀p,H p=none->Q (.ref p) (upd H p (.tup (Y3 xs lo hi)))
theorem A50:SlR X (AD0 X.K):=by
 intro pins s σ H x v vl vu lo hi sl Q I rx hs pl pu h;obtain ⟨a,xs,rfl,hx,hw,q⟩:=h
 cases rx
 obtain ⟨its,r,ht,hz⟩:=I.tuple hx;have hlen:its.toArray.size=xs.length:=by rw [AF];exact r.length.symm
 refine ⟨"tuple",_,JP.lookup,ht.typeIs,?_⟩;refine HT.getItem_tuple_cut ht hs pl pu (by rw [hlen];exact hw) ?_ (by rw [hlen];exact hz);rw [hlen];refine ⟨.ref s.heap.objs.size,_,I.laid (t':=s.toks) (o:= .tup (Y3 xs lo hi)) (fun b ob q=>A3 _ q) (A8 _) ?_,rfl,q _ (I.hok.fresh (A8 _))⟩;exact ⟨AY (QK xs lo hi) hz,_,(r.drop (HT.sIx xs.length 0 lo)).take (HT.sIx xs.length xs.length hi - HT.sIx xs.length 0 lo),IsTup.new _ _⟩
def vY(K:PySem.W.Frag):R2:=fun x y H Q=>∃a b xs ys,x = .ref a/\y = .ref b/\SqT K H a xs/\SqT K H b ys/\xs ≠ []/\xs.length+ys.length<=sizeLine /\
 (ys = []->Q (.ref a) H)/\(ys ≠ []->∀p,H p=none->Q (.ref p) (upd H p (.tup (xs++ys))))
theorem Vals.nil_iff{xs:List V}{us:List Value}(r:Vals xs us):us = []↔xs = []:=by
 cases r with
 | nil=>simp
 | cons _ _=>simp
theorem sS:OpR X (binaryOp .Add) (vY X.K):=by
 intro pins s σ H x y v u Q I rx ry h;obtain ⟨a,b,xs,ys,rfl,rfl,ha,hb,hx,hz,q1,q2⟩:=h
 cases rx
 cases ry
 obtain ⟨its,r1,p1,_⟩:=I.tuple ha;obtain ⟨its2,r2,p2,_⟩:=I.tuple hb;refine HT.cat_tup p1 p2 (fun z=>hx (r1.nil_iff.mp z)) (fun z=>⟨.ref a,H,I,rfl,q1 (r2.nil_iff.mp z)⟩) (fun z=> ?_) (by rw [<-r1.length, <-r2.length];exact hz);refine ⟨.ref s.heap.objs.size,_,I.laid (t':=s.toks) (o:= .tup (xs++ys)) (fun b ob q=>A3 _ q) (A8 _) ?_,rfl,q2 (fun w=>z (r2.nil_iff.mpr w)) _ (I.hok.fresh (A8 _))⟩;exact ⟨by rw [AO];exact hz,_,r1.append r2,IsTup.new _ _⟩
end
end L2
namespace L2
open PySem PySem.Spec PyProof.Rows
def ixN(n:Nat)(i:Int):Option Nat:=if 0<=i then (if i<n then some i.toNat else none) else if -(n:Int)<=i then some (i+n).toNat else none
def atI{α:Type}(xs:List α)(i:Int):Option α:=(ixN xs.length i).bind fun j=>xs[j]?
theorem fM{n:Nat}{i:Int}{j:Nat}(h:ixN n i=some j):seqIndex? i n=some j/\j<n /\ -(n:Int)<=i/\i<n:=by
 unfold ixN at h
 by_cases h0:0<=i
 . rw [AU h0] at h
   by_cases h1:i<n
   . rw [AU h1] at h
     have e:i.toNat=j:=B6 h;exact ⟨by rw [AH4 h0 h1,e],by omega,by omega,h1⟩
   . rw [AR h1] at h;cases h
 . rw [AR h0] at h
   by_cases h1 : -(n:Int)<=i
   . rw [AU h1] at h
     have e:(i+n).toNat=j:=B6 h;exact ⟨by rw [AG3 (by omega) h1,e],by omega,h1,by omega⟩
   . rw [AR h1] at h;cases h
theorem VM{α:Type}{xs:List α}{i:Int}{v:α}(h:atI xs i=some v):∃j,seqIndex? i xs.length=some j/\xs[j]? = some v/\j<xs.length /\ -(xs.length:Int)<=i/\i<xs.length:=by
 unfold atI at h
 cases e:ixN xs.length i with
 | none=>rw [e] at h;cases h
 | some j=>
  rw [e] at h
  obtain ⟨h1,h2,h3,h4⟩:=fM e;exact ⟨j,h1,h,h2,h3,h4⟩
theorem atI_nat{α:Type}{xs:List α}{j:Nat}{v:α}(h:xs[j]? = some v):atI xs (j:Int)=some v:=by
 have hj:j<xs.length:=(AX.mp h).1
 have e:ixN xs.length (j:Int)=some j:=by
  unfold ixN;rw [if_pos (by omega),if_pos (by omega)];simp
 unfold atI;rw [e];exact h
def cT(b:Expr):Prop:=∀o i,subscripted b false o i=operate [o,i] (getItem o i)
def IxR(X:Cx)(r:R2):Prop:=
 ∀(value slice:Expr) (pins:List (Addr×Obj)) (s:Shared) (σ:St) (H:Hp) (x y:V) (v u:Value) (Q:VK),Inv X pins σ H s->RelV x v->RelV y u->r x y H Q ->
   subscripted slice false v u=operate [v,u] (getItem v u)->wpAny (model X.prog X.w) X.A (subscriptTail value slice v u) (EP X pins σ Q) X.xe s
def MtR(X:Cx)(id:String)(r:V->List V->Hp->VK->Prop):Prop:=
 ∀(pins:List (Addr×Obj)) (s:Shared) (σ:St) (H:Hp) (x:V) (xs:List V) (v:Value) (us:List Value) (Q:VK),Inv X pins σ H s->RelV x v->Vals xs us->r x xs H Q ->
   wpAny (model X.prog X.w) X.A (call (.builtin id) (v::us)) (EP X pins σ Q) X.xe s
section
variable {X:Cx} {a b:Expr} {ta tb:TE} {pos:Pos}
theorem IxR.or{r r':R2}(h:IxR X r)(h':IxR X r'):IxR X (fun x y H Q=>r x y H Q\/r' x y H Q):=by
 intro value slice pins s σ H x y v u Q I rx ry q hs;rcases q with q | q
 . exact h value slice pins s σ H x y v u Q I rx ry q hs
 . exact h' value slice pins s σ H x y v u Q I rx ry q hs
theorem A92{r:R2}(hr:IxR X r)(ha:PE X a ta)(hb:PE X b tb)(hs:cT b):PE X (.Subscript a b pos) (tOp r ta tb):=by
 intro pins s σ H Q I h;exact Subscript_ (A20 ha hb I h fun v u s2 x y H2 I2 rx ry q=>hr a b pins s2 σ H2 x y v u Q I2 rx ry q (hs _ _))
def A98(K:PySem.W.Frag):R2:=fun x y H Q=>∃p xs i v,x = .ref p/\y = .int i/\SqL K H p xs/\atI xs i=some v/\Q v H
def AC9(K:PySem.W.Frag):R2:=fun x y H Q=>∃p xs i v,x = .ref p/\y = .int i/\SqT K H p xs/\atI xs i=some v/\Q v H
def rIxS:R2:=fun x y H Q=>∃z i c,x = .str z/\y = .int i/\z.length<=sizeLine/\atI z.cps.toList i=some c/\Q (.str ⟨#[c]⟩) H
theorem t5:IxR X (A98 X.K):=by
 intro value slice pins s σ H x y v u Q I rx ry h hs;obtain ⟨p,xs,i,z,rfl,rfl,hq,he,q⟩:=h
 cases rx
 obtain ⟨t,rfl⟩:=ry;obtain ⟨its,r,pl,hz⟩:=I.list hq;obtain ⟨j,h1,h2,h3,h4,h5⟩:=VM he;obtain ⟨w,ew,rw'⟩:=r.get h2;have hl:=r.length;have hn:=RY;have fin:EP X pins σ Q w s:=⟨z,H,I,rw',q⟩
 by_cases h0:0<=i
 . have hj : i.toNat = j := by
    rw [AH4 h0 h5] at h1
    exact B6 h1
   exact item_listR pl.isList h0 (by omega) (by rw [hj];simpa using ew) fin hs
 . have hj : (i + (its.toArray.size : Int)).toNat = j := by
    rw [AG3 (by omega) h4] at h1
    rw [AF, <-hl];exact B6 h1
   exact subscriptTail_builtinR (x:=w) pl.isList.typeIs slot_list_getitem.lookup
    (wpAny_getItem_list_neg (Q:=fun r s'=>r=w/\EP X pins σ Q r s') pl.isList (by omega) (by rw [AF] <;> omega) (by omega) (by rw [hj];simpa using ew) ⟨rfl,fin⟩) hs
theorem xY:IxR X (AC9 X.K):=by
 intro value slice pins s σ H x y v u Q I rx ry h hs;obtain ⟨p,xs,i,z,rfl,rfl,hq,he,q⟩:=h
 cases rx
 obtain ⟨t,rfl⟩:=ry;obtain ⟨its,r,pl,hz⟩:=I.tuple hq;obtain ⟨j,h1,h2,h3,h4,h5⟩:=VM he;obtain ⟨w,ew,rw'⟩:=r.get h2;have hl:=r.length;have hn:=RY;have fin:EP X pins σ Q w s:=⟨z,H,I,rw',q⟩
 exact subscriptTail_builtinR (x:=w) pl.typeIs slot_tuple_getitem.lookup
  (getItem_tuple (j:=j) (Q:=fun r s'=>r=w/\EP X pins σ Q r s') pl (by omega) (by omega) (by rw [AF, <-hl];exact h1) (by simpa using ew) ⟨rfl,fin⟩) hs
theorem A26:IxR X rIxS:=by
 intro value slice pins s σ H x y v u Q I rx ry h hs;obtain ⟨z,i,c,rfl,rfl,hz,he,q⟩:=h;obtain ⟨t,rfl⟩:=rx;obtain ⟨t',rfl⟩:=ry;obtain ⟨j,h1,h2,h3,h4,h5⟩:=VM he;have hl:z.cps.toList.length=z.length:=by simp [Str.length]
 rw [hl] at h1 h4 h5
 have hn:=RY
 exact tail_any (typeIs_str s z t) slot_str_getitem.lookup (getItem_str (c:=c) (by
  have e1:decide (i < -(2 ^ 63:Int))=false:=B8 (by omega);have e2:decide (i≥2 ^ 63)=false:=B8 (by omega);rw [e1,e2,Bool.or_false]) (by rw [h1];simpa using h2) ⟨.str ⟨#[c]⟩,H,I.tok _,⟨_,rfl⟩,q⟩) hs
def rIx(K:PySem.W.Frag):R2:=fun x y H Q=>A98 K x y H Q\/AC9 K x y H Q\/rIxS x y H Q
theorem zI:IxR X (rIx X.K):=t5.or (xY.or A26)
theorem aZ(its:List Value)(n j:Nat)(u:Value):Obj.mapSeq (·.setIfInBounds j u) {cls:= .type "list",data:= .seq its.toArray n}={cls:= .type "list",data:= .seq (its.set j u).toArray n}:=by
 simp [Obj.mapSeq]
theorem Inv.lst {pins : List (Addr × Obj)} {σ : St} {H : Hp} {s : Shared} {p : Addr} {xs : List V} (I : Inv X pins σ H s) (h : H p = some (.lst xs)) :
 ∃(its:List Value) (n:Nat),Vals xs its/\s.heap.get? p=some {cls:= .type "list",data:= .seq its.toArray n}/\xs.length<=sizeLine:=by
 obtain ⟨z,its,n,r,e⟩:=I.hok p _ h;exact ⟨its,n,r,e,z⟩
theorem Inv.lstUpd {pins : List (Addr × Obj)} {σ : St} {H : Hp} {s : Shared} {p : Addr} {xs ys : List V} {its its' : List Value} {n n' : Nat} {f : Obj -> Obj} (I : Inv X pins σ H s) (h : H p = some (.lst xs))
 (ho:s.heap.get? p=some {cls:= .type "list",data:= .seq its.toArray n}) (hf:f {cls:= .type "list",data:= .seq its.toArray n}={cls:= .type "list",data:= .seq its'.toArray n' }) (r:Vals ys its') (hz:ys.length<=sizeLine) (t:Nat) :
 Inv X pins σ (upd H p (.lst ys)) {s with heap:=s.heap.update p f,toks:=t}:=by
 have e:(s.heap.update p f).get? p=some {cls:= .type "list",data:= .seq its'.toArray n' }:=by
  rw [AH0 f ho (by rw [hf] <;> rfl),hf]
 refine I.write (x:=p) (e:=p) (by rw [h];trivial) (.inl rfl) (fun b u hb q=>(TU _ _ (N5 hb)).trans q) ⟨_,e⟩ ?_;exact ⟨hz,its',n',r,e⟩
def rSetL:V->V->V->Hp->(Hp->Prop)->Prop:=fun o i v H Q=>∃p xs k j,o = .ref p/\i = .int k/\H p=some (.lst xs)/\ixN xs.length k=some j/\Q (upd H p (.lst (xs.set j v)))
theorem XR:AC7 X rSetL:=by
 intro pins s σ H o i v ov iv u Q I ro ri rv h;obtain ⟨p,xs,k,j,rfl,rfl,hp,hj,q⟩:=h
 cases ro
 obtain ⟨t,rfl⟩:=ri;obtain ⟨its,n,r,ho,hz⟩:=I.lst hp;obtain ⟨h1,h2,h3,h4⟩:=fM hj;have hl:=r.length;have hn:=RY
 have I':Inv X pins σ (upd H p (.lst (xs.set j v))) {s with heap:=s.heap.update p (Obj.mapSeq (·.setIfInBounds j u))} :=
  I.lstUpd hp ho (aZ its n j u) (r.set rv j) (by rw [EE];exact hz) s.toks
 by_cases h0:0<=k
 . have hk : k.toNat = j := by
    rw [AH4 h0 h4] at h1
    exact B6 h1
   exact PySem.W.ki_setAt ho h0 (by omega) (by rw [AF, <-hl];exact h4) (by rw [hk];exact ⟨_,I',q⟩)
 . have hk : (k + (its.toArray.size : Int)).toNat = j := by
    rw [AG3 (by omega) h3] at h1
    rw [AF, <-hl];exact B6 h1
   exact PySem.W.ki_setBack ho (by omega) (by rw [AF, <-hl];exact h3) (by omega) (by rw [hk];exact ⟨_,I',q⟩)
theorem VZ(lo hi:Option Int)(n:Nat):(sliceBounds lo hi none n).1=((HT.sIx n 0 lo:Nat):Int)/\(sliceBounds lo hi none n).2.1=((HT.sIx n n hi:Nat):Int)/\(sliceBounds lo hi none n).2.2=1:=by
 refine ⟨?_,?_,rfl⟩
 . cases lo with
   | none=>simp [sliceBounds,HT.sIx]
   | some i=>
    simp only [sliceBounds,HT.sIx,Option.getD_none,show (1:Int)>0 by decide,FP]
    by_cases h:i<0
    . simp only [h,FP] <;> omega
    . simp only [h,HJ] <;> omega
 . cases hi with
   | none=>simp [sliceBounds,HT.sIx]
   | some i=>
    simp only [sliceBounds,HT.sIx,Option.getD_none,show (1:Int)>0 by decide,FP]
    by_cases h:i<0
    . simp only [h,FP] <;> omega
    . simp only [h,HJ] <;> omega
theorem U2(its:List Value)(lo hi:Option Int):slicePick its.toArray lo hi none=((its.drop (HT.sIx its.length 0 lo)).take (HT.sIx its.length its.length hi - HT.sIx its.length 0 lo)).toArray:=by
 obtain ⟨h1,h2,h3⟩:=VZ lo hi its.toArray.size;unfold slicePick;rw [h1,h2,h3];simp only [sliceRange_one,pick_run,List.size_toArray] <;> rfl
def AB3(K:PySem.W.Frag):V->Option Int->Option Int->Hp->VK->Prop:=fun x lo hi H Q=>∃a xs,x = .ref a/\SqL K H a xs/\∀p,H p=none->Q (.ref p) (upd H p (.lst (Y3 xs lo hi)))
theorem uI:SlR X (AB3 X.K):=by
 intro pins s σ H x v vl vu lo hi sl Q I rx hs pl pu h;obtain ⟨a,xs,rfl,hx,q⟩:=h
 cases rx
 obtain ⟨its,r,ht,hz⟩:=I.list hx;have hlen:=r.length;refine ⟨"list",_,slot_list_getitem.lookup,ht.isList.typeIs,?_⟩;refine wpAny_getItem_list_slice ht.isList hs pl pu .none (by simp) ?_ (by rw [AF] <;> omega);rw [U2, <-hlen];refine ⟨.ref s.heap.objs.size,_,I.laid (t':=s.toks) (o:= .lst (Y3 xs lo hi)) (fun b ob q=>A3 _ q) (A8 _) ?_,rfl,q _ (I.hok.fresh (A8 _))⟩;exact ⟨AY (QK xs lo hi) hz,_,0,(r.drop (HT.sIx xs.length 0 lo)).take (HT.sIx xs.length xs.length hi - HT.sIx xs.length 0 lo),AW _ rfl⟩
theorem D6:LF X (.builtin "len") (fun xs H Q=>∃p ys,xs = [.ref p]/\(SqL X.K H p ys\/SqT X.K H p ys)/\Q (.int ys.length) H):=by
 intro pins s σ H xs us Q I r h;obtain ⟨p,ys,rfl,hq,q⟩:=h;obtain ⟨u,rfl,rx⟩:=LD r
 cases rx
 have hn:=RY;rcases hq with hq | hq
 . obtain ⟨its,r',pl,hz⟩:=I.list hq;have hlen:=r'.length;exact Calls.call_len_list pl.isList (by simp only [AF] <;> omega) ⟨.int ys.length,H,I.tok _,⟨s.toks+1,by rw [AF,hlen]⟩,q⟩
 . obtain ⟨its,r',pl,hz⟩:=I.tuple hq;have hlen:=r'.length;exact len_tuple pl (by simp only [AF] <;> omega) ⟨.int ys.length,H,I.tok _,⟨s.toks+1,by rw [AF,hlen]⟩,q⟩
theorem L7:LF X (.type "list") (fun xs H Q=>∃p ys,xs = [.ref p]/\(SqL X.K H p ys\/SqT X.K H p ys)/\∀l,H l=none->Q (.ref l) (upd H l (.lst ys))):=by
 intro pins s σ H xs us Q I r h;obtain ⟨p,ys,rfl,hq,q⟩:=h;obtain ⟨u,rfl,rx⟩:=LD r
 cases rx
 have fin : ∀ (its : List Value), Vals ys its -> ys.length <= sizeLine -> ∀ (h' : Heap) (c' : Nat), (∀ b o', s.heap.get? b = some o' -> h'.get? b = some o') ->
  h'.get? s.heap.objs.size=some {cls:= .type "list",dict:=none,data:= .seq its.toArray c',slots:= #[]}->EP X pins σ Q (.ref s.heap.objs.size) {s with heap:=h' }:=fun its r' hz h' c' kp e=>
  ⟨.ref s.heap.objs.size,_,I.laid (t':=s.toks) kp (A8 _) (show ObjOk X.prog X.w _ h' _ (.lst ys) from ⟨hz,its,c',r',e⟩),rfl,q _ (I.hok.fresh (A8 _))⟩
 rcases hq with hq | hq
 . obtain ⟨its,r',pl,hz⟩:=I.list hq;have hlen:=r'.length;obtain ⟨o,ho,hc,n,hd⟩:=pl.isList;exact call_list_seq p (.inl rfl) ho hc hd (fun h' c' kp e=>fin its r' hz h' c' kp e) (by simp only [AF] <;> omega)
 . obtain ⟨its,r',pl,hz⟩:=I.tuple hq;have hlen:=r'.length;obtain ⟨o,ho,hc,n,hd⟩:=pl;exact call_list_seq p (.inr rfl) ho hc hd (fun h' c' kp e=>fin its r' hz h' c' kp e) (by simp only [AF] <;> omega)
theorem FB:LF X (.type "tuple") (fun xs H Q=>∃p ys,xs = [.ref p]/\((SqL X.K H p ys/\∀l,H l=none->Q (.ref l) (upd H l (.tup ys)))\/(SqT X.K H p ys/\Q (.ref p) H))):=by
 intro pins s σ H xs us Q I r h;obtain ⟨p,ys,rfl,h⟩:=h;obtain ⟨u,rfl,rx⟩:=LD r
 cases rx
 rcases h with ⟨hq,q⟩ | ⟨hq,q⟩
 . obtain ⟨its,r',pl,hz⟩:=I.list hq;have hlen:=r'.length;refine call_tuple_list pl.isList (fun h' kp=> ?_) (by simp only [AF] <;> omega);have I1:Inv X pins σ H {s with heap:=h' }:=I.kept (t':=s.toks) kp
   have I2:Inv X pins σ (upd H h'.objs.size (.tup ys)) {s with heap:=h'.push {cls:= .type "tuple",data:= .seq its.toArray} } :=
    I1.laid (t':=s.toks) (fun b o e=>A3 _ e) (A8 _) (show ObjOk X.prog X.w _ _ _ (.tup ys) from ⟨hz,its,r',IsTup.new _ _⟩)
   exact ⟨.ref h'.objs.size,_,I2,rfl,q _ (I1.hok.fresh (A8 _))⟩
 . obtain ⟨its,r',pl,hz⟩:=I.tuple hq;exact call_tuple_same pl ⟨.ref p,H,I,rfl,q⟩
def tyV(K:PySem.W.Frag)(T:String)(x:V)(H:Hp):Prop:=match x with
 | .str _=>T = "str"
 | .int _=>T = "int"
 | .ref p => (T = "list" /\ ∃ xs, SqL K H p xs) \/ (T = "tuple" /\ ∃ o, K.lookup p = some o /\ o.cls = .type "tuple" /\ o.dict = none) \/
  (T = "dict" /\ ((∃kvs,H p=some (.dK kvs))\/∃kvs,H p=some (.dT kvs)))\/(T = "set" /\ ∃S n,H p=some (.set S n))
 | _=>False
theorem A27 {pins : List (Addr × Obj)} {σ : St} {H : Hp} {s : Shared} {T : String} {x : V} {v : Value} (I : Inv X pins σ H s) (r : RelV x v) (ty : tyV X.K T x H) :
 s.TypeIs v T/\∀a,v = .ref a->∃ob,s.heap.get? a=some ob/\ob.dict=none:=by
 cases x with
 | str z=>
  obtain ⟨t,rfl⟩:=r
  cases (show T = "str" from ty)
  exact ⟨typeIs_str s z t,fun _ e=>nomatch e⟩
 | int i=>
  obtain ⟨t,rfl⟩:=r
  cases (show T = "int" from ty)
  exact ⟨fO s i t,fun _ e=>nomatch e⟩
 | ref p=>
  cases r
  rcases ty with ⟨rfl,xs,hq⟩ | ⟨rfl,o,hk,hc,hd⟩ | ⟨rfl,hk⟩ | ⟨rfl,S,n,hk⟩
  . obtain ⟨its,_,pl,_⟩:=I.list hq;refine ⟨pl.isList.typeIs,fun a e=> ?_⟩
    cases e
    obtain ⟨o,n,e,c,hd,_⟩:=pl;exact ⟨o,e,hd⟩
  . refine ⟨⟨o,I.kIn p o hk,hc⟩,fun a e=> ?_⟩
    cases e
    exact ⟨o,I.kIn _ o hk,hd⟩
  . have z : ∃ o, s.heap.get? p = some o /\ o.ExactDict := by
     rcases hk with ⟨kvs,hk⟩ | ⟨kvs,hk⟩
     . obtain ⟨_,_,_,_,o,_,_,e,ex,_⟩:=I.hok p _ hk;exact ⟨o,e,ex⟩
     . obtain ⟨_,_,_,_,o,_,_,e,ex,_⟩:=I.hok p _ hk;exact ⟨o,e,ex⟩
    obtain ⟨o,e,ex⟩:=z;refine ⟨⟨o,e,ex.1⟩,fun a e2=> ?_⟩
    cases e2
    exact ⟨o,e,ex.2.1⟩
  . obtain ⟨o,_,_,_,e,ex,_⟩:=I.hok p _ hk;refine ⟨⟨o,e,ex.1⟩,fun a e2=> ?_⟩
    cases e2
    exact ⟨o,e,ex.2.1⟩
 | _=>exact False.elim ty
def tBM(K:PySem.W.Frag)(T:String)(r:V->List V->Hp->VK->Prop)(to:TE)(t:TA):TE:=fun σ H Q=>to σ H fun x H1=>tyV K T x H1/\t σ H1 fun xs H2=>r x xs H2 Q
variable {o e:Expr} {es:List Expr} {to:TE} {t:TA} {name:Str} {apos cpos:Pos} {T id:String} {r:V->List V->Hp->VK->Prop}
theorem mS (pa : PlainAttrs T) (slot : Slot T name id) (hty : typeOf (.builtin id) = pure (.type "method_descriptor")) (hm : MtR X id r) (ho : PE X o to) (ha : PA X (e :: es) t)
 (hbase:attributeBase o name X.env (eval o X.env)=eval o X.env:=by rfl)
 (hfew:((backTo cpos (starEach (e::es) X.env)).all (fun x=> !x.1) && (backToKw cpos (keywordEach [] X.env)).all (fun x=>x.1.isSome)
  && decide ((e::es).length+([]:List Keyword).length+(if ([]:List Keyword).isEmpty then 0 else 1)<30))=true:=by rfl)
 (hline:(apos.endLine==cpos.line)=true:=by rfl) (hs:starEach (e::es) X.env=(false,eval e X.env)::starEach es X.env:=by rfl) (hplain:(backTo cpos (starEach es X.env)).any (·.1)=false:=by rfl) :
 PE X (.Call (.Attribute o name apos) (e::es) [] cpos) (tBM X.K T r to t):=by
 intro pins s σ H Q I h;refine wpAny_Call_method_late hbase hfew hline rfl (thn (ho pins s σ H _ I h) fun v s1 ⟨x,H1,I1,r1,ty,q1⟩ => ?_);obtain ⟨h1,h2⟩:=A27 I1 r1 ty;refine ⟨T,id,pa,slot,hty,h1,h2,?_⟩;have hA:=ha cpos pins s1 σ H1 _ I1 q1;rw [hs] at hA ⊢
 refine Calls.callWith_builtin (by show (false || (backTo cpos (starEach es X.env)).any (·.1))=false;rw [hplain] <;> rfl) (Calls.evalArgs_plain ?_);exact thn hA fun us s2 ⟨vs,H2,I2,r2,q2⟩=>hm pins s2 σ H2 x vs v us Q I2 r1 r2 q2
/- xs.append(e),list.index on a module's tuple .. are MtR facts of 06m -/
end
end L2
namespace L2
open PySem PySem.Spec PyProof.Rows
def MtM(X:Cx)(id:String)(r:V->List V->Hp->VK->Prop):Prop:=
 ∀(pins:List (Addr×Obj)) (s:Shared) (σ:St) (H:Hp) (x:V) (xs:List V) (v:Value) (us:List Value) (Q:VK),Inv X pins σ H s->RelV x v->Vals xs us->r x xs H Q ->
   wpAny (model X.prog X.w) X.A (call (.builtin id) (v::us)) (EP X pins σ Q) X.xe s
theorem Vals.one:∀ {x:V} {us:List Value},Vals [x] us->∃u,us = [u]/\RelV x u
 | _,_, .cons r .nil=>⟨_,rfl,r⟩
theorem Vals.reverse{xs:List V}{us:List Value}(h:Vals xs us):Vals xs.reverse us.reverse:=by
 induction h with
 | nil=>exact .nil
 | cons r t ih=>rw [JF,JF];exact Vals.append ih (.cons r .nil)
theorem Vals.rep{xs:List V}{us:List Value}(h:Vals xs us):∀k:Nat,Vals (List.replicate k xs).flatten (List.replicate k us).flatten
 | 0=> .nil
 | k+1=>by
  rw [C6,C6,EI,EI];exact Vals.append h (Vals.rep h k)
theorem UD (its : List Value) : ∀ (k : Nat) (acc : List Value),
 List.foldl (fun x1 x2=>x1++x2) acc.toArray (List.replicate k its.toArray)=(acc++(List.replicate k its).flatten).toArray
 | 0,acc=>by simp
 | k+1,acc=>by
  have e:acc.toArray++its.toArray=(acc++its).toArray:=by simp
  have e2:(acc++its)++(List.replicate k its).flatten=acc++(List.replicate (k+1) its).flatten:=by
   rw [C6,EI,N7]
  rw [<-e2, <-UD its k (acc++its), <-e,C6,fP]
section
variable {X:Cx} {pins:List (Addr×Obj)} {σ:St} {H:Hp} {s:Shared} {l b:Addr} {xs ys zs:List V}
theorem Inv.lset {its its' : List Value} {n : Nat} {f : Array Value -> Array Value} {t' : Nat} (I : Inv X pins σ H s) (hH : H l = some (.lst xs))
 (e:s.heap.get? l=some {cls:= .type "list",data:= .seq its.toArray n}) (hf:f its.toArray=its'.toArray) (hv:Vals ys its') (hz:ys.length<=sizeLine) :
 Inv X pins σ (upd H l (.lst ys)) {s with heap:=s.heap.update l (Obj.mapSeq f),toks:=t' }:=by
 have q:=PySem.IsL.update e f;rw [hf] at q
 refine I.write (x:=l) (e:=l) (by rw [hH];exact trivial) (.inl rfl) (fun b' u hb hu=>(TU s.heap (Obj.mapSeq f) (N5 hb)).trans hu) ⟨_,q⟩ ?_;exact ⟨hz,its',_,hv,q⟩
theorem Inv.lnew {its : List Value} {t' : Nat} (I : Inv X pins σ H s) (hv : Vals ys its) (hz : ys.length <= sizeLine) :
 Inv X pins σ (upd H s.heap.objs.size (.lst ys)) {s with heap:=s.heap.push {cls:= .type "list",data:= .seq its.toArray},toks:=t' } :=
 I.laid (fun _ _ q=>A3 _ q) (A8 _) ⟨hz,its,0,hv,AW _ rfl⟩
theorem Inv.fresh(I:Inv X pins σ H s):H s.heap.objs.size=none:=I.hok.fresh (A8 _)
theorem Inv.lstM(I:Inv X pins σ H s)(hH:H l=some (.lst xs)):xs.length<=sizeLine/\∃(its:List Value) (n:Nat),Vals xs its/\xs.length=its.length/\s.heap.get? l=some {cls:= .type "list",data:= .seq its.toArray n}:=by
 obtain ⟨z,its,n,r,e⟩:=I.hok l _ hH;exact ⟨z,its,n,r,r.length,e⟩
theorem XL{n:Nat}(h:n<=sizeLine):Builtin.List.listTooLong n=false:=by
 unfold Builtin.List.listTooLong;exact decide_eq_false (by omega)
end
section
variable {X:Cx}
def rAppend:V->List V->Hp->VK->Prop:=fun x vs H Q=>∃l xs y,x = .ref l/\vs = [y]/\H l=some (.lst xs)/\xs.length<sizeLine/\Q .non (upd H l (.lst (xs ++ [y])))
theorem V5:MtM X "list.append" rAppend:=by
 intro pins s σ H x vs v us Q I rx rv h;obtain ⟨l,xs,y,rfl,rfl,hH,hz,q⟩:=h
 cases rx
 obtain ⟨u,rfl,ru⟩:=rv.one;obtain ⟨z,its,n,r,hl,e⟩:=I.lstM hH;refine LI KF ⟨_,e,rfl⟩ F.entry_list_append (AH5 _ _) (AF6 l its.toArray n u (by rw [AF];omega)) ⟨e,?_⟩;refine ⟨.non,_,I.lset (its':=its ++ [u]) hH e (by simp) (r.append (.cons ru .nil)) ?_,rfl,q⟩;rw [AO,GU];omega
def rExtend:V->List V->Hp->VK->Prop:=fun x vs H Q=>∃l b xs zs,x = .ref l/\vs = [.ref b]/\H l=some (.lst xs)/\H b=some (.lst zs)/\xs.length+zs.length<=sizeLine/\Q .non (upd H l (.lst (xs++zs)))
theorem iP:MtM X "list.extend" rExtend:=by
 intro pins s σ H x vs v us Q I rx rv h;obtain ⟨l,b,xs,zs,rfl,rfl,hH,hB,hz,q⟩:=h
 cases rx
 obtain ⟨u,rfl,ru⟩:=rv.one
 cases ru
 obtain ⟨z,its,n,r,hl,e⟩:=I.lstM hH;obtain ⟨z2,its2,n2,r2,hl2,e2⟩:=I.lstM hB;have hsz:its.toArray.size+its2.toArray.size<=sizeLine:=by rw [AF,AF];omega
 have hlong:¬(!its.toArray.isEmpty && Builtin.List.listTooLong (its.toArray.size+its2.toArray.size))=true:=by
  rw [XL hsz,Bool.and_false];exact EO
 refine LI F.slot_list_extend ⟨_,e,rfl⟩ F.entry_list_extend (F.args_list_extend_2 _ _)
  (AutoSeq1.list_extend_list_list_0 l its.toArray n b its2.toArray n2 hlong (by rw [AF];omega) (by omega)) ⟨e,e2,?_⟩
 refine ⟨.non,_,I.lset (its':=its++its2) hH e (by simp) (r.append r2) ?_,rfl,q⟩;rw [AO];omega
def rRep:R2:=fun x y H Q=>∃l k xs,x = .ref l/\y = .int k/\H l=some (.lst xs) /\ -(2 ^ 63)<=k/\k<2 ^ 63/\xs.length*k.toNat<=sizeLine /\
 ∀p,H p=none->Q (.ref p) (upd H p (.lst (List.replicate k.toNat xs).flatten))
theorem cD{α:Type}(xs:List α)(k:Nat):(List.replicate k xs).flatten.length=k*xs.length:=by
 induction k with
 | zero=>simp
 | succ k ih=>rw [C6,EI,AO,ih,G0,LJ]
theorem xW:OpR X (binaryOp .Mult) rRep:=by
 intro pins s σ H x y v u Q I rx ry h;obtain ⟨l,k,xs,rfl,rfl,hH,h1,h2,hz,q⟩:=h
 cases rx
 obtain ⟨t,rfl⟩:=ry;obtain ⟨z,its,n,r,hl,e⟩:=I.lstM hH;have hlen:its.toArray.size*k.toNat<=sizeLine:=by rw [AF, <-hl];exact hz
 have hcap:¬its.toArray.size*k.toNat>(2 ^ 63 - 1) / 8:=by
  have:(sizeLine:Nat)<=(2 ^ 63 - 1) / 8:=by decide
  omega
 have hfit:¬(!Builtin.List.listFitsIndex k)=true:=by
  rw [fitsIndex_both h1 h2];exact EO
 have hlong:¬Builtin.List.listTooLong (its.toArray.size*k.toNat)=true:=by
  rw [XL hlen];exact EO
 have hnew:List.foldl (fun x1 x2=>x1++x2) #[] (List.replicate (if its.toArray.isEmpty=true then 0 else k.toNat) its.toArray)=(List.replicate k.toNat its).flatten.toArray:=by
  have f0:∀m:Nat,List.foldl (fun x1 x2=>x1++x2) #[] (List.replicate m its.toArray)=(List.replicate m its).flatten.toArray:=fun m=>by
   have:=UD its m [];rw [List.nil_append] at this
   exact this
  rw [f0]
  cases its with
  | nil=>simp
  | cons a r'=>rw [AR (by simp)]
 refine AD1 (T:= "list") (U:= "int") (by decide) ⟨_,e,rfl⟩ (fun s'=>fO s' k t) noFill_list_mul F.fills_int_mul U8 repeat_list F.slot_int_index.lookup
  (LI U8 (fO s k t) F.entry_int_rmul (F.args_int_rmul_2 _ _) (int___rmul___int_list k t l its.toArray n)
   ⟨e,rfl,⟨_,e,rfl⟩,LI F.slot_list_mul ⟨_,e,rfl⟩ F.entry_list_mul (F.args_list_mul_2 _ _) (AutoListH.list___mul___list_int_3 l its.toArray n k t hfit hcap hlong) ⟨e,?_⟩⟩)
 rw [hnew];exact ⟨.ref _,_,I.lnew (t':=s.toks) (r.rep k.toNat) (by rw [cD,G1];exact hz),rfl,q _ I.fresh⟩
end
section
variable {prog:Program} {w:World} {A:Around} {E:Value->Shared->Prop} {s:Shared}
end
section
variable {X:Cx}
end
end L2
namespace Att
open PySem PySem.W PySem.Calls PyProof.Rows
theorem QP{P:Params}{h:Heap}:∀(ns:List Int) (vs:List Value),WellAll P h vs (ns.map WData.int)->IntsAre vs ns:=by
 intro ns
 induction ns with
 | nil=>
  intro vs w;rw [WQ] at w
  cases w
  exact .nil
 | cons n ns ih=>
  intro vs w;rw [BN] at w
  cases w with
  | cons a b=>
   cases a
   exact .cons _ _ (ih _ b)
theorem gI {l : OpenLaw} {n : Nat} (hn : l.most = some n) {P : Params} {h : Heap} {args : List WData} {vals : List Value}
 (hpre:l.row.toRowW.claim.pre args=true) (hwl:WellAll P h vals args) :
 ∃a vs ns,vals = [Value.ref a]/\args = [WData.list (ns.map WData.int)]/\h.get? a=some {cls:= .type "list",data:= .seq vs.toArray}/\IntsAre vs ns/\ns.length<=n:=by
 have hsh:WShape.hasAll [] args [.list .int]=true:=(pre_splitW hpre).1;have hc:l.pre.holds [] {args:=args}=true:=(pre_splitW hpre).2;obtain ⟨d,r,rfl,h1,h2⟩:=hasAllW_cons hsh;obtain rfl:=hasAllW_nil h2;obtain ⟨xs,rfl,h3⟩:=hasW_list h1;obtain ⟨ns,rfl⟩:=items_int h3
 have hlen:ns.length<=n:=by
  unfold OpenLaw.pre at hc
  have h4:(WTm.not (.lt (.lit (.int (n:Int))) (.len (.arg 0)))).holds [] {args:= [.list (ns.map .int)]}=true:=by
   have h4:=(holds_andW hc).1;rw [hn] at h4
   exact h4
  have h5:=condW_of h4 (w_not (w_lt w_lit (w_len_list (w_arg rfl))));rw [A4] at h5
  refine Nat.le_of_not_lt fun q=> ?_;have q':(n:Int)<((ns.length:Nat):Int):=by omega
  first
   | (rw [BG q'] at h5;exact absurd h5 (by decide))
   | (simp at h5;omega)
 cases hwl with
 | cons w1 w2=>
  cases w2
  cases w1 with
  | list ho hall=>exact ⟨_,_,ns,rfl,rfl,ho,QP ns _ hall,hlen⟩
theorem gK(l:OpenLaw)(args:List WData):l.row.toRowW.claim.post args (.bool true) args=true:=
 postW_of (r:=l.row.toRowW) (X:=(true==true))
  (show WShape.has [] (.bool true) .bool=true by first | rfl | decide | simp [WShape.has,WShape.arms,WShape.armsAll])
  (show (WTm.eq .res (.lit (.bool true))).value [] {args:=args,res:=some (.bool true),after:=args}=some (.bool (true==true)) from w_eq_bool (w_res rfl) w_lit) rfl
theorem attach_call {l : OpenLaw} {n : Nat} {q : Program} {loose : List Str} {XP : (Str -> Option Value) -> Heap -> Prop} {YP : World -> Heap -> Prop} {d : DefRec}
 (hn:l.most=some n) (hdf:d.params.defaults = [])
 (call:∀(w:World) (s₀ s₁:Shared) (mg mb:Str->Option Value) (fa:Addr) (o:Obj) (pm cd doc:Value) (a:Addr) (vs:List Value) (ns:List Int),
  Ground q loose [] XP w s₀ mg mb s₁.heap->YP w s₁.heap ->
  s₁.heap.get? fa=some o->o.data = .func (docDef d.name d.params d.body d.scope pm cd doc)->s₁.heap.CodeRec cd d.name->mg d.name=some (.ref fa) ->
  s₁.heap.get? a=some {cls:= .type "list",data:= .seq vs.toArray}->IntsAre vs ns->ns.length<=n->s₁.gens = #[] ->
  codeAny (model l.prog w) callerA (.call (.ref fa) ⟨[.ref a],[]⟩) (fun r s'=>r = .ok (.ret (.bool true))/\OldK s₁.heap s'.heap/\s'.os=s₁.os/\AllBare s'.gens) s₁) :
 WalkO q loose XP YP l.row.toRowW d [] (fun f vs=>PySem.call f vs):=by
 intro w s₀ s₁ mg mb G Y fa o pm cd doc dV kV ho hd hcd hD hmg hg args vals as hpre hlay hrd hwl hlo;obtain rfl:dV = .none:=Dflts.none hD hdf;obtain rfl:kV = .none:=Dflts.noKw hD;obtain ⟨a,vs,ns,rfl,rfl,hobj,hints,hlen⟩:=gI hn hpre hwl;refine enter_call (j0 (call w s₀ s₁ mg mb fa o pm cd doc a vs ns G Y ho (fd_plain hd) hcd hmg hobj hints hlen hg) fun r s' hq=> ?_);obtain ⟨rfl,h2,h3,h4⟩:=hq;exact ⟨.inl ⟨.bool true, .bool true,[],rfl,fun _=>rfl, .bool true,gK l _,fun _=>⟨N8,fun _ hm=>(nomatch hm)⟩⟩,h2,h3,h4⟩
section
variable {prog:Program} {w:World} {A:Around} {E:Value->Shared->Prop} {s:Shared} {K:Frag}
end
end Att
namespace L2
open PySem PySem.Spec PyProof.Rows
theorem UH:∀ {vs:List Value} {ns:List Int},IntsAre vs ns->Vals (ns.map V.int) vs
 | _,_, .nil=> .nil
 | _,_, .cons n t h=> .cons ⟨t,rfl⟩ (UH h)
end L2
namespace L2
open PySem PySem.Spec PyProof.Rows
def OK(s:Stmt)(j:Nat):Stmt:=match s with
 | .ClassDef _ _ _ body _ _ _ _ _ _ _=>body.getD j (.Pass ⟨0,0,0,0⟩)
 | _=> .Pass ⟨0,0,0,0⟩
def MN(s:Stmt):Arguments:=match s with
 | .FunctionDef _ a _ _ _ _ _ _ _ _=>a
 | _=>{posonlyargs:= [],args:= [],vararg:=none,kwonlyargs:= [],kw_defaults:= [],kwarg:=none,defaults:= []}
def HZ(s:Stmt):List Stmt:=match s with
 | .FunctionDef _ _ b _ _ _ _ _ _ _=>b
 | _=> []
def AQ(s:Stmt):Scope:=match s with
 | .FunctionDef _ _ _ _ _ _ sc _ _ _=>sc
 | _=>{kind:= .function,names:= [],isGenerator:=false,isCoroutine:=false}
abbrev CX0:CXT:=fun _ _ _ _ _ _=>False
abbrev E0:XK:=fun _ _ _=>False
theorem Z7{X:Cx}:PP CX0 X E0:=fun _ _ _ _ _ _ _ h=>h.elim
structure Fun (K:PySem.W.Frag) (x qual:Str) (st:Stmt) (f:Addr) (fd:FuncData):Prop where
 ex:∃(oc:Value) (od:Option Addr) (kV doc pm:Value) (an:Option Addr) (cdv ct:Value) (osl:Array (Option Value)),
  fd=PySem.W.fnOf x qual (MN st) (HZ st) (AQ st) .none kV doc pm an cdv ct/\K.lookup f=some ⟨oc,od, .func fd,osl⟩/\PySem.W.codeIn K cdv qual=true
 kp:PySem.W.keepIn K (.ref f)=true
section
variable {P:Program} {w:World} {K:PySem.W.Frag} {mg:Str->Option Value} {base:Heap}
theorem Fun.ok {x qual : Str} {st : Stmt} {f : Addr} {fd : FuncData} {N ps : List Str} {k : Nat} {sp : Sp} (F : Fun K x qual st f fd) (S : FnScope N ps (AQ st)) (len : ∀ vs H Q E, sp vs H Q E -> vs.length = ps.length)
 (hbody:∀(cdv:Value) (A:Around) (outer:List Env) (s:Shared) (H:Hp) (vs:List V) (Q:VK) (E:XK),Room k (A.deeper (envOfC qual (AQ st) s.heap.objs.size f cdv))->sp vs H Q E ->
  ∃t,PSs (QQ CX0 P w K mg base N qual (AQ st) f cdv A outer s H E).nox (HZ st) t/\t {nx:=fun _ H'=>Q .non H',rt:=Q} (start N vs) H):FnOk P w K mg base CX0 (k+1) f fd ps sp:=by
 obtain ⟨oc,od,kV,doc,pm,an,cdv,ct,osl,rfl,lk,hcd⟩:=F.ex;refine A83 lk hcd S len fun A outer s H vs Q E hr hsp=> ?_;obtain ⟨t,h,q⟩:=hbody cdv A outer s H vs Q E hr hsp;exact ⟨t,h.nox,q⟩
theorem Fun.binds {x qual : Str} {st : Stmt} {f : Addr} {fd : FuncData} {ps : List Str} (F : Fun K x qual st f fd)
 (h:∀(kV doc pm:Value) (an:Option Addr) (cdv ct:Value) (us:List Value),us.length=ps.length->bindArgs (PySem.W.fnOf x qual (MN st) (HZ st) (AQ st) .none kV doc pm an cdv ct) ⟨us,[]⟩=pure (ps.zip us)):Binds K fd ps []:=by
 obtain ⟨oc,od,kV,doc,pm,an,cdv,ct,osl,rfl,lk,hcd⟩:=F.ex;exact .all (h kV doc pm an cdv ct)
theorem CH {x qual : Str} {st : Stmt} {f : Addr} {oc : Value} {od an : Option Addr} {osl : Array (Option Value)} {kV doc pm cdv ct : Value} (l : K.lookup f = some ⟨oc, od, .func (PySem.W.fnOf x qual (MN st) (HZ st) (AQ st) .none kV doc pm an cdv ct), osl⟩)
 (c:PySem.W.codeIn K cdv qual=true) (k:PySem.W.keepIn K (.ref f)=true):Fun K x qual st f (PySem.W.fnOf x qual (MN st) (HZ st) (AQ st) .none kV doc pm an cdv ct):=⟨⟨oc,od,kV,doc,pm,an,cdv,ct,osl,rfl,l,c⟩,k⟩
end
section
variable {X:Cx}
end
theorem i9{A B:Prop}(h:B):if false=true then A else B:=by
 rw [AR EO];exact h
theorem iJ{A B:Prop}(h:A):if true=true then A else B:=by
 rw [AU rfl];exact h
def Same(H H':Hp):Prop:=∀b o,H b=some o->H' b=some o
theorem Same.refl(H:Hp):Same H H:=fun _ _ h=>h
theorem Same.trans{H H1 H2:Hp}(a:Same H H1)(b:Same H1 H2):Same H H2:=fun c o h=>b c o (a c o h)
theorem Same.free{H H':Hp}(e:Same H H'){l:Addr}(h:H' l=Option.none):H l=Option.none:=by
 cases q:H l with
 | none=>rfl
 | some o=>
  rw [e l o q] at h
  cases h
theorem Same.seq{K:PySem.W.Frag}{H H':Hp}{a:Addr}{xs:List V}(e:Same H H')(h:SqL K H a xs):SqL K H' a xs:=by
 rcases h with (h | ⟨o,h⟩) | h
 . exact .inl (.inl (e _ _ h))
 . exact .inl (.inr ⟨o,e _ _ h⟩)
 . exact .inr h
end L2
namespace L2
open PySem PySem.Spec PyProof.Rows
section
variable {κ:Type} [DecidableEq κ]
def AB9(kvs:List (κ×V))(k:κ):Option V:=(kvs.find? fun kv=>decide (kv.1=k)).map (·.2)
def A93(kvs:List (κ×V))(k:κ)(v:V):List (κ×V) :=
 if (kvs.any fun kv=>decide (kv.1=k))=true then kvs.map (fun kv=>if kv.1=k then (kv.1,v) else kv) else kvs ++ [(k,v)]
def AG0(kvs:List (κ×V))(k:κ):List (κ×V):=kvs.filter fun kv=>decide (kv.1≠k)
end
abbrev KT (H:Hp):List (List Key×V)->List (List Key×Addr×Value)->Prop:=Paired fun p q=>p.1=q.1/\H q.2.1=some (.tup (p.1.map kV))/\RelV p.2 q.2.2
section
variable {P:Program} {w:World} {H:Hp} {h:Heap} {a:Addr}
end
def AG6(H:Hp)(a:Addr)(y:V)(r:Option V):Prop:=
 (∃kvs k,Rd H a (.dK kvs)/\y=kV k/\r=AB9 kvs k)\/∃kvs k b,Rd H a (.dT kvs)/\y = .ref b/\H b=some (.tup (k.map kV))/\r=AB9 kvs k
def AG5(H:Hp)(a:Addr)(y v:V)(H':Hp):Prop:=
 (∃kvs k,H a=some (.dK kvs)/\y=kV k/\kvs.length<sizeLine/\H'=upd H a (.dK (A93 kvs k v))) \/
 ∃kvs k b,H a=some (.dT kvs)/\y = .ref b/\H b=some (.tup (k.map kV))/\kvs.length<sizeLine/\H'=upd H a (.dT (A93 kvs k v))
section
variable {X:Cx} {pins:List (Addr×Obj)} {σ:St} {H:Hp} {s:Shared} {a:Addr} {y v:V} {u r:Value} {o:Option V} {A:Around} {E:Value->Shared->Prop}
end
section
variable {X:Cx} {pins:List (Addr×Obj)} {σ:St} {H:Hp} {s:Shared} {a:Addr} {kvs:List (Key×V)} {k:Key} {u:Value} {A:Around} {E:Value->Shared->Prop}
end
section
variable {X:Cx} {o i e value:Expr} {pos pos' tpos:Pos} {td ty tv:TE}
end
section
variable {X:Cx} {pos:Pos}
end
structure M1 (X:Cx) (o:Expr) (m:Str) (apos:Pos) (e:Expr) (cpos:Pos):Prop where
 base:attributeBase o m X.env (eval o X.env)=eval o X.env
 few:((backTo cpos (starEach [e] X.env)).all (fun x=> !x.1) && (backToKw cpos (keywordEach [] X.env)).all (fun x=>x.1.isSome)
  && decide (([e]:List Expr).length+([]:List Keyword).length+(if ([]:List Keyword).isEmpty then 0 else 1)<30))=true
 line:(apos.endLine==cpos.line)=true
 trees:backTo cpos (starEach [e] X.env) = [(false,eval e X.env)]
structure M2 (X:Cx) (o:Expr) (m:Str) (apos:Pos) (e f:Expr) (cpos:Pos):Prop where
 base:attributeBase o m X.env (eval o X.env)=eval o X.env
 few:((backTo cpos (starEach [e,f] X.env)).all (fun x=> !x.1) && (backToKw cpos (keywordEach [] X.env)).all (fun x=>x.1.isSome)
  && decide (([e,f]:List Expr).length+([]:List Keyword).length+(if ([]:List Keyword).isEmpty then 0 else 1)<30))=true
 line:(apos.endLine==cpos.line)=true
 trees:backTo cpos (starEach [e,f] X.env) = [(false,eval e X.env),(false,eval f X.env)]
section
variable {X:Cx} {pins:List (Addr×Obj)} {σ:St} {H:Hp} {s:Shared} {a:Addr} {y d:V} {u r:Value} {o:Option V} {A:Around} {E:Value->Shared->Prop}
end
section
variable {X:Cx} {o e f:Expr} {apos cpos:Pos} {td ty tx:TE}
end
section
variable {X:Cx} {pins:List (Addr×Obj)} {σ:St} {H:Hp} {s:Shared} {a:Addr} {kvs:List (Key×V)} {A:Around} {E:Value->Shared->Prop}
end
section
variable {X:Cx} {pins:List (Addr×Obj)} {σ:St} {H:Hp} {s:Shared} {a:Addr} {y:V} {u:Value} {A:Around} {E:Value->Shared->Prop}
end
section
variable {κ:Type} [DecidableEq κ]
end
end L2
namespace Tf
open PySem PySem.Spec PyProof.Rows L2
theorem A21:bootBuiltins "abs" = some (.builtin "abs"):=by decide +kernel
theorem GY:bootBuiltins "len" = some (.builtin "len"):=by decide +kernel
theorem VI:bootBuiltins "sum" = some (.builtin "sum"):=by decide +kernel
theorem PV:bootBuiltins "sorted" = some (.builtin "sorted"):=by decide +kernel
theorem wN:bootBuiltins "all" = some (.builtin "all"):=by decide +kernel
theorem yO:bootBuiltins "int" = some (.type "int"):=by decide +kernel
theorem OY:bootBuiltins "list" = some (.type "list"):=by decide +kernel
theorem IP:bootBuiltins "tuple" = some (.type "tuple"):=by decide +kernel
theorem SK:bootBuiltins "range" = some (.type "range"):=by decide +kernel
theorem kS:bootBuiltins "zip" = some (.type "zip"):=by decide +kernel
theorem QI:bootBuiltins "reversed" = some (.type "reversed"):=by decide +kernel
def Bt(n:Nat)(i:Int):Prop:=i.natAbs<2 ^ n
theorem Bt.mono{n m:Nat}{i:Int}(h:Bt n i)(k:n<=m):Bt m i:=B4 h (CJ (by decide) k)
theorem Bt.mul{n m:Nat}{i j:Int}(h:Bt n i)(k:Bt m j):Bt (n+m) (i*j):=by
 unfold Bt at *
 rw [HK,Nat.pow_add];exact Nat.mul_lt_mul_of_lt_of_le h (GI k) (DH (DF _) k)
theorem Bt.of_le{n:Nat}{i j:Int}(h:Bt n j)(k:i.natAbs<=j.natAbs):Bt n i:=DH k h
theorem Bt.fdiv{n:Nat}{i j:Int}(h:Bt n i):Bt n (i.fdiv j):=by
 refine h.of_le ?_
 by_cases hj:j=0
 . subst hj;simp
 . have key : ∀ (a b : Int), 0 < b -> (a.fdiv b).natAbs <= a.natAbs := by
    intro a b hb;rw [LQ a (LK hb)];exact pL a b
   rcases (by omega:0<j\/j<0) with p | p
   . exact key i j p
   . have:=key (-i) (-j) (by omega);rw [Int.neg_fdiv_neg] at this
     simpa using this
theorem Bt.bits{n:Nat}{i:Int}(h:Bt n i):Builtin.Int.intBits i<=n:=by
 unfold Builtin.Int.intBits
 split
 . exact DF _
 . rename_i hz
   have h0:i.natAbs≠0:=by
    intro e;apply hz;have:i=0:=by omega
    subst this;rfl
   exact (Nat.log2_lt h0).mpr h
theorem Bt.log{n:Nat}{i:Int}(h:Bt n i)(hn:0<n):i.natAbs.log2<n:=by
 by_cases h0:i.natAbs=0
 . rw [h0];simpa using hn
 . exact (Nat.log2_lt h0).mpr h
theorem A97{n m:Nat}{i j:Int}(h:Bt n i)(k:Bt m j)(hn:n+m<=134217728):IntMulOk i j:=by
 unfold IntMulOk;have hb1:=h.bits;have hb2:=k.bits
 have:Builtin.Int.intTooBig (Builtin.Int.intBits i+Builtin.Int.intBits j)=false:=by
  unfold Builtin.Int.intTooBig;apply decide_eq_false;unfold bitsLine;have:(2:Nat) ^ 27=134217728:=by decide
  rw [this];omega
 rw [this];simp
def vS(i j:Int):Prop:=∃n m,Bt n i/\Bt m j/\n+m<=134217728
def j8(_i j:Int):Prop:=j≠0/\Bt 9000 j
section
variable {X:Cx}
theorem mZ:OpR X (binaryOp .FloorDiv) (rI j8 fun i j=> .int (i.fdiv j)):=opI fun _ _ _ _ _ _ _ hc q=>floordiv_int hc.1 q (.inl (pQ (hc.2.log (by decide))))
theorem TL{i j:Int}{n m:Nat}(h:Bt n i)(k:Bt m j)(e:decide (n+m<=134217728)=true):vS i j:=⟨n,m,h,k,AE e⟩
inductive TyV (K:PySem.W.Frag) (H:Hp):V->String->Prop where
 | non:TyV K H .non "NoneType"
 | bl (x:Bool):TyV K H (.bl x) "bool"
 | int (i:Int):TyV K H (.int i) "int"
 | str (x:Str):TyV K H (.str x) "str"
 | lst {a:Addr} {xs:List V} (e:SqL K H a xs):TyV K H (.ref a) "list"
 | tup {a:Addr} {xs:List V} (e:SqT K H a xs):TyV K H (.ref a) "tuple"
def AF4:Key->PyData
 | .inl i=> .int i
 | .inr x=> .str x
def A32(k:List Key):PyData:= .tuple (k.map AF4)
def mkD:PyData×PyData:=(.none, .none)
mutual
inductive Rep (K:PySem.W.Frag) (H:Hp):V->PyData->Prop
 | none:Rep K H .non .none
 | bool (b:Bool):Rep K H (.bl b) (.bool b)
 | int (i:Int):Rep K H (.int i) (.int i)
 | str (x:Str):Rep K H (.str x) (.str x)
 | list {a:Addr} {xs:List V} {ds:List PyData}:SqL K H a xs->Reps K H xs ds->Rep K H (.ref a) (.list ds)
 | tuple {a:Addr} {xs:List V} {ds:List PyData}:SqT K H a xs->Reps K H xs ds->Rep K H (.ref a) (.tuple ds)
 | dict {a:Addr} {ks:List (List Key)} {xs:List V} {ds:List PyData}:Rd H a (.dT (ks.zip xs))->ks.length=xs.length->Reps K H xs ds->Rep K H (.ref a) (.dict ((ks.map A32).zip ds))
 | dictF {a:Addr} {o:Obj} {ks:List (List Key)} {xs:List V} {ds:List PyData}:H a=some (.frz o (.dT (ks.zip xs)))->ks.length=xs.length->Reps K H xs ds->Rep K H (.ref a) (.dict (mkD::(ks.map A32).zip ds))
inductive Reps (K:PySem.W.Frag) (H:Hp):List V->List PyData->Prop
 | nil:Reps K H [] []
 | cons {v:V} {vs:List V} {d:PyData} {ds:List PyData}:Rep K H v d->Reps K H vs ds->Reps K H (v::vs) (d::ds)
end
theorem Reps.length{K:PySem.W.Frag}{H:Hp}:∀ {vs:List V} {ds:List PyData},Reps K H vs ds->vs.length=ds.length
 | _,_, .nil=>rfl
 | _,_, .cons _ t=>by rw [B9,B9,Reps.length t]
mutual
theorem Rep.reads{pins:List (Addr×Obj)}{σ:L2.St}{H:Hp}{s:Shared}(I:Inv X pins σ H s):∀ {v:V} {d:PyData} {u:Value},Rep X.K H v d->RelV v u->d.canLay0=true->∃as,Reads s.heap u d as
 | _,_,_, .none,r,_=>by cases (show _=Value.none from r);exact ⟨_, .none⟩
 | _,_,_, .bool b,r,_=>by cases (show _=Value.bool b from r);exact ⟨_, .bool b⟩
 | _,_,_, .int i,r,_=>by obtain ⟨t,q⟩:=(show ∃t,_=Value.int i t from r);cases q;exact ⟨_, .int i t⟩
 | _,_,_, .str x,r,_=>by obtain ⟨t,q⟩:=(show ∃t,_=Value.str x t from r);cases q;exact ⟨_, .str x t⟩
 | _,_,_, .list (a:=a) h hs,r,c=>by
  cases (show _=Value.ref a from r)
  obtain ⟨its,rv,⟨o,n,h1,h2,_,h3⟩,_⟩:=I.list h;obtain ⟨as,ra⟩:=Reps.reads I hs rv (by simpa [PyData.canLay0] using c)
  exact ⟨_, .list h1 h2 h3 (by simpa using ra)⟩
 | _,_,_, .tuple (a:=a) h hs,r,c=>by
  cases (show _=Value.ref a from r)
  obtain ⟨its,rv,⟨o,h1,h2,n,h3⟩,_⟩:=I.tuple h;obtain ⟨as,ra⟩:=Reps.reads I hs rv (by simpa [PyData.canLay0] using c)
  exact ⟨_, .tuple h1 h2 h3 (by simpa using ra)⟩
 | _,_,_, .dict _ _ _,_,c=>by simp [PyData.canLay0] at c
 | _,_,_, .dictF _ _ _,_,c=>by simp [PyData.canLay0] at c
theorem Reps.reads{pins:List (Addr×Obj)}{σ:L2.St}{H:Hp}{s:Shared}(I:Inv X pins σ H s):∀ {vs:List V} {ds:List PyData} {us:List Value},Reps X.K H vs ds->Vals vs us->PyData.canLayAll0 ds=true->∃as,ReadsAll s.heap us ds as
 | _,_,_, .nil,r,_=>by cases r;exact ⟨_, .nil⟩
 | _,_,_, .cons h hs,r,c=>by
  have c:=A58.mp (show (_ && _)=true by rw [<-PyData.canLayAll0];exact c)
  cases r with
  | cons r1 r2=>
   obtain ⟨as,q⟩:=Rep.reads I h r1 c.1;obtain ⟨bs,q2⟩:=Reps.reads I hs r2 c.2;exact ⟨_, .cons q q2⟩
end
theorem KO:∀ {ds:List PyData},(∀d ∈ ds,d.canLay0=true)->PyData.canLayAll0 ds=true
 | [],_=>by simp [PyData.canLayAll0]
 | d::ds,h=>by
  simp only [PyData.canLayAll0,FG];exact ⟨h d B5,KO fun e he=>h e (AN _ he)⟩
def A63(K:PySem.W.Frag):R2:=fun x y H Q=>∃dx dy,Rep K H x dx/\Rep K H y dy/\dx.canLay0=true/\dy.canLay0=true/\min dx.depth dy.depth<=60/\Q (.bl (PyData.eqv dx dy)) H
def AC5(K:PySem.W.Frag):R2:=fun x y H Q=>∃dx dy,Rep K H x dx/\Rep K H y dy/\dx.canLay0=true/\dy.canLay0=true/\min dx.depth dy.depth<=60/\Q (.bl (!PyData.eqv dx dy)) H
theorem oX(hu:X.A.units+64<cLine):OpR X (compareOp .Eq) (A63 X.K):=by
 intro pins s σ H x y v u Q I rx ry h;obtain ⟨dx,dy,h1,h2,c1,c2,hd,q⟩:=h;obtain ⟨as,r1⟩:=h1.reads I rx c1;obtain ⟨bs,r2⟩:=h2.reads I ry c2;exact SeqAt.compareEq_reads r1 r2 c1 c2 (by omega) ⟨.bl _,H,I,rfl,q⟩
theorem y9(hu:X.A.units+64<cLine):OpR X (compareOp .NotEq) (AC5 X.K):=by
 intro pins s σ H x y v u Q I rx ry h;obtain ⟨dx,dy,h1,h2,c1,c2,hd,q⟩:=h;obtain ⟨as,r1⟩:=h1.reads I rx c1;obtain ⟨bs,r2⟩:=h2.reads I ry c2;exact SeqAt.compareNe_reads r1 r2 c1 c2 (by omega) ⟨.bl _,H,I,rfl,q⟩
end
theorem _root_.L2.Same.upd{H:Hp}{p:Addr}(h:H p=none)(o:HO):Same H (L2.upd H p o):=fun b u q=>by rw [BQ (BY q h)];exact q
theorem _root_.L2.Same.seqT{K:PySem.W.Frag}{H H':Hp}{a:Addr}{xs:List V}(e:Same H H')(h:SqT K H a xs):SqT K H' a xs:=by
 rcases h with (h | ⟨o,h⟩) | h
 . exact .inl (.inl (e _ _ h))
 . exact .inl (.inr ⟨o,e _ _ h⟩)
 . exact .inr h
theorem Rd.same{H H':Hp}{a:Addr}{u:HO}(e:Same H H')(h:Rd H a u):Rd H' a u:=by
 rcases h with h | ⟨o,h⟩
 . exact .inl (e _ _ h)
 . exact .inr ⟨o,e _ _ h⟩
mutual
theorem Rep.same{K:PySem.W.Frag}{H H':Hp}(e:Same H H'):∀ {v:V} {d:PyData},Rep K H v d->Rep K H' v d
 | _,_, .none=> .none
 | _,_, .bool b=> .bool b
 | _,_, .int i=> .int i
 | _,_, .str x=> .str x
 | _,_, .list h hs=> .list (e.seq h) (Reps.same e hs)
 | _,_, .tuple h hs=> .tuple (Same.seqT e h) (Reps.same e hs)
 | _,_, .dict h hl hs=> .dict (Rd.same e h) hl (Reps.same e hs)
 | _,_, .dictF h hl hs=> .dictF (e _ _ h) hl (Reps.same e hs)
theorem Reps.same{K:PySem.W.Frag}{H H':Hp}(e:Same H H'):∀ {vs:List V} {ds:List PyData},Reps K H vs ds->Reps K H' vs ds
 | _,_, .nil=> .nil
 | _,_, .cons h hs=> .cons (Rep.same e h) (Reps.same e hs)
end
section
variable {CX:CXT} {P:Program} {w:World} {K:PySem.W.Frag} {mg:Str->Option Value} {base:Heap} {N:List Str} {qual:Str} {scope:Scope} {f:Addr} {cd:Value} {A:Around} {outer:List Env} {s:Shared} {H:Hp} {E:XK}
end
structure Def (P:Program) (w:World) (K:PySem.W.Frag) (mg:Str->Option Value) (base:Heap) (k:Nat) (x:Str) (ps:List Str) (sp:Sp):Prop where
 ex:∃f fd,FnOk P w K mg base CX0 k f fd ps sp/\mg x=some (.ref f)/\PySem.W.keepIn K (.ref f)=true/\Binds K fd ps []
section
variable {X:Cx} {k j:Nat} {x:Str} {ps:List Str} {sp:Sp} {p pos:Pos} {e:Expr} {es:List Expr} {t:TA}
theorem YB (D : Def X.prog X.w X.K X.mg X.base j x ps sp) (hr : Room k X.A) (ha : PA X (e :: es) t) (hj : j <= k := by decide) (hg : Gl X x := by rfl)
 (hdb:(x==("__debug__" : Str))=false:=by decide) (he:starEach (e::es) X.env=(false,eval e X.env)::starEach es X.env:=by rfl) (hpl:(backTo pos (starEach es X.env)).any (·.1)=false:=by rfl) :
 PE X (.Call (.Name x p) (e::es) [] pos) (dN sp [] E0 t):=by
 obtain ⟨f,fd,F,hm,hk,hb⟩:=D.ex;exact u5 F (hr.mono hj) hg hm hk hb .nil Z7 ha hdb he hpl
end
end Tf
namespace Tf
open PySem PySem.Spec PyProof.Rows L2
def HV(cells:List (Str×Addr)):List (Str×NameKind)->List (Str×Addr)->List (Str×Addr)
 | [],acc=>acc
 | (n,k)::r,acc=>if k == .free then HV cells r ((n,(cells.lookup n).getD 0)::acc) else HV cells r acc
theorem QH {env : Env} : ∀ (names : List (Str × NameKind)) (acc : List (Str × Addr)), (∀ y ∈ names, y.2 = .free -> ∃ c, env.cells.lookup y.1 = some c) ->
 (forIn names acc fun (x:Str×NameKind) (r:List (Str×Addr))=>(match x with | (name,kind)=>if (kind==NameKind.free)=true then do let a <-cellOf env name;pure (ForInStep.yield ((name,a)::r)) else pure (ForInStep.yield r):Sem (ForInStep (List (Str×Addr)))))=pure (HV env.cells names acc)
 | [],acc,_=>by rw [R9];rfl
 | (n,k)::r,acc,h=>by
  have ih:=fun acc=>QH r acc fun y hy=>h y (List.mem_cons_of_mem _ hy);rw [List.forIn_cons];unfold HV
  by_cases hk:(k==NameKind.free)=true
  . obtain ⟨c,hc⟩:=h (n,k) List.mem_cons_self (by simpa using hk);have e:cellOf env n=pure c:=by unfold cellOf;rw [hc]
    simp only [hk,FP,e];rw [hc];exact ih ((n,c)::acc)
  . simp only [hk,HJ];exact ih acc
theorem NG{scope:Scope}{env:Env}(h:∀y ∈ scope.names,y.2 = .free->∃c,env.cells.lookup y.1=some c):closureFor scope env=pure (HV env.cells scope.names []):=by
 unfold closureFor;have:=QH (env:=env) scope.names [] h;simp only [bind_pure];exact this
theorem T4{cells:List (Str×Addr)}:∀ {names:List (Str×NameKind)} {acc:List (Str×Addr)} {x:Str} {c:Addr},(HV cells names acc).lookup x=some c->acc.lookup x=some c\/((x,NameKind.free) ∈ names/\c=(cells.lookup x).getD 0)
 | [],_,_,_,h=> .inl h
 | (n,k)::r,acc,x,c,h=>by
  unfold HV at h
  split at h
  . rename_i hk;rcases T4 h with q | ⟨q,e⟩
    . rw [D9] at q
      cases hx:x==n with
      | true=>
       rw [hx] at q
       have e:=DY.mp hx;subst e;have hk':k = .free:=by simpa using hk
       subst hk'
       exact .inr ⟨B5,(B6 q).symm⟩
      | false=>rw [hx] at q;exact .inl q
    . exact .inr ⟨AN _ q,e⟩
  . rcases T4 h with q | ⟨q,e⟩
    . exact .inl q
    . exact .inr ⟨AN _ q,e⟩
theorem QB{cells:List (Str×Addr)}:∀ {names:List (Str×NameKind)} {acc:List (Str×Addr)} {x:Str},acc.lookup x=some ((cells.lookup x).getD 0)->(HV cells names acc).lookup x=some ((cells.lookup x).getD 0)
 | [],_,_,h=>h
 | (n,k)::r,acc,x,h=>by
  unfold HV
  split
  . refine QB ?_;rw [D9]
    cases hx:x==n with
    | true=>have e:=DY.mp hx;subst e;rfl
    | false=>exact h
  . exact QB h
theorem L9{cells:List (Str×Addr)}:∀ {names:List (Str×NameKind)} {acc:List (Str×Addr)} {x:Str},(x,NameKind.free) ∈ names->(HV cells names acc).lookup x=some ((cells.lookup x).getD 0)
 | (n,k)::r,acc,x,h=>by
  unfold HV;rcases List.mem_cons.mp h with e | h
  . cases e
    simp only [OC,FP];exact QB (by rw [D9,OC])
  . split
    . exact L9 h
    . exact L9 h
theorem MB:∀(names:List (Str×NameKind)) (n:Nat) (acc:List (Str×Addr)),cellsFrom n names acc=cellsFrom n names []++acc
 | [],_,_=>rfl
 | (x,k)::r,n,acc=>by
  unfold cellsFrom
  split
  . rw [MB r (n+1) ((x,n)::acc),MB r (n+1) [(x,n)],N7];rfl
  . exact MB r n acc
theorem JJ{α:Type}(x:Str):∀(a b:List (Str×α)),(a++b).lookup x=(match a.lookup x with | some c=>some c | none=>b.lookup x)
 | [],b=>rfl
 | (k,v)::r,b=>by
  rw [K6,D9,D9]
  cases hx:x==k with
  | true=>rfl
  | false=>exact JJ x r b
theorem aD:∀ {names:List (Str×NameKind)} {n:Nat} {acc:List (Str×Addr)} {x:Str},(x,NameKind.cell) ∈ names->∃c,(cellsFrom n names acc).lookup x=some c
 | (y,k)::r,n,acc,x,h=>by
  unfold cellsFrom;rcases List.mem_cons.mp h with e | h
  . obtain ⟨rfl,rfl⟩:=Prod.mk.inj e;simp only [OC,FP];rw [MB,JJ]
    cases q:(cellsFrom (n+1) r []).lookup x with
    | some c=>exact ⟨c,rfl⟩
    | none=>exact ⟨n,by simp [D9]⟩
  . split
    . exact aD h
    . exact aD h
theorem ZZ:∀ {names:List (Str×NameKind)} {n:Nat} {x:Str} {c:Addr},(x,c) ∈ cellsFrom n names []->(x,NameKind.cell) ∈ names
 | (y,k)::r,n,x,c,h=>by
  unfold cellsFrom at h
  split at h
  . rename_i hk;rw [MB] at h
    rcases CM.mp h with q | q
    . exact AN _ (ZZ q)
    . have hk':k = .cell:=by simpa using hk
      subst hk';have e:(x,c)=(y,n):=by simpa using q
      cases e
      exact B5
  . exact AN _ (ZZ h)
def OO(sc osc:Scope):Scope:=
 {sc with names:=sc.names.map fun (n,k)=>if (k == .free && osc.kind == .function && osc.names.lookup n==some .cell) then (n, .cell) else (n,k)}
theorem TN(sc:Scope)(env:Env):relabel sc env=OO sc env.scope:=rfl
theorem GR {osc : Scope} : ∀ {names : List (Str × NameKind)} {x : Str} {k : NameKind}, (names.map fun (p : Str × NameKind) => (match p with | (n, k) => if (k == NameKind.free && osc.kind == .function && osc.names.lookup n == some NameKind.cell) = true then (n, NameKind.cell) else (n, k))).lookup x = some k ->
 ∃k',names.lookup x=some k'/\(k'=k\/(k' = .free/\k = .cell))
 | [],_,_,h=>by simp at h
 | (n,k0)::r,x,k,h=>by
  rw [BN] at h
  by_cases hc:(k0==NameKind.free && osc.kind == .function && osc.names.lookup n==some NameKind.cell)=true
  . simp only [hc,FP] at h
    rw [D9] at h
    cases hx:x==n with
    | true=>
     rw [hx] at h
     simp only [N9] at h
     subst h;refine ⟨k0,by rw [D9,hx], .inr ⟨?_,rfl⟩⟩;simp only [FG,DY] at hc
     exact hc.1.1
    | false=>
     rw [hx] at h
     obtain ⟨k',e,d⟩:=GR h;exact ⟨k',by rw [D9,hx];exact e,d⟩
  . simp only [AR hc] at h
    rw [D9] at h
    cases hx:x==n with
    | true=>
     rw [hx] at h
     simp only [N9] at h
     subst h
     exact ⟨k0,by rw [D9,hx], .inl rfl⟩
    | false=>
     rw [hx] at h
     obtain ⟨k',e,d⟩:=GR h;exact ⟨k',by rw [D9,hx];exact e,d⟩
theorem K7{α:Type}:∀ {l:List (Str×α)} {x:Str} {k:α},(l.map (·.1)).Nodup->(x,k) ∈ l->l.lookup x=some k
 | (y,j)::r,x,k,nd,h=>by
  rw [BN,IR] at nd
  rw [D9];rcases B7.mp h with e | h'
  . cases e;rw [OC]
  . have : (x == y) = false := by
     apply G6.mpr;intro e;subst e;exact nd.1 (BK.mpr ⟨_,h',rfl⟩)
    rw [this];exact K7 nd.2 h'
def iB(osc sc:Scope)(N N':List Str)(ix:List (Option Nat)):Bool:=
 decide (sc.kind = .function) && decide (osc.kind = .function) && sc.names.all (fun y=>decide (y.2 = .local->sc.names.lookup y.1=some .local)) &&
 sc.names.all (fun y=>decide (y.2 = .free->(osc.names.lookup y.1=some .cell\/osc.names.lookup y.1=some .free))) && decide (N'.Nodup) && decide ((sc.names.map (·.1)).Nodup) && decide (N'.length=ix.length) &&
 (List.range ix.length).all fun i=>match ix[i]? with
  | some (some j)=>decide (N[j]? = N'[i]?) && (match N'[i]? with | some x=>decide (sc.names.lookup x=some .free) | none=>false)
  | _=>true
structure CS (osc sc:Scope) (N N':List Str) (ix:List (Option Nat)):Prop where
 kind:sc.kind = .function
 okind:osc.kind = .function
 names:∀y ∈ sc.names,y.2 = .local->sc.names.lookup y.1=some .local
 free:∀y ∈ sc.names,y.2 = .free->osc.names.lookup y.1=some .cell\/osc.names.lookup y.1=some .free
 nd:N'.Nodup
 ns:(sc.names.map (·.1)).Nodup
 len:N'.length=ix.length
 ixs:∀(i j:Nat),ix[i]? = some (some j)->∃x,N'[i]? = some x/\N[j]? = some x/\sc.names.lookup x=some .free
theorem CS.of{osc sc:Scope}{N N':List Str}{ix:List (Option Nat)}(h:iB osc sc N N' ix=true):CS osc sc N N' ix:=by
 unfold iB at h
 simp only [FG,FH,H9] at h
 obtain ⟨⟨⟨⟨⟨⟨⟨h1,h2⟩,h3⟩,h4⟩,h5⟩,h8⟩,h6⟩,h7⟩:=h;refine ⟨h1,h2,h3,h4,h5,h8,h6,fun i j e=> ?_⟩;have hi:i<ix.length:=(AX.mp e).1;have q:=h7 i (BC.mpr hi);rw [e] at q
 simp only [FG,H9] at q
 cases e2:N'[i]? with
 | none=>rw [e2] at q;exact absurd q.2 (by simp)
 | some x=>
  rw [e2] at q
  exact ⟨x,rfl,q.1,by simpa using q.2⟩
def F3(ix:List (Option Nat))(σ:L2.St):L2.St:=ix.map fun o=>match o with | some j=>(σ[j]?).join | none=>none
structure CB where
 C:Addr
 s₀:Shared
 H₀:Hp
 ex:List Addr
def A48(osc sc:Scope)(cl:List (Str×Addr))(C:Addr)(env:Env):Env:=
 {scope:=OO sc osc,locals:=C,globals:=env.globals,cells:=cellsFrom (C+1) sc.names cl,qual:=env.qual,func:=none,code:=env.code,frame:=env.frame,builtins:=env.builtins}
def cxC(X:Cx)(osc sc:Scope)(N':List Str)(b:CB):Cx where
 prog:=X.prog
 w:=X.w
 K:=X.K
 mg:=X.mg
 base:=X.base
 A:=X.A
 N:=N'
 s₀:=b.s₀
 H₀:=b.H₀
 env:=A48 osc sc (HV X.env.cells sc.names []) b.C X.env
 outer:=X.stack
 stack:=X.stack
 ex:=b.ex
 fn:=fun x=>decide (sc.names.lookup x=some .cell)
 calm:=X.calm
 pn:= []
 xe:=fun _ _=>False
def IX:Obj:={cls:= .type "list",dict:=none,data:= .seq ([]:List Value).toArray}
def W7:Obj:={cls:= .type "dict",data:= .dict #[]}
def JZ(h:Heap)(sc:Scope):Heap:=pushCells ((h.push IX).push W7) sc.names
theorem KI{h:Heap}{sc:Scope}:∀b o,h.get? b=some o->(JZ h sc).get? b=some o:=fun b o e=>wD _ _ b o (A3 _ (A3 _ e))
theorem JW {M : Model} {A : Around} {E : Value -> Shared -> Prop} {s : Shared} {scope : Scope} {globals : Addr} {cl : List (Str × Addr)} {qual : Str} {env : Env} {Q : Env -> Shared -> Prop}
 (h:Q (newEnv scope s.heap.objs.size globals (cellsFrom (s.heap.objs.size+1) scope.names cl) qual none .none (some env) builtinsNs) {s with heap:=pushCells (s.heap.push W7) scope.names}) :
 wpAny M A (newFunctionEnv scope globals cl [] qual none .none (some env)) Q E s:=by
 simp only [newFunctionEnv,Option.isSome_some,FP];refine A7 (wpAny_alloc ?_);refine A7 (wpAny_layCells _ (fun name kind cells=>by cases hkc:kind==NameKind.cell <;> simp [hkc]) _ _ _ _ ?_);rw [show ({s with heap:=s.heap.push {cls:= .type "dict",data:= .dict #[]} }:Shared).heap.objs.size=s.heap.objs.size+1 from D4 ..];simp only [R9];exact A7 (AS (AS h))
section
variable {X:Cx} {pins:List (Addr×Obj)} {σ:L2.St} {H:Hp} {s:Shared} {osc sc:Scope} {N':List Str} {ix:List (Option Nat)} {fp:List Addr}
theorem bD(I:Inv X pins σ H s)(cs:CS osc sc X.N N' ix)(ho:X.env.scope=osc):∀y ∈ sc.names,y.2 = .free->∃c,X.env.cells.lookup y.1=some c:=fun y hy hf=>by
 refine I.ok.has y.1 ?_;have q:=cs.free y hy hf;rw [<-ho] at q
 exact q
theorem pG (I : Inv X pins σ H s) (cs : CS osc sc X.N N' ix) (ho : X.env.scope = osc) {C : Addr} {x : Str} {c : Addr} (h : (cellsFrom (C + 1) sc.names (HV X.env.cells sc.names [])).lookup x = some c) :
 ((x,c) ∈ cellsFrom (C+1) sc.names [] )\/((x,NameKind.free) ∈ sc.names/\X.env.cells.lookup x=some c):=by
 rw [MB,JJ] at h
 cases e:(cellsFrom (C+1) sc.names []).lookup x with
 | some d=>rw [e] at h;cases h;exact .inl (mem_of_lookup e)
 | none=>
  rw [e] at h
  rcases T4 h with q | ⟨q,d⟩
  . cases q
  . obtain ⟨c',hc⟩:=bD I cs ho _ q rfl;rw [show X.env.cells.lookup x=some c' from hc] at d
    exact .inr ⟨q,by rw [show X.env.cells.lookup x=some c' from hc];rw [d];rfl⟩
theorem jD (I : Inv X pins σ H s) (cs : CS osc sc X.N N' ix) (ho : X.env.scope = osc) (hfp : ∀ b ∈ fp, W1 X pins H b) (hlt : ∀ b ∈ fp, b < s.heap.objs.size) :
 Inv (cxC X osc sc N' ⟨s.heap.objs.size+1,s,H,fp ++ [s.heap.objs.size]⟩) [] (F3 ix σ) H {s with heap:=JZ s.heap sc}:=by
 have okc:=cellsFrom_ok sc.names ((s.heap.push IX).push W7) (s.heap.objs.size+2) [] ⟨fun _ _ hm=>(nomatch hm),N8⟩ (by rw [D4,D4];exact A8 _);have esz:((s.heap.push IX).push W7).objs.size=s.heap.objs.size+1+1:=by rw [D4,D4]
 rw [esz] at okc
 have cell:=fun {x:Str} {c:Addr}=>pG (C:=s.heap.objs.size+1) (x:=x) (c:=c) I cs ho;have oldc:∀ {x:Str} {c:Addr},X.env.cells.lookup x=some c -> @LT.lt Nat _ c s.heap.objs.size:=fun {x c} h=>(I.cell x c h).elim fun v hv=>hv.lt;have ltS:∀ {h:Heap} {b:Addr} {o:Obj},h.get? b=some o -> @LT.lt Nat _ b h.objs.size:=fun e=>AV e;have newc:∀ {x:Str} {c:Addr},(x,c) ∈ cellsFrom (s.heap.objs.size+1+1) sc.names []->s.heap.objs.size+2<=c:=fun {x c} h=>(okc.empty x c h).2
 have nsC:∃m,(JZ s.heap sc).Ns (s.heap.objs.size+1) m:=⟨_,by
  have q:=(Heap.Ns.new (s.heap.push IX) (.type "dict")).keeps (wD sc.names _);rw [D4] at q
  exact q⟩
 refine ⟨?ok,rfl,I.bare,Un.kept KI,?loc,?cell,I.hok.fresh (R8 _),?freeC,?pin,I.hok.kept KI,?len⟩
 case ok=>
  refine ⟨I.ok.mod,cs.kind,I.ok.glob,I.ok.blt,R8 _,?inj,?has,?cab,I.ok.hd,I.ok.frames, .inl rfl,?exf,I.bs,?bsz,?noex,?exfs,I.stack,I.stkFree,I.tb⟩
  case inj=>
   intro x y c hx hy;rcases cell hx with p | ⟨p,p'⟩ <;> rcases cell hy with q | ⟨q,q'⟩
   . exact name_of_addr okc.apart p q
   . have a1:=newc p;have a2:=oldc q';omega
   . have a1:=newc q;have a2:=oldc p';omega
   . exact I.ok.inj x y c p' q'
  case has=>
   intro x hx
   have key:∀k,(OO sc osc).names.lookup x=some k->(k = .cell\/k = .free)->∃c,(cellsFrom (s.heap.objs.size+1+1) sc.names (HV X.env.cells sc.names [])).lookup x=some c:=by
    intro k hk hk2;obtain ⟨k',e,d⟩:=GR hk;have hm:=mem_of_lookup e
    have:k' = .cell\/k' = .free:=by
     rcases d with d | d
     . rcases hk2 with r | r
       . exact .inl (d.trans r)
       . exact .inr (d.trans r)
     . exact .inr d.1
    rcases this with r | r
    . subst r;exact aD hm
    . subst r;rw [MB,JJ,L9 hm]
      cases (cellsFrom (s.heap.objs.size+1+1) sc.names []).lookup x with
      | some c=>exact ⟨c,rfl⟩
      | none=>exact ⟨_,rfl⟩
   rcases hx with hx | hx
   . exact key _ hx (.inl rfl)
   . exact key _ hx (.inr rfl)
  case cab=>
   intro x c hf hc;have hf':sc.names.lookup x=some .cell:=AE hf;rcases cell hc with p | ⟨p,p'⟩
   . have:=newc p;show s.heap.objs.size<=c;omega
   . rw [K7 cs.ns p] at hf'
     cases hf'
  case exf=>
   intro b hb;rcases CM.mp hb with hb | hb
   . have hl : @LT.lt Nat _ b s.heap.objs.size:=hlt b hb;obtain ⟨f0,f1,f2,f3,f4,f5⟩:=hfp b hb;refine ⟨fun e=> ?_,fun x c hc e=> ?_⟩
     . have e:b=s.heap.objs.size+1:=e;subst e;omega
     . rcases cell hc with p | ⟨p,p'⟩
       . have:=newc p;subst e;omega
       . exact f4 x c p' e
   . have hb:b=s.heap.objs.size:=by simpa using hb
     subst hb;refine ⟨fun e=>Nat.succ_ne_self _ (Eq.symm (show s.heap.objs.size=s.heap.objs.size+1 from e)),fun x c hc e=> ?_⟩;rcases cell hc with p | ⟨p,p'⟩
     . have:=newc p;subst e;omega
     . have:=oldc p';subst e;omega
  case bsz=>exact AY I.ok.bsz I.sz
  case noex=>
   intro b o e hb;have e:X.base.get? b=some o:=e;rcases CM.mp hb with hb | hb
   . obtain ⟨f0,f1,f2,f3,f4,f5⟩:=hfp b hb;rcases f3 with f3 | f3
     . exact I.ok.noex b o e f3
     . have:=ltS e;have:=I.ok.bsz;omega
   . have hb:b=s.heap.objs.size:=by simpa using hb
     have:=ltS e;have:=I.ok.bsz;have:=I.sz;subst hb;omega
  case exfs=>
   intro b hb hf;have hf:=I.stkSub b hf;rcases CM.mp hb with hb | hb
   . obtain ⟨f0,f1,f2,f3,f4,f5⟩:=hfp b hb;rcases B7.mp hf with e | hf
     . exact f1 e
     . exact f2 hf
   . have hb:b=s.heap.objs.size:=by simpa using hb
     rcases B7.mp hf with e | hf
     . have l : @LT.lt Nat _ X.env.locals s.heap.objs.size:=I.lt;rw [hb] at e
       rw [<-e] at l
       omega
     . exact I.nofs (WP hb.symm) hf
 case loc=>
  obtain ⟨m',hm'⟩:=nsC;obtain ⟨m,hm,hl⟩:=I.loc;refine ⟨m',hm',fun i x v hx hv hvis=> ?_⟩;unfold F3 at hv
  rw [B3] at hv
  cases e:ix[i]? with
  | none=>rw [e] at hv;cases hv
  | some o=>
   rw [e] at hv
   cases o with
   | none=>cases hv
   | some j=>
    simp only [F2,N9] at hv
    obtain ⟨y,h1,h2,h3⟩:=cs.ixs i j e;have hx':N'[i]? = some x:=hx;rw [h1] at hx'
    cases hx'
    have hj:σ[j]? = some (some v):=by
     cases q:σ[j]? with
     | none=>rw [q] at hv;cases hv
     | some z=>rw [q] at hv;simp only [DZ] at hv;rw [hv]
    have hfree:=mem_of_lookup h3;have hk:=cs.free _ hfree rfl;rw [<-ho] at hk
    have hvis0:Vis X.env.scope x:=by
     rcases hk with r | r
     . exact .inr (.inl r)
     . exact .inr (.inr r)
    obtain ⟨u,ru,lk⟩:=hl j x v h2 hj hvis0;refine ⟨u,ru, .inr ⟨?_,?_⟩⟩
    . rcases hvis with q | q | q
      . obtain ⟨k',e',d⟩:=GR q;rw [h3] at e'
        cases e'
        rcases d with d | d
        . cases d
        . cases d.2
      . exact .inl q
      . exact .inr q
    . rcases lk with ⟨lk,_⟩ | ⟨_,c,hc,hcell⟩
      . have:X.env.scope.names.lookup x=some .local:=lk;rw [this] at hk
        rcases hk with r | r <;> cases r
      . refine ⟨c,?_,hcell.keeps KI⟩;show (cellsFrom (s.heap.objs.size+1+1) sc.names (HV X.env.cells sc.names [])).lookup x=some c;rw [MB,JJ,L9 hfree,hc]
        cases e2:(cellsFrom (s.heap.objs.size+1+1) sc.names []).lookup x with
        | some d=>
         have:=K7 cs.ns (ZZ (mem_of_lookup e2));rw [h3] at this
         cases this
        | none=>rfl
 case cell=>
  intro x c hc;rcases cell hc with p | ⟨p,p'⟩
  . exact ⟨_,(okc.empty x c p).1⟩
  . obtain ⟨v,hv⟩:=I.cell x c p';exact ⟨v,hv.keeps KI⟩
 case freeC=>
  intro x c hc;rcases cell hc with p | ⟨p,p'⟩
  . have:=newc p;exact I.hok.fresh (by omega)
  . exact I.freeC x c p'
 case pin=>intro p hp;cases hp
 case len=>
  show (F3 ix σ).length=N'.length;unfold F3;rw [List.length_map,cs.len]
def GK(S:Nat->Bool)(g:TG):Prop:=∀v σ H Q,g v σ H Q->g v σ H fun σ' H'=>Q σ' H'/\σ'.length=σ.length/\∀i:Nat,S i=false->σ'[i]? = σ[i]?
def PTs(X:Cx)(ifs:List Expr)(t:TT):Prop:=
 ∀(pins:List (Addr×Obj)) (s:Shared) (σ:L2.St) (H:Hp) (Q:Bool->Hp->Prop),Inv X pins σ H s->t σ H Q ->
   wpAny (model X.prog X.w) X.A (forIn ifs true fun c r=>if r=true then do let ok <-isTrue c X.env (eval c X.env);pure (ForInStep.yield ok) else pure (ForInStep.yield r)) (TP X pins σ Q) X.xe s
def tNoTest:TT:=fun _ H Q=>Q true H
theorem qA{X:Cx}:PTs X [] tNoTest:=fun _ _ _ H _ I h=>wpAny_tests_nil ⟨H,I,h⟩
theorem rP{X:Cx}{c:Expr}{t:TT}(h:PT X c t):PTs X [c] t:=fun pins s σ H Q I q=>wpAny_tests_one (h pins s σ H Q I q)
def AA2(J:It)(σ0:L2.St)(g:TG)(tt:TT)(te:TE)(H1:Hp)(Q:VK):Prop:=∃W:Nat->Nat->List V->Hp->Prop,(∃m,W 0 m [] H1)/\∀i m ys H,W i m ys H->ys.length<sizeLine /\
 ((J.stop i H/\∀p,H p=none->Q (.ref p) (upd H p (.lst ys))) \/
  (J.go i H/\∃N:List V->Hp->Prop,(∀ys' H',N ys' H'->∃m',m'<m/\W (i+1) m' ys' H')/\∀x H',J.yld i H x H'->g x σ0 H' fun σ2 H2=>tt σ2 H2 fun b H3=>if b=true then te σ2 H3 fun y H4=>N (ys ++ [y]) H4 else N ys H3))
theorem M0 {prog : Program} {w : World} {A : Around} {R : Result -> Shared -> Prop} {s : Shared} {elt target iter : Expr} {ifs : List Expr} {scope : Scope} {pos : Pos} {it acc : Value} {env : Env} (I : Nat -> Shared -> Prop)
 (turn:∀n s,I n s->wpAny (model prog w) A (pyNext it) (fun r s₁=>match r with
  | none=>R (.ok .next) s₁
  | some v => wpAny (model prog w) A (letOwnedTupleGo target it v) (fun _ s₁ => wpAny (model prog w) A (assign target env v) (fun _ s₂ =>
   wpAny (model prog w) A (forIn ifs true fun c r=>if r=true then do let ok <-isTrue c env (eval c env);pure (ForInStep.yield ok) else pure (ForInStep.yield r)) (fun ok s₃=>
    if ok=true then wpAny (model prog w) A (eval elt env) (fun x s₄=>
     wpAny (model prog w) A (call (.builtin "list.append") [acc,x]) (fun _ s₅=>∃m,m<n/\I m s₅) (fun _ _=>False) s₄) (fun _ _=>False) s₃
    else ∃m,m<n/\I m s₃) (fun _ _=>False) s₂) (fun _ _=>False) s₁) (fun _ _=>False) s₁) (fun _ _=>False) s)
 (n:Nat) (h:I n s) :
 codeAny (model prog w) A (.compLoop (.ListComp elt [⟨target,iter,ifs,0⟩] scope pos) 0 it acc env) R s:=by
 refine codeAny_loop rfl I (fun n s hI=> ?_) n h;show wpAny _ A ((compTurn (.ListComp elt [⟨target,iter,ifs,0⟩] scope pos) 0 it acc env).onRaise (fun x=>do noteFrame x env;theTreesLotGoes x)) _ _ s;refine wpAny_noted ?_;rw [compTurn_list];refine A7 (AD7 (A7 (HF (turn n s hI) (fun r s₁ h₁=> ?_) fun _ _ h'=>h'.elim)))
 cases r with
 | none=>exact AS h₁
 | some v=>
  refine A7 (HF h₁ (fun _ s₁ h₁=> ?_) fun _ _ h'=>h'.elim);refine A7 (HF h₁ (fun _ s₂ h₂=>A7 (HF h₂ (fun ok s₃ h₃=> ?_) fun _ _ h'=>h'.elim)) fun _ _ h'=>h'.elim)
  cases ok with
  | false=>exact AS ⟨rfl,h₃⟩
  | true=>
   exact A7 (A7 (HF h₃ (fun x s₄ h₄=>A7 (HF h₄ (fun _ s₅ h₅=>AS (AS ⟨rfl,h₅⟩)) fun _ _ h'=>h'.elim)) fun _ _ h'=>h'.elim))
theorem VE{P:Program}{w:World}{H:Hp}{h:Heap}{a:Addr}{o:HO}(x:HOk P w H h)(hn:H a=none)(new:ObjOk P w (upd H a o) h a o):HOk P w (upd H a o) h:=fun b u e=>by
 by_cases hb:b=a
 . subst hb;rw [C9] at e
   cases e
   exact new
 . rw [BQ hb] at e
   refine (x b u e).stay (fun _ _ _ q=>q) (fun c q=> ?_) (fun c xs q=> ?_) fun c ob xs q=> ?_
   . rw [BQ (BY q hn)];exact q
   . rw [BQ (BY q hn)];exact q
   . rw [BQ (BY q hn)];exact q
def RU(ix:List (Option Nat))(i:Nat):Bool:=match ix[i]? with | some (some _)=>false | _=>true
structure BlkEnd (X:Cx) (pins:List (Addr×Obj)) (σ:L2.St) (C D:Addr) (H:Hp) (ys:List V) (s':Shared):Prop where
 inv:Inv X pins σ (upd H D (.lst ys)) s'
 free:H D=none
 ns:∃m,s'.heap.Ns C m
 cfree:(upd H D (.lst ys)) C=none
 cl:C≠X.env.locals
 cn:X.s₀.heap.objs.size<=C
 cc:∀x c,X.env.cells.lookup x=some c->c≠C
 cp:∀p ∈ X.pn++pins,p.1≠C
theorem UC {tg elt iter : Expr} {ifs : List Expr} {scope : Scope} {pos : Pos} {J : It} {it : Addr} {tn : Nat -> Heap -> Prop} {g : TG} {tt : TT} {te : TE} {Q : VK} {R : Result -> Shared -> Prop}
 (I2:Inv X pins σ H s) (cs:CS osc sc X.N N' ix) (ho:X.env.scope=osc) (hc:X.calm=true) (T:Turn X.prog X.w X.K tg J fp it tn) (st2:tn 0 s.heap) (f2:∀b ∈ fp,W1 X pins H b)
 (hg:PG (cxC X osc sc N' ⟨s.heap.objs.size+1,s,H,fp ++ [s.heap.objs.size]⟩) tg g) (gk:GK (RU ix) g)
 (ht:PTs (cxC X osc sc N' ⟨s.heap.objs.size+1,s,H,fp ++ [s.heap.objs.size]⟩) ifs tt) (he:PE (cxC X osc sc N' ⟨s.heap.objs.size+1,s,H,fp ++ [s.heap.objs.size]⟩) elt te)
 (rd:AA2 J (F3 ix σ) g tt te H Q)
 (hR:∀ys H' s',BlkEnd X pins σ (s.heap.objs.size+1) s.heap.objs.size H' ys s'->Q (.ref s.heap.objs.size) (upd H' s.heap.objs.size (.lst ys))->R (.ok .next) s') :
 codeAny (model X.prog X.w) X.A (.compStart (.ListComp elt [⟨tg,iter,ifs,0⟩] scope pos) 0 (.ref it) (.ref s.heap.objs.size) (A48 osc sc (HV X.env.cells sc.names []) (s.heap.objs.size+1) X.env)) R {s with heap:=JZ s.heap sc}:=by
 have ltS:∀ {h:Heap} {b:Addr} {o:Obj},h.get? b=some o -> @LT.lt Nat _ b h.objs.size:=fun e=>AV e;have hlt:∀b ∈ fp,b<s.heap.objs.size:=fun b hb=>(T.obj 0 _ st2 b hb).elim fun o h=>AV h.1;have I3:=jD I2 cs ho f2 hlt;generalize eX:cxC X osc sc N' ⟨s.heap.objs.size+1,s,H,fp ++ [s.heap.objs.size]⟩=X' at *
 have eE:A48 osc sc (HV X.env.cells sc.names []) (s.heap.objs.size+1) X.env=X'.env:=by rw [<-eX];rfl
 have eP:X'.prog=X.prog:=by rw [<-eX];rfl
 have eW:X'.w=X.w:=by rw [<-eX];rfl
 have eK:X'.K=X.K:=by rw [<-eX];rfl
 have eA:X'.A=X.A:=by rw [<-eX];rfl
 have eC:X'.calm=true:=by rw [<-eX];exact hc
 have eL:X'.env.locals=s.heap.objs.size+1:=by rw [<-eX];rfl
 have eF:X'.fs=frs X.stack:=by rw [<-eX];rfl
 have eEx:X'.ex=fp ++ [s.heap.objs.size]:=by rw [<-eX];rfl
 have eN:X'.pn = []:=by rw [<-eX];rfl
 have eS:X'.s₀=s:=by rw [<-eX];rfl
 have eH:X'.H₀=H:=by rw [<-eX];rfl
 have exe:X'.xe=fun _ _=>False:=by rw [<-eX];rfl
 have okX:=I3.ok;have mD:s.heap.objs.size ∈ X'.ex:=by rw [eEx];exact BS _ (AJ.mpr rfl)
 have mF:∀b ∈ fp,b ∈ X'.ex:=fun b hb=>by rw [eEx];exact EW _ hb
 obtain ⟨W,⟨m0,w0⟩,turn⟩:=rd
 have stat:∀ {H':Hp} {o:Obj},(∀b ∈ fp,H' b=none)->∀b ∈ fp,W1 X' [(s.heap.objs.size,o)] H' b:=fun {H' o} hn b hb=>by
  refine ⟨hn b hb,(okX.exf b (mF b hb)).1,okX.exfs b (mF b hb), .inl (mF b hb),(okX.exf b (mF b hb)).2,fun p hp e=> ?_⟩;rw [eN] at hp
  have hp:p=(s.heap.objs.size,o):=by simpa using hp
  subst hp;have l : @LT.lt Nat _ b s.heap.objs.size:=hlt b hb;have e:s.heap.objs.size=b:=e;rw [<-e] at l
  omega
 have pinD:∀ {σ':L2.St} {H':Hp} {s':Shared} {o:Obj},Inv X' [] σ' H' s'->s'.heap.get? s.heap.objs.size=some o->H' s.heap.objs.size=none->(∀v,o.data ≠ .cell v)->Inv X' [(s.heap.objs.size,o)] σ' H' s':=fun {σ' H' s' o} I e hn hd=>by
  refine I.pins_of fun p hp=> ?_;have hp:p=(s.heap.objs.size,o):=by simpa using hp
  subst hp;exact ⟨e,hn,(okX.exf _ mD).1,okX.exfs _ mD,hd⟩
 rw [eE];have I3':Inv X' [] (F3 ix σ) H {s with heap:=JZ s.heap sc}:=I3;have dat:∀(its:List Value) (k:Nat) (v:Option Value),({cls:= .type "list",data:= .seq its.toArray k}:Obj).data ≠ .cell v:=fun _ _ _ z=>nomatch z;have acc0:(JZ s.heap sc).get? s.heap.objs.size=some {cls:= .type "list",data:= .seq ([]:List Value).toArray 0}:=wD _ _ _ _ (A3 _ (AW _ rfl));have st3:tn 0 (JZ s.heap sc):=T.keep 0 _ _ st2 fun b hb o e=>KI b o e
 have loop:∀s3:Shared,s3={s with heap:=JZ s.heap sc}->codeAny (model X.prog X.w) X.A (.compLoop (.ListComp elt [⟨tg,iter,ifs,0⟩] scope pos) 0 (.ref it) (.ref s.heap.objs.size) X'.env) R s3:=by
  rintro s3 rfl
  refine M0 (fun n s'=>∃i ys H' its k,Inv X' [] (F3 ix σ) H' s'/\tn i s'.heap/\(∀b ∈ fp,H' b=none)/\W i n ys H'/\s'.heap.get? s.heap.objs.size=some {cls:= .type "list",data:= .seq its.toArray k}/\Vals ys its/\H' s.heap.objs.size=none)
   ?_ m0 ⟨0,[],H,[],0,I3',st3,fun b hb=>(f2 b hb).1,w0,acc0, .nil,I2.hok.fresh (A8 _)⟩
  rintro n s3 ⟨i,ys,H3,its,k,J3,t3,fr3,w3,a3,v3,d3⟩;obtain ⟨hz,w3⟩:=turn i n ys H3 w3;have J3p:=pinD J3 a3 d3 (dat its k);rcases w3 with ⟨stop,q⟩ | ⟨go,N,hN,step⟩
  . have TD:=T.done X' eP eW eK eC i [(s.heap.objs.size,_)] s3 (F3 ix σ) H3 (fun _ _=>False) J3p (stat fr3) t3 stop;rw [eA] at TD
    refine thn TD fun r s4 ⟨hr,I4⟩ => ?_;subst hr;have a4:=(I4.pin (s.heap.objs.size,_) (BS _ (AJ.mpr rfl))).1;have hd4:=I4.base;rw [eF,eEx,eH,eS] at hd4
    refine hR ys H3 s4 ⟨?_,d3,?_,?_,?_,?_,?_,?_⟩ (q _ d3)
    . refine I2.call' (ch:=fp ++ [s.heap.objs.size]) (by have z:=I4.os;rw [eS] at z;exact z) ?_ ?_ I4.bare ?_
      . refine ⟨hd4.keep,hd4.slot,fun b o e n x=> ?_,hd4.there,fun b xs e=> ?_,fun b o u e=> ?_,fun b ps e=> ?_⟩
        . have l:=ltS e;rw [BQ (by intro z;subst z;omega)];exact hd4.free b o e n x
        . have z:=hd4.tups b xs e;rw [BQ (BY z d3)];exact z
        . have z:=hd4.frzs b o u e;rw [BQ (BY z d3)];exact z
        . obtain ⟨more,z⟩:=hd4.tbls b ps e;exact ⟨more,by rw [BQ (BY z d3)];exact z⟩
      . have hk:=I4.hok;rw [eP,eW] at hk
        exact VE hk d3 ⟨GI hz,its,k,v3,a4⟩
      . intro b hb;rcases CM.mp hb with hb | hb
        . obtain ⟨f0,f1,f2,f3,f4,f5⟩:=f2 b hb;exact ⟨f3,f1,f4,f5⟩
        . have hb:b=s.heap.objs.size:=by simpa using hb
          subst hb;refine ⟨.inr I2.sz,fun e=> ?_,fun x c hx e=> ?_,fun p hp e=> ?_⟩
          . have l : @LT.lt Nat _ X.env.locals s.heap.objs.size:=I2.lt;rw [<-e] at l
            omega
          . obtain ⟨v,hv⟩:=I2.cell x c hx;have l : @LT.lt Nat _ c s.heap.objs.size:=hv.lt;rw [e] at l
            omega
          . have l:=ltS (I2.pin p hp).1;rw [e] at l
            omega
    . obtain ⟨m,hm,_⟩:=I4.loc;rw [eL] at hm
      exact ⟨m,hm⟩
    . rw [BQ (Nat.succ_ne_self _)];have z:=I4.free;rw [eL] at z
      exact z
    . intro e;have l : @LT.lt Nat _ X.env.locals s.heap.objs.size:=I2.lt;rw [<-e] at l
      omega
    . have:=I2.sz;exact AF7 this
    . intro x c hx e;obtain ⟨v,hv⟩:=I2.cell x c hx;have l : @LT.lt Nat _ c s.heap.objs.size:=hv.lt;rw [e] at l
      omega
    . intro p hp e;have l:=ltS (I2.pin p hp).1;rw [e] at l
      omega
  . have TI:=T.item X' eP eW eK eC i [(s.heap.objs.size,_)] s3 (F3 ix σ) H3 (fun _ _=>False) J3p (stat fr3) t3 go;rw [eA] at TI
    refine thn TI fun r s4 ⟨u,hr,h4⟩ => ?_;subst hr;refine thn h4 fun _ s5 ⟨x,H5,I5,r5,y5,st5,fr5⟩ => ?_;have I5':=I5.pinned (stat fr5) (T.obj _ _ st5);have HG:=hg _ s5 (F3 ix σ) H5 x u _ I5' r5 (gk _ _ _ _ (step x H5 y5));rw [eP,eW,eA,exe] at HG
    refine thn HG fun _ s6 ⟨σ6,H6,I6,q6,l6,k6⟩ => ?_;have HT:=ht _ s6 σ6 H6 _ I6 q6;rw [eP,eW,eA,exe] at HT
    refine thn HT fun b s7 ⟨H7,I7,q7⟩ => ?_
    have weak:∀ {ps:List (Addr×Obj)} {H':Hp} {s':Shared},Inv X' ps σ6 H' s'->Inv X' ps (F3 ix σ) H' s':=fun I=>I.weak l6.symm fun j v e=>by
     have hs:RU ix j=false:=by
      unfold RU;unfold F3 at e
      rw [B3] at e
      cases e2:ix[j]? with
      | none=>rw [e2] at e;cases e
      | some o=>
       rw [e2] at e
       cases o with
       | none=>cases e
       | some z=>rfl
     rw [k6 j hs];exact e
    have pinA : ∀ {σ' : L2.St} {H' : Hp} {s' : Shared}, Inv X' ([(s.heap.objs.size, { cls := .type "list", data := .seq its.toArray k })] ++ SC fp s5.heap) σ' H' s' ->
     s'.heap.get? s.heap.objs.size=some {cls:= .type "list",data:= .seq its.toArray k}/\H' s.heap.objs.size=none/\tn (i+1) s'.heap/\∀b ∈ fp,H' b=none:=fun {σ' H' s'} I=>by
     have z:=I.pin (s.heap.objs.size,_) (BS _ (EW _ (AJ.mpr rfl)));refine ⟨z.1,z.2.1,T.keep _ _ _ st5 fun b hb o e=>(I.pin (b,o) (BS _ (BS _ (KU hb e)))).1,fun b hb=> ?_⟩;obtain ⟨o,e,d⟩:=T.obj _ _ st5 b hb;exact (I.pin (b,o) (BS _ (BS _ (KU hb e)))).2.1
    cases b with
    | false=>
     have q7:N ys H7:=q7;obtain ⟨m',hm,w7⟩:=hN ys H7 q7;obtain ⟨p1,p2,p3,p4⟩:=pinA I7
     exact ⟨m',hm,i+1,ys,H7,its,k,(weak I7).pins_of (fun _ z=>(nomatch z)),p3,p4,w7,p1,v3,p2⟩
    | true=>
     have HE:=he _ s7 σ6 H7 _ I7 q7;rw [eP,eW,eA,exe] at HE
     refine thn HE fun y s8 ⟨z,H8,I8,r8,q8⟩ => ?_;obtain ⟨m',hm,w8⟩:=hN _ H8 q8;obtain ⟨p1,p2,p3,p4⟩:=pinA I8;refine LI KF ⟨_,p1,rfl⟩ F.entry_list_append (AH5 _ _) (AF6 s.heap.objs.size its.toArray k y (by rw [AF, <-v3.length];omega)) ⟨p1,?_⟩;have q:=PySem.IsL.update p1 (fun a=>a.push y);have other:∀b o,b≠s.heap.objs.size->s8.heap.get? b=some o->(s8.heap.update s.heap.objs.size (Obj.mapSeq fun a=>a.push y)).get? b=some o:=fun b o hb e=>(TU s8.heap _ (N5 hb)).trans e;have eq:its.toArray.push y=(its ++ [y]).toArray:=by simp
     have q:IsL (s8.heap.update s.heap.objs.size (Obj.mapSeq fun a=>a.push y)) s.heap.objs.size (its.toArray.push y) _:=q;rw [eq] at q
     refine ⟨m',hm,i+1,ys ++ [z],H8,its ++ [y],_,?_,T.keep _ _ _ p3 fun b hb o e=>other b o (fun z=> ?_) e,p4,w8,q,v3.append (.cons r8 .nil),p2⟩
     . have I8w:Inv X' [] (F3 ix σ) H8 s8:=(weak I8).pins_of fun _ z=>nomatch z;refine I8w.turned (it:=s.heap.objs.size) other p2 (okX.exf _ mD).1 (.inl mD) (okX.exf _ mD).2 fun p hp=> ?_;rw [eN] at hp
       cases hp
     . have l : @LT.lt Nat _ b s.heap.objs.size:=hlt b hb;rw [z] at l
       omega
 exact codeAny_compStart_list (loop _ rfl) (T.self X.A 0 _ _ _ st3 (loop _ rfl))
def tLC(ix:List (Option Nat))(wi:TI)(g:CB->TG)(tt:CB->TT)(te:CB->TE):TE:=fun σ H Q=>wi σ H fun J H1=>∀b:CB,AA2 J (F3 ix σ) (g b) (tt b) (te b) H1 Q
theorem AA3 {tg elt iter : Expr} {ifs : List Expr} {pos : Pos} {wi : TI} {g : CB -> TG} {tt : CB -> TT} {te : CB -> TE} (hc : X.calm = true) (ho : X.env.scope = osc) {N : List Str} (hN : X.N = N) (hcs : iB osc sc N N' ix = true) (hi : PI X tg iter wi)
 (hb:∀b:CB,PG (cxC X osc sc N' b) tg (g b)/\PTs (cxC X osc sc N' b) ifs (tt b)/\PE (cxC X osc sc N' b) elt (te b)) (gk:∀b:CB,GK (RU ix) (g b))
 (hs:∀x,foldedSetIterable iter X.env x=pure x:=by intro _;rfl):PE X (.ListComp elt [⟨tg,iter,ifs,0⟩] sc pos) (tLC ix wi g tt te):=by
 subst hN;have cs:=CS.of hcs;intro pins s σ H Q I h;rw [eval_ListComp];have hcl:=NG (bD I cs ho);refine AD9 (use:=none) rfl hs hcl cs.kind cs.names (thn (hi pins s σ H _ I h) fun v s1 h1=>thn h1 fun itv s2 h2=> ?_);obtain ⟨it,fp,tn,J,H2,e,I2,T,st2,f2,rd⟩:=h2;subst e;refine FD ?_;refine JW ?_;have hb':=hb ⟨s2.heap.objs.size+1,s2,H2,fp ++ [s2.heap.objs.size]⟩
 have rb:=UC (scope:=sc) (pos:=pos) (iter:=iter) (R:=compPost (model X.prog X.w) X.A X.xe none (EP X pins σ Q) (.ref s2.heap.objs.size) (s2.heap.objs.size+1)) I2 cs ho hc T st2 f2 hb'.1 (gk _) hb'.2.1 hb'.2.2 (rd _) (fun ys H' s' B q=>by
  obtain ⟨m,hm⟩:=B.ns;refine ⟨m,hm,fun h' hsb=> ?_⟩;refine ⟨.ref s2.heap.objs.size,upd H' s2.heap.objs.size (.lst ys),?_,rfl,q⟩;exact B.inv.turned (it:=s2.heap.objs.size+1) (fun b o hb e=>hsb.extBut b o hb e) B.cfree B.cl (.inr B.cn) B.cc B.cp)
 have sz:(s2.heap.push IX).objs.size=s2.heap.objs.size+1:=D4 ..;show codeAny _ _ (.compStart _ 0 (.ref it) (.ref s2.heap.objs.size) {newEnv sc (s2.heap.push IX).objs.size X.env.globals (cellsFrom ((s2.heap.push IX).objs.size+1) sc.names (HV X.env.cells sc.names [])) X.env.qual none .none (some X.env) builtinsNs with scope:=relabel sc X.env}) (compPost _ _ _ none _ (.ref s2.heap.objs.size) (s2.heap.push IX).objs.size) _;rw [sz,TN,ho];exact rb
def wA(i:Nat)(t:TE):TS:=fun D σ H=>t σ H fun v H1=>D.nx (σ.set i (some v)) H1
theorem tN {tg elt iter : Expr} {ifs : List Expr} {pos py spos : Pos} {wi : TI} {g : CB -> TG} {tt : CB -> TT} {te : CB -> TE} {i : Nat} {y : Str} (hnd : X.N.Nodup) (hi' : X.N[i]? = some y) (hy : X.env.scope.names.lookup y = some .local)
 (hsw:swapsWith (.ListComp elt [⟨tg,iter,ifs,0⟩] sc pos) (some (.Name y py)) spos.line X.env=pure true)
 (hc:X.calm=true) (ho:X.env.scope=osc) {N:List Str} (hN:X.N=N) (hcs:iB osc sc N N' ix=true) (hi:PI X tg iter wi)
 (hb:∀b:CB,PG (cxC X osc sc N' b) tg (g b)/\PTs (cxC X osc sc N' b) ifs (tt b)/\PE (cxC X osc sc N' b) elt (te b)) (gk:∀b:CB,GK (RU ix) (g b))
 (hs:∀x,foldedSetIterable iter X.env x=pure x:=by intro _;rfl):PS X (.Assign [.Name y py] (.ListComp elt [⟨tg,iter,ifs,0⟩] sc pos) spos) (wA i (tLC ix wi g tt te)):=by
 have hN':=hN;subst hN;have cs:=CS.of hcs;intro pins s σ H D I h;rw [exec_Assign_Name_used _ _ _ _ hsw];have hcl:=NG (bD I cs ho);refine A7 (AD7 (A7 ?_));show wpAny _ X.A (do let _ <-comprehension (.ListComp elt [⟨tg,iter,ifs,0⟩] sc pos) sc X.env _ (newList []) false (eval iter X.env) (some (assign (.Name y py) X.env))) _ _ s
 refine A7 (HF (AD9 (use:=some (assign (.Name y py) X.env)) (Q:=fun _ s'=>SP X pins D .next s') rfl hs hcl cs.kind cs.names
  (thn (hi pins s σ H _ I h) fun v s1 h1=>thn h1 fun itv s2 h2=> ?_)) (fun _ s' hq=>AS (AS hq)) fun _ _ e=>e)
 obtain ⟨it,fp,tn,J,H2,e,I2,T,st2,f2,rd⟩:=h2;subst e;refine FD ?_;refine JW ?_;have hb':=hb ⟨s2.heap.objs.size+1,s2,H2,fp ++ [s2.heap.objs.size]⟩
 have rb:=UC (scope:=sc) (pos:=pos) (iter:=iter) (R:=compPost (model X.prog X.w) X.A X.xe (some (assign (.Name y py) X.env)) (fun _ s'=>SP X pins D .next s') (.ref s2.heap.objs.size) (s2.heap.objs.size+1)) I2 cs ho hc T st2 f2 hb'.1 (gk _) hb'.2.1 hb'.2.2 (rd _) (fun ys H' s' B q=>by
  show wpAny _ X.A (assign (.Name y py) X.env (.ref s2.heap.objs.size)) _ _ s';refine wpAny_assign_Name (UK (v:= .ref s2.heap.objs.size) B.inv hnd hi' (.inl hy) rfl (fun s'' I'' ⟨a,sb,ha⟩ => ?_) (.inr hy))
  have hne:s2.heap.objs.size+1≠a:=by
   rcases ha with ha | ha
   . rw [ha];exact B.cl
   . exact (B.cc y a ha).symm
  obtain ⟨m,hm⟩:=B.ns;refine ⟨m,hm.sameBut sb hne,fun h' hsb=> ?_⟩;exact ⟨_,_,I''.turned (it:=s2.heap.objs.size+1) (fun b o hb e=>hsb.extBut b o hb e) B.cfree B.cl (.inr B.cn) B.cc B.cp,q⟩)
 have sz:(s2.heap.push IX).objs.size=s2.heap.objs.size+1:=D4 ..;show codeAny _ _ (.compStart _ 0 (.ref it) (.ref s2.heap.objs.size) {newEnv sc (s2.heap.push IX).objs.size X.env.globals (cellsFrom ((s2.heap.push IX).objs.size+1) sc.names (HV X.env.cells sc.names [])) X.env.qual none .none (some X.env) builtinsNs with scope:=relabel sc X.env}) (compPost _ _ _ _ _ (.ref s2.heap.objs.size) (s2.heap.push IX).objs.size) _;rw [sz,TN,ho];exact rb
end
end Tf
namespace Tf
open PySem PySem.Spec PyProof.Rows L2
def Itz(K:PySem.W.Frag)(a b:Addr):It:=
 ⟨fun i H=>∃xs ys x y,SqL K H a xs/\SqL K H b ys/\xs[i]? = some x/\ys[i]? = some y,
  fun i H v H'=>∃p x y,H p=none/\v = .ref p/\H'=upd H p (.tup [x,y])/\(∀xs,SqL K H a xs->xs[i]? = some x)/\(∀ys,SqL K H b ys->ys[i]? = some y),
  fun i H=>∃xs ys,SqL K H a xs/\SqL K H b ys/\(xs.length<=i\/ys.length<=i)⟩
def A73(z TI TO i1 i2 l1 l2:Addr)(i:Nat)(h:Heap):Prop:=IsZip h z TI TO .none/\IsPair h TI (.ref i1) (.ref i2)/\(∃a b,IsPair h TO a b)/\h.IsListIter i1 l1 i/\h.IsListIter i2 l2 i
theorem ZJ {P : Program} {w : World} {K : PySem.W.Frag} {elts : List Expr} {k : Nat} {pos : Pos} {z TI TO i1 i2 l1 l2 : Addr} (D : ZipApart z TI TO i1 i2 l1 l2) :
 Turn P w K (.Tuple elts k pos) (Itz K l1 l2) [z,TI,TO,i1,i2] z (A73 z TI TO i1 i2 l1 l2) where
 mem:=by simp
 obj:=fun i h st b hb=>by
  obtain ⟨h1,h2,⟨a,c,h3⟩,⟨o4,h4,_,d4⟩,⟨o5,h5,_,d5⟩⟩:=st;simp only [B7,BO,FJ] at hb
  rcases hb with rfl | rfl | rfl | rfl | rfl
  . exact ⟨_,h1,fun v e=>(nomatch e)⟩
  . exact ⟨_,h2,fun v e=>(nomatch e)⟩
  . exact ⟨_,h3,fun v e=>(nomatch e)⟩
  . exact ⟨_,h4,fun v e=>by rw [d4] at e;cases e⟩
  . exact ⟨_,h5,fun v e=>by rw [d5] at e;cases e⟩
 keep:=fun i h h' st kk=>by
  obtain ⟨h1,h2,⟨a,c,h3⟩,h4,h5⟩:=st;exact ⟨kk z (by simp) _ h1,kk TI (by simp) _ h2,⟨a,c,kk TO (by simp) _ h3⟩,h4.at fun o e=>kk i1 (by simp) o e,h5.at fun o e=>kk i2 (by simp) o e⟩
 item:=by
  intro X hP hw hK hc i pins s σ H E I hf st hg;subst hP hw hK;obtain ⟨h1,h2,⟨a,c,h3⟩,h4,h5⟩:=st;obtain ⟨xs,ys,x,y,q1,q2,hx,hy⟩:=hg;obtain ⟨its,rv,p,hz⟩:=I.list q1;obtain ⟨jts,rw',p',hz'⟩:=I.list q2;obtain ⟨u,hu,ru⟩:=rv.get hx;obtain ⟨u',hu',ru'⟩:=rw'.get hy;have ltS:∀ {h:Heap} {b:Addr} {o:Obj},h.get? b=some o -> @LT.lt Nat _ b h.objs.size:=fun e=>AV e;refine wpAny_pyNext_zip_item D h1 h2 h3 h4 h5 p.isList p'.isList (x:=u) (y:=u') (by simpa using hu) (by simpa using hu') fun h' a1 a2 a3 a4 a5 a6 hk=> ?_;refine ⟨_,rfl,AD2 a1 fun h'' a1' sb=> ?_⟩;have ch:∀b ∈ [z,TI,TO,i1,i2],H b=none:=fun b hb=>(hf b hb).1
  have kk:∀b o,b ∉ [z,TO,i1,i2]->s.heap.get? b=some o->h''.get? b=some o:=fun b o hb e=>by
   simp only [B7,BO,FJ,not_or] at hb
   exact sb.extBut b o hb.1 (hk b o hb.1 hb.2.1 hb.2.2.1 hb.2.2.2 e)
  have eT:h''.get? s.heap.objs.size=some {cls:= .type "tuple",data:= .seq #[u,u']}:=sb.extBut _ _ (fun e=>by have l:=ltS h1;rw [<-e] at l;omega) a5
  have sub:∀b,b ∈ [z,TO,i1,i2]->b ∈ [z,TI,TO,i1,i2]:=fun b hb=>by
   simp only [B7,BO,FJ] at hb ⊢
   rcases hb with r | r | r | r
   . exact .inl r
   . exact .inr (.inr (.inl r))
   . exact .inr (.inr (.inr (.inl r)))
   . exact .inr (.inr (.inr (.inr r)))
  have nT:H s.heap.objs.size=none:=I.hok.fresh (A8 _)
  have hok1 : HOk X.prog X.w H h'' := fun b o e => (I.hok b o e).stay (fun d v hd q => kk d v (fun hm => by
   have n:=ch d (sub d hm);rcases hd with hd | hd
   . rw [hd,e] at n;cases n
   . rw [hd] at n;cases n) q) (fun _ q=>q) fun _ _ q=>q
  have hok2:HOk X.prog X.w (upd H s.heap.objs.size (.tup [x,y])) h'':=VE hok1 nT ⟨by show 2<=sizeLine;decide,[u,u'], .cons ru (.cons ru' .nil),⟨_,eT,rfl,_,rfl⟩⟩
  have un:Un (frs X.stack) [z,TO,i1,i2] H (upd H s.heap.objs.size (.tup [x,y])) s.heap h'':=by
   refine ⟨fun b o e _ _ hx=>kk b o hx e,fun b o e _ _ hx=>⟨o.slots,kk b o hx e⟩,fun b o e n _=> ?_,fun b o e hx=>⟨o,kk b o hx e⟩,fun b zs e=> ?_,fun b o v e=> ?_,fun b ps e=>⟨#[],?_⟩⟩
   . have l:=ltS e;rw [BQ (by intro q;subst q;omega)];exact n
   . rw [BQ (BY e nT)];exact e
   . rw [BQ (BY e nT)];exact e
   . rw [BQ (BY e nT)];simpa using e
  have I2:Inv X pins σ (upd H s.heap.objs.size (.tup [x,y])) {s with heap:=h'' }:=I.call' rfl un hok2 I.bare fun b hb=>by
   obtain ⟨f0,f1,f2,f3,f4,f5⟩:=hf b (sub b hb);exact ⟨f3,f1,f4,f5⟩
  refine ⟨.ref s.heap.objs.size,_,I2,rfl,⟨s.heap.objs.size,x,y,nT,rfl,rfl,fun zs hq=> ?_,fun zs hq=> ?_⟩,⟨a1',?_,⟨_,_,sb.extBut _ _ D.TOz a2⟩,a3.extBut sb.extBut D.i1z,a4.extBut sb.extBut D.i2z⟩,fun b hb=> ?_⟩
  . rw [I.list_inj hq q1];exact hx
  . rw [I.list_inj hq q2];exact hy
  . exact sb.extBut _ _ D.TIz (hk TI _ D.TIz D.TITO D.TIi1 D.TIi2 h2)
  . have n:=ch b hb
    obtain ⟨o,e⟩:∃o,s.heap.get? b=some o:=by
     simp only [B7,BO,FJ] at hb
     rcases hb with rfl | rfl | rfl | rfl | rfl
     . exact ⟨_,h1⟩
     . exact ⟨_,h2⟩
     . exact ⟨_,h3⟩
     . obtain ⟨o,e,_⟩:=h4;exact ⟨o,e⟩
     . obtain ⟨o,e,_⟩:=h5;exact ⟨o,e⟩
    have l:=ltS e;rw [BQ (by intro q;subst q;omega)];exact n
 done:=by
  intro X hP hw hK hc i pins s σ H E I hf st hg;subst hP hw hK;obtain ⟨h1,h2,⟨a,c,h3⟩,h4,h5⟩:=st;obtain ⟨xs,ys,q1,q2,he⟩:=hg;obtain ⟨its,rv,p,hz⟩:=I.list q1;obtain ⟨jts,rw',p',hz'⟩:=I.list q2;have l1:=rv.length;have l2:=rw'.length
  refine wpAny_pyNext_zip_end (I.ok.hd hc) D h1 h2 h3 h4 h5 p.isList p'.isList (by rcases he with e | e; · left; simp; omega
                                                                                   . right;simp;omega) fun h' hk=>⟨rfl,?_⟩
  have ch:∀b ∈ [z,TI,TO,i1,i2],H b=none:=fun b hb=>(hf b hb).1
  have sub:∀b,b ∈ [z,TO,i1,i2]->b ∈ [z,TI,TO,i1,i2]:=fun b hb=>by
   simp only [B7,BO,FJ] at hb ⊢
   rcases hb with r | r | r | r
   . exact .inl r
   . exact .inr (.inr (.inl r))
   . exact .inr (.inr (.inr (.inl r)))
   . exact .inr (.inr (.inr (.inr r)))
  have kk:∀b o,b ∉ [z,TO,i1,i2]->s.heap.get? b=some o->h'.get? b=some o:=fun b o hb e=>by
   simp only [B7,BO,FJ,not_or] at hb
   exact hk b o hb.1 hb.2.1 hb.2.2.1 hb.2.2.2 e
  have hok1 : HOk X.prog X.w H h' := fun b o e => (I.hok b o e).stay (fun d v hd q => kk d v (fun hm => by
   have n:=ch d (sub d hm);rcases hd with hd | hd
   . rw [hd,e] at n;cases n
   . rw [hd] at n;cases n) q) (fun _ q=>q) fun _ _ q=>q
  have un:Un (frs X.stack) [z,TO,i1,i2] H H s.heap h' :=
   ⟨fun b o e _ _ hx=>kk b o hx e,fun b o e _ _ hx=>⟨o.slots,kk b o hx e⟩,fun b o e n _=>n,fun b o e hx=>⟨o,kk b o hx e⟩,fun b zs e=>e,fun b o v e=>e,fun b ps e=>⟨#[],by simpa using e⟩⟩
  exact I.call' rfl un hok1 I.bare fun b hb=>by
   obtain ⟨f0,f1,f2,f3,f4,f5⟩:=hf b (sub b hb);exact ⟨f3,f1,f4,f5⟩
 self:=fun _ _ _ _ _ st h=>LL st.1 h
section
variable {X:Cx}
def A95(K:PySem.W.Frag)(ta:TA):TI:=fun σ H R=>ta σ H fun vs H1=>∃l1 l2,vs = [.ref l1, .ref l2]/\(∃xs,SqL K H1 l1 xs)/\(∃ys,SqL K H1 l2 ys)/\R (Itz K l1 l2) H1
theorem zV {a b : Expr} {ta : TA} {elts : List Expr} {k : Nat} {tp p pos : Pos} (hg : Gl X "zip") (hm : X.mg "zip" = none) (ha : PA X [a, b] ta) (hs : starEach [a, b] X.env = [(false, eval a X.env), (false, eval b X.env)] := by rfl) (hs2 : starEach [b] X.env = [(false, eval b X.env)] := by rfl) :
 PI X (.Tuple elts k tp) (.Call (.Name "zip" p) [a,b] [] pos) (A95 X.K ta):=by
 intro pins s σ H R I h;refine Call_ (HS I hg hm kS (BD (thn (ha pos pins s σ H _ I h) fun us s1 ⟨vs,H1,I1,r1,q1⟩ => ?_) (by rw [hs,hs2]) (by rw [hs2];rfl)));obtain ⟨l1,l2,e,⟨xs,q1⟩,⟨ys,q2⟩,q⟩:=q1;subst e;obtain ⟨u,w',rfl,ru,rw'⟩:=w6 r1
 cases (show u=Value.ref l1 from ru)
 cases (show w'=Value.ref l2 from rw')
 obtain ⟨its,rv,p1,hz⟩:=I1.list q1;obtain ⟨jts,rv',p2,hz'⟩:=I1.list q2;have lt1:l1<s1.heap.objs.size:=by obtain ⟨o,n,e,_⟩:=p1;exact AV e
 have lt2:l2<s1.heap.objs.size:=by obtain ⟨o,n,e,_⟩:=p2;exact AV e
 refine call_zip_2 p1.isList p2.isList fun h' a1 a2 a3 a4 a5 a6 hk=> ?_;refine LL (s:={s1 with heap:=h' }) a1 ?_;refine ⟨_,[s1.heap.objs.size+4,s1.heap.objs.size+2,s1.heap.objs.size+3,s1.heap.objs.size,s1.heap.objs.size+1],_,_,H1,rfl,I1.kept (t':=s1.toks) hk,ZJ (zipApart_new lt1 lt2),⟨a1,a2,⟨_,_,a3⟩,a4,a5⟩,fun b hb=> ?_,q⟩
 have hb:s1.heap.objs.size<=b:=by
  simp only [B7,BO,FJ] at hb
  rcases hb with rfl | rfl | rfl | rfl | rfl
  . exact CZ _ _
  . exact CZ _ _
  . exact CZ _ _
  . exact A8 _
  . exact CZ _ _
 exact I1.fpOk hb (I1.hok.fresh hb)
def Itd(hi:Int)(n:Nat):It:=⟨fun i _=>i<n,fun i H x H'=>H'=H/\x = .int (hi - i),fun i _=>n<=i⟩
theorem iC{P:Program}{w:World}{K:PySem.W.Frag}{tg:Expr}(it:Addr)(hi:Int)(n:Nat):Turn P w K tg (Itd hi n) [it] it (fun i h=>IsRangeIter h it (hi+(i:Nat)*(-1)) ((n:Int) - (i:Nat)) (-1)) where
 mem:=by simp
 obj:=fun i h st b hb=>by
  have e:b=it:=by simpa using hb
  subst e
  exact ⟨_,st,fun v z=>by
   have z':Data.fields _=Data.cell v:=z
   cases z'⟩
 keep:=fun i h h' st k=>k it (by simp) _ st
 item:=by
  intro X hP hw hK hc i pins s σ H E I hf st hg;subst hP hw hK;obtain ⟨f0,f1,f2,f3,f4,f5⟩:=hf it (by simp);have W:=Walks.range (prog:=X.prog) (w:=X.w) (I.ok.hd hc) it hi (-1) n;refine W.item i s _ _ hg st fun v h' tk hv st' kk=> ?_;obtain ⟨t,rfl⟩:=hv;have I1:Inv X pins σ H {s with heap:=h',toks:=tk}:=I.turned (fun b o hb e=>kk b o (by simpa using hb) e) f0 f1 f3 f4 f5;refine ⟨_,rfl,XI (s:={s with heap:=h',toks:=tk}) (n:= "range_iterator") st' rfl rfl (by decide) ⟨.int (hi - i),H,I1,⟨t,?_⟩,⟨rfl,rfl⟩,st',fun b hb=>(hf b hb).1⟩⟩;have:hi+(i:Int)*(-1)=hi - i:=by omega
  rw [this]
 done:=by
  intro X hP hw hK hc i pins s σ H E I hf st hg;subst hP hw hK;obtain ⟨f0,f1,f2,f3,f4,f5⟩:=hf it (by simp);exact AG1 (I.ok.hd hc) st (by have:n<=i:=hg;omega) fun h' eb=>⟨rfl,I.turned (t':=s.toks) (fun b o hb e=>eb b o hb e) f0 f1 f3 f4 f5⟩
 self:=fun _ _ _ _ _ st h=>AG2 st h
theorem aX{a b:Int}(ha : -(2 ^ 62)<=a)(ha':a<2 ^ 62)(hb : -(2 ^ 62)<=b)(hb':b<2 ^ 62):Builtin.Range.small a b (-1)=true:=by
 unfold Builtin.Range.small;unfold Builtin.Range.rangeSize;simp only [Builtin.Range.rangeFitsLong,Bool.and_eq_true,Bool.or_eq_true,decide_eq_true_eq,beq_iff_eq,show ¬((-1:Int)>0) by decide,if_false,show -(-1:Int)=1 by decide,Int.ediv_one]
 split <;> omega
def vX(ta:TA):TI:=fun σ H R=>ta σ H fun vs H1=>∃i j:Int,vs = [.int i, .int j, .int (-1)]/\(-(2 ^ 62)<=i/\i<2 ^ 62 /\ -(2 ^ 62)<=j/\j<2 ^ 62)/\R (Itd i (i - j).toNat) H1
theorem gC {tg : Expr} {a b c : Expr} {ta : TA} {p pos : Pos} (hg : Gl X "range") (hm : X.mg "range" = none) (ha : PA X [a, b, c] ta) (hs : starEach [a, b, c] X.env = (false, eval a X.env) :: starEach [b, c] X.env := by rfl) (hs2 : (backTo pos (starEach [b, c] X.env)).any (·.1) = false := by rfl) :
 PI X tg (.Call (.Name "range" p) [a,b,c] [] pos) (vX ta):=by
 intro pins s σ H R I h;refine Call_ (HS I hg hm SK (BD (thn (ha pos pins s σ H _ I h) fun us s1 ⟨vs,H1,I1,r1,q1⟩ => ?_) hs hs2));obtain ⟨i,j,e,⟨q1,q2,q3,q4⟩,q⟩:=q1;subst e
 cases r1 with
 | cons r rr=>
  cases rr with
  | cons r' rr=>
   obtain ⟨u,rfl,t'',rfl⟩:=LD rr;obtain ⟨t,rfl⟩:=r;obtain ⟨t',rfl⟩:=r';refine call_range_3 (by decide) ?_ (.inl (pQ (by decide +kernel)));refine wpAny_pyIter_range (AH3 ..) (aX q1 q2 q3 q4) ?_;have I2:Inv X pins σ H1 {s1 with heap:=s1.heap.push {cls:= .type "range",data:= .fields #[.int i t, .int j t', .int (-1) t'']},toks:=s1.toks}:=I1.kept fun b o e=>A3 _ e
   refine ⟨(s1.heap.push {cls:= .type "range",data:= .fields #[.int i t, .int j t', .int (-1) t'']}).objs.size,[(s1.heap.push {cls:= .type "range",data:= .fields #[.int i t, .int j t', .int (-1) t'']}).objs.size],_,_,H1,rfl,
    I2.kept (t':=s1.toks) fun b o e=>A3 _ e,iC _ i (i - j).toNat,?_,fun b hb=> ?_,q⟩
   . have e1:i+((0:Nat):Int)*(-1)=i:=by simp
     have e2:(((i - j).toNat:Nat):Int) - ((0:Nat):Int)=Builtin.Range.rangeSize i j (-1):=by
      unfold Builtin.Range.rangeSize;rw [if_neg (by decide),show -(-1:Int)=1 by decide,Int.ediv_one]
      split <;> omega
     show IsRangeIter _ _ (i+((0:Nat):Int)*(-1)) ((((i - j).toNat:Nat):Int) - ((0:Nat):Int)) (-1);rw [e1,e2];exact AW _ rfl
   . have e:b=(s1.heap.push {cls:= .type "range",data:= .fields #[.int i t, .int j t', .int (-1) t'']}).objs.size:=by simpa using hb
     subst e;exact I2.fpOk (A8 _) (I2.hok.fresh (A8 _))
theorem OG(hc:X.calm=true):LF X (.builtin "sum") (fun xs H Q=>∃p ns,xs = [.ref p]/\SqL X.K H p (ns.map V.int)/\Q (.int (List.sum ns)) H):=by
 intro pins s σ H xs us Q I r h;obtain ⟨p,ns,rfl,hq,q⟩:=h;obtain ⟨u,rfl,ru⟩:=LD r
 cases (show u=Value.ref p from ru)
 obtain ⟨its,rv,pl,hz⟩:=I.list hq;have hi:=aP rv;obtain ⟨zs,ez⟩:=hi.allInts.items;have hl:s.heap.IsList p (intItems zs):=ez ▸ pl.isList
 have en:preSum (numAt zs) zs.size=ns.sum:=by
  rw [preSum_eq,CI (by simp)];have:=hi.numsOf;rw [<-this];have e2:its=(intItems zs).toList:=by rw [<-ez]
  rw [e2,nums_intItems]
 refine sum_intListG (I.ok.hd hc) hl fun h' tk t' hk=> ?_;rw [en];exact ⟨.int ns.sum,H,I.kept hk,⟨t',rfl⟩,q⟩
section
variable {K:PySem.W.Frag} {σ0:L2.St} {g:TG} {tt:TT} {te:TE} {H:Hp} {Q:VK}
theorem Reps.snoc{vs:List V}{ds:List PyData}{v:V}{d:PyData}(h:Reps K H vs ds)(k:Rep K H v d):Reps K H (vs ++ [v]) (ds ++ [d]):=by
 induction vs generalizing ds with
 | nil=>cases h;exact .cons k .nil
 | cons x xs ih=>cases h with | cons a b=>exact .cons a (ih b)
theorem Reps.get:∀ {vs:List V} {ds:List PyData} {i:Nat} {d:PyData},Reps K H vs ds->ds[i]? = some d->∃v,vs[i]? = some v/\Rep K H v d
 | _,_,_,_, .nil,e=>by simp at e
 | _,_,0,_, .cons r _,e=>by simp at e;subst e;exact ⟨_,rfl,r⟩
 | _,_,i+1,d, .cons _ t,e=>by
  obtain ⟨u,h1,h2⟩:=Reps.get (i:=i) (d:=d) t (by simpa using e);exact ⟨u,by simpa using h1,h2⟩
end
end
end Tf
namespace Dm
open PySem PySem.Spec PyProof.Rows L2 Tf
inductive Sl where
 | val (d:PyData)
 | own (ds:List PyData)
 | dct (kvs:List (PyData×PyData))
def Sl.dat:Sl->PyData
 | .val d=>d
 | .own ds=> .list ds
 | .dct kvs=> .dict kvs
abbrev En:=List (Option Sl)
theorem i7{H0 H:Hp}{p:Addr}{o:HO}(h:Same H0 H):Same (upd H0 p o) (upd H p o):=fun b u e=>by
 by_cases hb:b=p
 . subst hb;rw [C9] at e ⊢;exact e
 . rw [BQ hb] at e ⊢;exact h b u e
def Mu:HO->Prop
 | .tup _=>False
 | _=>True
structure Ext (H0 H H0' H':Hp):Prop where
 s:Same H H'
 s0:Same H0 H0'
 s1:Same H0' H'
 own:∀a o,H a=some o->Mu o->H0 a=none->H0' a=none
theorem Ext.refl{H0 H:Hp}(h:Same H0 H):Ext H0 H H0 H:=⟨Same.refl _,Same.refl _,h,fun _ _ _ _ h=>h⟩
theorem Ext.trans{H0 H H1 J1 H2 J2:Hp}(a:Ext H0 H H1 J1)(b:Ext H1 J1 H2 J2):Ext H0 H H2 J2:=
 ⟨a.s.trans b.s,a.s0.trans b.s0,b.s1,fun x o h m h0=>b.own x o (a.s x o h) m (a.own x o h m h0)⟩
theorem Ext.chain{S0 HB H0 H H1 J1:Hp}(a:Ext S0 HB H0 H)(b:Ext H0 H H1 J1):Ext S0 HB H1 J1:=
 ⟨a.s.trans b.s,a.s0.trans b.s0,b.s1,fun x o h m h0=>b.own x o (a.s x o h) m (a.own x o h m h0)⟩
theorem Ext.rebase{S0 HB H0 H:Hp}(a:Ext S0 HB H0 H):Ext H0 HB H0 H:=⟨a.s,Same.refl _,a.s1,fun _ _ _ _ h=>h⟩
theorem Ext.unbase{S0 HB H0 H H1 J1:Hp}(a:Ext S0 HB H0 H)(b:Ext H0 HB H1 J1):Ext S0 HB H1 J1:=
 ⟨b.s,a.s0.trans b.s0,b.s1,fun x o h m h0=>b.own x o h m (a.own x o h m h0)⟩
theorem Ext.alloc{H0 H:Hp}{p:Addr}(h:Same H0 H)(hp:H p=none)(o:HO):Ext H0 H H0 (upd H p o) :=
 ⟨Same.upd hp o,Same.refl _,h.trans (Same.upd hp o),fun _ _ _ _ h=>h⟩
theorem Ext.allocF{H0 H:Hp}{p:Addr}(h:Same H0 H)(hp:H p=none)(o:HO):Ext H0 H (upd H0 p o) (upd H p o) :=
 ⟨Same.upd hp o,Same.upd (h.free hp) o,i7 h,fun a o' ha _ h0=>by rw [BQ (BY ha hp)];exact h0⟩
section
variable {K:PySem.W.Frag}
def DctR(K:PySem.W.Frag)(H0:Hp)(t:List (List Key×V))(kvs:List (PyData×PyData)):Prop:=∃(ks:List (List Key)) (xs:List V) (ds:List PyData),t=ks.zip xs/\ks.length=xs.length/\Reps K H0 xs ds/\kvs=(ks.map A32).zip ds
theorem DctR.same{H0 H0':Hp}{t:List (List Key×V)}{kvs:List (PyData×PyData)}(s:Same H0 H0')(h:DctR K H0 t kvs):DctR K H0' t kvs:=by
 obtain ⟨ks,xs,ds,e1,e2,e3,e4⟩:=h;exact ⟨ks,xs,ds,e1,e2,Reps.same s e3,e4⟩
theorem DctR.rep{H:Hp}{a:Addr}{t:List (List Key×V)}{kvs:List (PyData×PyData)}(h:DctR K H t kvs)(e:H a=some (.dT t)):Rep K H (.ref a) (.dict kvs):=by
 obtain ⟨ks,xs,ds,rfl,e2,e3,rfl⟩:=h;exact .dict (.inl e) e2 e3
def SlP(K:PySem.W.Frag)(H0 H:Hp)(v:V):Sl->Prop
 | .val d=>Rep K H0 v d
 | .own ds=>∃a vs,v = .ref a/\H a=some (.lst vs)/\Reps K H0 vs ds
 | .dct kvs=>∃a t,v = .ref a/\H a=some (.dT t)/\DctR K H0 t kvs
def SlH(K:PySem.W.Frag)(HB H0 H:Hp)(v:V):Sl->Prop
 | .val d=>Rep K H0 v d
 | .own ds=>∃a vs,v = .ref a/\HB a=none/\H0 a=none/\H a=some (.lst vs)/\Reps K H0 vs ds
 | .dct kvs=>∃a t,v = .ref a/\HB a=none/\H0 a=none/\H a=some (.dT t)/\DctR K H0 t kvs
theorem SlH.p{HB H0 H:Hp}{v:V}:∀ {s:Sl},SlH K HB H0 H v s->SlP K H0 H v s
 | .val _,h=>h
 | .own _,⟨a,vs,e,_,_,h1,h2⟩=>⟨a,vs,e,h1,h2⟩
 | .dct _,⟨a,vs,e,_,_,h1,h2⟩=>⟨a,vs,e,h1,h2⟩
theorem SlH.base{HB HB' H0 H:Hp}{v:V}(s:Same HB HB'):∀ {r:Sl},SlH K HB' H0 H v r->SlH K HB H0 H v r
 | .val _,h=>h
 | .own _,⟨a,vs,e,h0,h1,h2,h3⟩=>⟨a,vs,e,s.free h0,h1,h2,h3⟩
 | .dct _,⟨a,vs,e,h0,h1,h2,h3⟩=>⟨a,vs,e,s.free h0,h1,h2,h3⟩
theorem SlH.ext{HB H0 H H0' H':Hp}{v:V}(x:Ext H0 H H0' H'):∀ {r:Sl},SlH K HB H0 H v r->SlH K HB H0' H' v r
 | .val _,h=>Rep.same x.s0 h
 | .own _,⟨a,vs,e,h0,h1,h2,h3⟩=>⟨a,vs,e,h0,x.own a _ h2 E4 h1,x.s _ _ h2,Reps.same x.s0 h3⟩
 | .dct _,⟨a,vs,e,h0,h1,h2,h3⟩=>⟨a,vs,e,h0,x.own a _ h2 E4 h1,x.s _ _ h2,h3.same x.s0⟩
theorem SlP.ext{H0 H H0' H':Hp}{v:V}(x:Ext H0 H H0' H'):∀ {r:Sl},SlP K H0 H v r->SlP K H0' H' v r
 | .val _,h=>Rep.same x.s0 h
 | .own _,⟨a,vs,e,h2,h3⟩=>⟨a,vs,e,x.s _ _ h2,Reps.same x.s0 h3⟩
 | .dct _,⟨a,vs,e,h2,h3⟩=>⟨a,vs,e,x.s _ _ h2,h3.same x.s0⟩
theorem SlP.rep{H0 H:Hp}{v:V}(s:Same H0 H):∀ {r:Sl},SlP K H0 H v r->Rep K H v r.dat
 | .val _,h=>Rep.same s h
 | .own _,⟨a,vs,e,h2,h3⟩=>by subst e;exact .list (SqL.of h2) (Reps.same s h3)
 | .dct _,⟨a,vs,e,h2,h3⟩=>by subst e;exact (h3.same s).rep h2
theorem SlP.lst{H0 H:Hp}{v:V}{ds:List PyData}(s:Same H0 H):∀ {r:Sl},SlP K H0 H v r->r.dat = .list ds->∃a vs,v = .ref a/\SqL K H a vs/\Reps K H0 vs ds
 | .val _,h,e=>by
  cases h with
  | list h1 h2=>cases e;exact ⟨_,_,rfl,s.seq h1,h2⟩
  | _=>cases e
 | .own _,⟨a,vs,e,h2,h3⟩,e2=>by cases e2;exact ⟨a,vs,e,SqL.of h2,h3⟩
 | .dct _,_,e2=>by cases e2
theorem SlP.tup{H0 H:Hp}{v:V}{ds:List PyData}:∀ {r:Sl},SlP K H0 H v r->r.dat = .tuple ds->∃a vs,v = .ref a/\SqT K H0 a vs/\Reps K H0 vs ds
 | .val _,h,e=>by
  cases h with
  | tuple h1 h2=>cases e;exact ⟨_,_,rfl,h1,h2⟩
  | _=>cases e
 | .own _,_,e=>by cases e
 | .dct _,_,e=>by cases e
theorem SlP.int{H0 H:Hp}{v:V}{i:Int}(h:SlP K H0 H v (.val (.int i))):v = .int i:=by cases (show Rep K H0 v (.int i) from h);rfl
theorem SlP.bool{H0 H:Hp}{v:V}{i:Bool}(h:SlP K H0 H v (.val (.bool i))):v = .bl i:=by cases (show Rep K H0 v (.bool i) from h);rfl
theorem SlP.none{H0 H:Hp}{v:V}(h:SlP K H0 H v (.val .none)):v = .non:=by cases (show Rep K H0 v .none from h);rfl
theorem rV{H:Hp}{v:V}{d:PyData}(h:Rep K H v d):v = .non↔d = .none:=by
 cases h <;> simp
structure ER (K:PySem.W.Frag) (HB H0 H:Hp) (σ:L2.St) (ρ:En):Prop where
 len:σ.length=ρ.length
 get:∀(i:Nat) s,ρ[i]? = some (some s)->∃v,σ[i]? = some (some v)/\SlH K HB H0 H v s
 apart:∀(i j:Nat) a ds es,i≠j->ρ[i]? = some (some (.own ds))->ρ[j]? = some (some (.own es))->σ[i]? = some (some (.ref a))->σ[j]? ≠ some (some (.ref a))
theorem ER.ext{HB H0 H H0' H':Hp}{σ:L2.St}{ρ:En}(x:Ext H0 H H0' H')(e:ER K HB H0 H σ ρ):ER K HB H0' H' σ ρ:=
 ⟨e.len,fun i s h=>by obtain ⟨v,h1,h2⟩:=e.get i s h;exact ⟨v,h1,h2.ext x⟩,e.apart⟩
structure Rl where
 r:Hp->Hp->Hp->L2.St->En->Prop
 slot:Nat->Prop
structure ST (R:Rl) (HB H0 H:Hp) (σ:L2.St) (ρ:En):Prop where
 r:R.r HB H0 H σ ρ
class RelOk (K:outParam PySem.W.Frag) (R:Rl):Prop where
 ext:∀ {HB H0 H H0' H':Hp} {σ:L2.St} {ρ:En},Ext H0 H H0' H'->R.r HB H0 H σ ρ->R.r HB H0' H' σ ρ
 get:∀ {HB H0 H:Hp} {σ:L2.St} {ρ:En} {i:Nat} {s:Sl},R.r HB H0 H σ ρ->R.slot i->ρ[i]? = some (some s)->∃v,σ[i]? = some (some v)/\SlH K HB H0 H v s
 set:∀ {HB H0 H H0' H':Hp} {σ:L2.St} {ρ:En} {i:Nat} {v:V} {s:Sl},R.r HB H0 H σ ρ->R.slot i->Ext H0 H H0' H'->Same HB H->SlH K H H0' H' v s->R.r HB H0' H' (σ.set i (some v)) (ρ.set i (some s))
 write:∀ {HB H0 H:Hp} {σ:L2.St} {ρ:En} {i:Nat} {a:Addr} {ds es:List PyData} {vs ys:List V},R.r HB H0 H σ ρ->R.slot i->ρ[i]? = some (some (.own ds))->σ[i]? = some (some (.ref a))->HB a=none->H0 a=none->H a=some (.lst vs)->Reps K H0 ys es->R.r HB H0 (upd H a (.lst ys)) σ (ρ.set i (some (.own es)))
 frz:∀ {S0 HB H0 H:Hp} {σ:L2.St} {ρ:En} {i:Nat} {ds:List PyData},R.r HB H0 H σ ρ->R.slot i->ρ[i]? = some (some (.own ds))->Ext S0 HB H0 H->∃H0',Ext S0 HB H0' H/\R.r HB H0' H σ (ρ.set i (some (.val (.list ds))))
theorem ST.ext{R:Rl} [RelOk K R] {HB H0 H H0' H':Hp} {σ:L2.St} {ρ:En} (x:Ext H0 H H0' H') (e:ST R HB H0 H σ ρ):ST R HB H0' H' σ ρ:=⟨RelOk.ext (K:=K) x e.r⟩
def PR(K:PySem.W.Frag):Rl:=⟨ER K,fun _=>True⟩
variable {R:Rl} [RelOk K R]
def RX{α:Type}(K:PySem.W.Frag)(R:Rl)(P:Hp->Hp->Hp->V->α->Prop)(te:TE)(f:En->Option α):Prop:=
 ∀(HB:Hp) (σ:L2.St) (ρ:En) (H0 H:Hp),Same H0 H->ST R HB H0 H σ ρ->∀r,f ρ=some r->∀Q:VK,(∀v H0' H',Ext H0 H H0' H'->P H H0' H' v r->Q v H')->te σ H Q
abbrev RE (K:PySem.W.Frag) (R:Rl):TE->(En->Option Sl)->Prop:=RX K R (fun H H0' H' v r=>SlH K H H0' H' v r)
abbrev RP (K:PySem.W.Frag) (R:Rl):TE->(En->Option Sl)->Prop:=RX K R (fun _ H0' H' v r=>SlP K H0' H' v r)
abbrev RV (K:PySem.W.Frag) (R:Rl):TE->(En->Option PyData)->Prop:=RX K R (fun _ H0' _ v d=>Rep K H0' v d)
def RT(K:PySem.W.Frag)(R:Rl)(tt:TT)(f:En->Option Bool):Prop:=
 ∀(HB:Hp) (σ:L2.St) (ρ:En) (H0 H:Hp),Same H0 H->ST R HB H0 H σ ρ->∀b,f ρ=some b->∀Q:Bool->Hp->Prop,(∀H0' H',Ext H0 H H0' H'->Q b H')->tt σ H Q
def RA(K:PySem.W.Frag)(R:Rl)(ta:TA)(f:En->Option (List PyData)):Prop:=
 ∀(HB:Hp) (σ:L2.St) (ρ:En) (H0 H:Hp),Same H0 H->ST R HB H0 H σ ρ->∀ds,f ρ=some ds->∀Q:List V->Hp->Prop,(∀vs H0' H',Ext H0 H H0' H'->Reps K H0' vs ds->Q vs H')->ta σ H Q
def RQ(K:PySem.W.Frag)(R:Rl)(ta:TA)(f:En->Option (List Sl)):Prop:=
 ∀(HB:Hp) (σ:L2.St) (ρ:En) (H0 H:Hp),Same H0 H->ST R HB H0 H σ ρ->∀ss,f ρ=some ss->∀Q:List V->Hp->Prop,(∀vs H0' H',Ext H0 H H0' H'->Paired (SlP K H0' H') vs ss->Q vs H')->ta σ H Q
theorem RE.rp{te:TE}{f:En->Option Sl}(h:RE K R te f):RP K R te f:=fun HB σ ρ H0 H s e r hr Q q=>h HB σ ρ H0 H s e r hr Q fun v H0' H' x p=>q v H0' H' x p.p
theorem eJ{H0 H H0' H':Hp}{a:Addr}{w:HO}(x:Ext H0 H H0' H')(hn:H a=none)(h1:H0' a=none)(h2:H' a=some w):Ext H0 H (upd H0' a w) H' :=
 ⟨x.s,x.s0.trans (Same.upd h1 _),fun b u e=>by
  by_cases hb:b=a
  . subst hb;rw [C9] at e;rw [h2];exact e
  . rw [BQ hb] at e;exact x.s1 b u e,fun b o hb m h0=>by
  rw [BQ (BY hb hn)];exact x.own b o hb m h0⟩
def mDat(f:En->Option Sl):En->Option PyData:=fun ρ=>(f ρ).map Sl.dat
theorem RE.rv{te:TE}{f:En->Option Sl}(h:RE K R te f):RV K R te (mDat f):=fun HB σ ρ H0 H s e d hd Q q=>by
 obtain ⟨r,hr,rfl⟩:=B0.mp hd;refine h HB σ ρ H0 H s e r hr Q fun v H0' H' x p=> ?_
 cases r with
 | val d=>exact q v H0' H' x p
 | own ds=>
  obtain ⟨a,vs,rfl,hn,h1,h2,h3⟩:=p
  exact q _ _ _ (eJ x hn h1 h2) (.list (SqL.of C9) (Reps.same (Same.upd h1 _) h3))
 | dct kvs=>
  obtain ⟨a,t,rfl,hn,h1,h2,h3⟩:=p;exact q _ _ _ (eJ x hn h1 h2) ((h3.same (Same.upd h1 _)).rep C9)
def mPk(i:Nat):En->Option Sl:=fun ρ=>(ρ[i]?).join
def mVar(i:Nat):En->Option Sl:=fun ρ=>match (ρ[i]?).join with
 | some (.val d)=>some (.val d)
 | _=>none
def mK(d:PyData):En->Option Sl:=fun _=>some (.val d)
theorem join_some{α:Type}{o:Option (Option α)}{a:α}(h:o.join=some a):o=some (some a):=by
 cases o with
 | none=>cases h
 | some b=>exact GM some h
theorem zH(i:Nat)(hs:R.slot i):RP K R (MY i) (mPk i):=fun HB σ ρ H0 H s e r hr Q q=>by
 obtain ⟨v,h1,h2⟩:=RelOk.get (K:=K) e.r hs (join_some hr);exact ⟨v,h1,q v H0 H (Ext.refl s) h2.p⟩
theorem xJ(i:Nat)(hs:R.slot i):RE K R (MY i) (mVar i):=fun HB σ ρ H0 H s e r hr Q q=>by
 unfold mVar at hr
 cases ej:(ρ[i]?).join with
 | none=>rw [ej] at hr;cases hr
 | some r' =>
  rw [ej] at hr
  cases r' with
  | own _=>cases hr
  | dct _=>cases hr
  | val d=>
   cases hr
   obtain ⟨v,h1,h2⟩:=RelOk.get (K:=K) e.r hs (join_some ej);exact ⟨v,h1,q v H0 H (Ext.refl s) h2⟩
theorem jW{v:V}{d:PyData}(h:∀H0:Hp,Rep K H0 v d):RE K R (tC v) (mK d):=fun HB σ ρ H0 H s e r hr Q q=>by
 cases hr
 exact q v H0 H (Ext.refl s) (h H0)
def OpD(K:PySem.W.Frag)(r:R2)(op:Sl->Sl->Option Sl):Prop:=
 ∀(H0 H:Hp) (x y:V) (sx sy z:Sl),Same H0 H->SlP K H0 H x sx->SlP K H0 H y sy->op sx sy=some z->∀Q:VK,(∀v H0' H',Ext H0 H H0' H'->SlH K H H0' H' v z->Q v H')->r x y H Q
def UnD(K:PySem.W.Frag)(r:V->Hp->VK->Prop)(op:Sl->Option Sl):Prop:=
 ∀(H0 H:Hp) (x:V) (sx z:Sl),Same H0 H->SlP K H0 H x sx->op sx=some z->∀Q:VK,(∀v H0' H',Ext H0 H H0' H'->SlH K H H0' H' v z->Q v H')->r x H Q
def mBin(op:Sl->Sl->Option Sl)(fa fb:En->Option Sl):En->Option Sl:=fun ρ=>(fa ρ).bind fun a=>(fb ρ).bind fun b=>op a b
def mUn(op:Sl->Option Sl)(fa:En->Option Sl):En->Option Sl:=fun ρ=>(fa ρ).bind op
theorem W8{r:R2}{op:Sl->Sl->Option Sl}{ta tb:TE}{fa fb:En->Option Sl}(ho:OpD K r op)(ha:RP K R ta fa)(hb:RP K R tb fb):RE K R (tOp r ta tb) (mBin op fa fb):=fun HB σ ρ H0 H s e z hz Q q=>by
 obtain ⟨x,hx,hz⟩:=A0.mp hz;obtain ⟨y,hy,hz⟩:=A0.mp hz;refine ha HB σ ρ H0 H s e x hx _ fun v H1 J1 x1 p1=> ?_;refine hb HB σ ρ H1 J1 x1.s1 (e.ext (K:=K) x1) y hy _ fun u H2 J2 x2 p2=> ?_;exact ho H2 J2 v u x y z x2.s1 (p1.ext x2) p2 hz Q fun w H3 J3 x3 p3=>q w H3 J3 ((x1.trans x2).trans x3) (p3.base (x1.trans x2).s)
theorem A78{r:V->Hp->VK->Prop}{op:Sl->Option Sl}{ta:TE}{fa:En->Option Sl}(ho:UnD K r op)(ha:RP K R ta fa):RE K R (tUn r ta) (mUn op fa):=fun HB σ ρ H0 H s e z hz Q q=>by
 obtain ⟨x,hx,hz⟩:=A0.mp hz;refine ha HB σ ρ H0 H s e x hx _ fun v H1 J1 x1 p1=> ?_;exact ho H1 J1 v x z x1.s1 p1 hz Q fun w H3 J3 x3 p3=>q w H3 J3 (x1.trans x3) (p3.base x1.s)
def iop(g:Int->Int->Int):Sl->Sl->Option Sl
 | .val (.int i), .val (.int j)=>some (.val (.int (g i j)))
 | _,_=>none
open Classical in
noncomputable def YI(C:Int->Int->Prop)(g:Int->Int->Int):Sl->Sl->Option Sl
 | .val (.int i), .val (.int j)=>if C i j then some (.val (.int (g i j))) else none
 | _,_=>none
def icmp(g:Int->Int->Bool):Sl->Sl->Option Sl
 | .val (.int i), .val (.int j)=>some (.val (.bool (g i j)))
 | _,_=>none
def iun(g:Int->Int):Sl->Option Sl
 | .val (.int i)=>some (.val (.int (g i)))
 | _=>none
theorem tZ{g:Int->Int->Int}:OpD K (rI0 fun i j=> .int (g i j)) (iop g):=fun H0 H x y sx sy z s px py hz Q q=>by
 unfold iop at hz
 split at hz
 . cases hz
   exact ⟨_,_,px.int,py.int,q _ _ _ (Ext.refl s) (.int _)⟩
 . cases hz
theorem TF{C:Int->Int->Prop}{g:Int->Int->Int}:OpD K (rI C fun i j=> .int (g i j)) (YI C g):=fun H0 H x y sx sy z s px py hz Q q=>by
 unfold YI at hz
 split at hz
 . split at hz
   . rename_i hc
     cases hz
     exact ⟨_,_,px.int,py.int,hc,q _ _ _ (Ext.refl s) (.int _)⟩
   . cases hz
 . cases hz
theorem SY{g:Int->Int->Bool}:OpD K (rI0 fun i j=> .bl (g i j)) (icmp g):=fun H0 H x y sx sy z s px py hz Q q=>by
 unfold icmp at hz
 split at hz
 . cases hz
   exact ⟨_,_,px.int,py.int,q _ _ _ (Ext.refl s) (.bool _)⟩
 . cases hz
theorem pV{g:Int->Int}:UnD K (rU fun i=> .int (g i)) (iun g):=fun H0 H x sx z s px hz Q q=>by
 unfold iun at hz
 split at hz
 . cases hz
   exact ⟨_,px.int,q _ _ _ (Ext.refl s) (.int _)⟩
 . cases hz
def eqD(a b:PyData):Option Bool:=if a.canLay0=true/\b.canLay0=true/\min a.depth b.depth<=60 then some (PyData.eqv a b) else none
def deq:Sl->Sl->Option Sl:=fun a b=>(eqD a.dat b.dat).map fun k=> .val (.bool k)
def dne:Sl->Sl->Option Sl:=fun a b=>(eqD a.dat b.dat).map fun k=> .val (.bool (!k))
theorem jA:OpD K (A63 K) deq:=fun H0 H x y sx sy z s px py hz Q q=>by
 obtain ⟨k,hk,rfl⟩:=Option.map_eq_some_iff.mp hz;unfold eqD at hk
 split at hk
 . rename_i hc
   cases hk
   exact ⟨_,_,px.rep s,py.rep s,hc.1,hc.2.1,hc.2.2,q _ _ _ (Ext.refl s) (.bool _)⟩
 . cases hk
theorem A03:OpD K (AC5 K) dne:=fun H0 H x y sx sy z s px py hz Q q=>by
 obtain ⟨k,hk,rfl⟩:=Option.map_eq_some_iff.mp hz;unfold eqD at hk
 split at hk
 . rename_i hc
   cases hk
   exact ⟨_,_,px.rep s,py.rep s,hc.1,hc.2.1,hc.2.2,q _ _ _ (Ext.refl s) (.bool _)⟩
 . cases hk
def isNone:PyData->Bool
 | .none=>true
 | _=>false
def disN:Sl->Sl->Option Sl
 | a, .val .none=>some (.val (.bool (isNone a.dat)))
 | _,_=>none
def disNN:Sl->Sl->Option Sl
 | a, .val .none=>some (.val (.bool (!isNone a.dat)))
 | _,_=>none
theorem gF{H0 H:Hp}{v:V}{r:Sl}(s:Same H0 H)(p:SlP K H0 H v r):decide (v = .non)=isNone r.dat:=by
 have h:=rV (p.rep s)
 cases e:r.dat <;> simp_all [isNone]
theorem rZ:OpD K (fun x y H Q=>y = .non/\Q (.bl (decide (x = .non))) H) disN:=fun H0 H x y sx sy z s px py hz Q q=>by
 unfold disN at hz
 split at hz
 . cases hz
   refine ⟨py.none,?_⟩;rw [gF s px];exact q _ _ _ (Ext.refl s) (.bool _)
 . cases hz
def dix:Sl->Sl->Option Sl
 | a, .val (.int i)=>match a.dat with
  | .list ds=>(atI ds i).map .val
  | .tuple ds=>(atI ds i).map .val
  | _=>none
 | _,_=>none
theorem Reps.atI{H:Hp}{vs:List V}{ds:List PyData}{i:Int}{d:PyData}(h:Reps K H vs ds)(e:atI ds i=some d):∃v,atI vs i=some v/\Rep K H v d:=by
 unfold L2.atI at e ⊢
 rw [h.length]
 cases ej:ixN ds.length i with
 | none=>rw [ej] at e;cases e
 | some j=>
  rw [ej] at e
  obtain ⟨v,h1,h2⟩:=Tf.Reps.get h (show ds[j]? = some d from e);exact ⟨v,h1,h2⟩
theorem A14:OpD K (rIx K) dix:=fun H0 H x y sx sy z s px py hz Q q=>by
 unfold dix at hz
 split at hz
 . split at hz
   . rename_i i ds hd;obtain ⟨d,he,rfl⟩:=B0.mp hz;obtain ⟨a,vs,rfl,h1,h2⟩:=px.lst s hd;obtain ⟨v,h3,h4⟩:=Reps.atI h2 he;exact .inl ⟨a,vs,_,v,rfl,py.int,h1,h3,q _ _ _ (Ext.refl s) h4⟩
   . rename_i i ds hd;obtain ⟨d,he,rfl⟩:=B0.mp hz;obtain ⟨a,vs,rfl,h1,h2⟩:=px.tup hd;obtain ⟨v,h3,h4⟩:=Reps.atI h2 he;exact .inr (.inl ⟨a,vs,_,v,rfl,py.int,s.seqT h1,h3,q _ _ _ (Ext.refl s) h4⟩)
   . cases hz
 . cases hz
end
end Dm
namespace Dm
open PySem PySem.Spec PyProof.Rows L2 Tf
section
variable {K:PySem.W.Frag} {R:Rl} [RelOk K R]
def mNil:En->Option (List PyData):=fun _=>some []
def mCons(f:En->Option Sl)(g:En->Option (List PyData)):En->Option (List PyData):=fun ρ=>(f ρ).bind fun a=>(g ρ).bind fun as=>some (a.dat::as)
theorem xE:RA K R tNil mNil:=fun HB σ ρ H0 H s e ds hd Q q=>by
 cases hd
 exact q [] H0 H (Ext.refl s) .nil
theorem u7{te:TE}{ta:TA}{f:En->Option Sl}{g:En->Option (List PyData)}(hf:RE K R te f)(hg:RA K R ta g):RA K R (UB te ta) (mCons f g):=fun HB σ ρ H0 H s e ds hd Q q=>by
 obtain ⟨a,ha,hd⟩:=A0.mp hd;obtain ⟨as,has,hd⟩:=A0.mp hd
 cases hd
 refine hf.rv HB σ ρ H0 H s e a.dat (by unfold mDat;rw [ha];rfl) _ fun v H1 J1 x1 p1=> ?_;exact hg HB σ ρ H1 J1 x1.s1 (e.ext (K:=K) x1) as has _ fun vs H2 J2 x2 p2=>q _ H2 J2 (x1.trans x2) (.cons (Rep.same x2.s0 p1) p2)
def mNilP:En->Option (List Sl):=fun _=>some []
def mConsP(f:En->Option Sl)(g:En->Option (List Sl)):En->Option (List Sl):=fun ρ=>(f ρ).bind fun a=>(g ρ).bind fun as=>some (a::as)
theorem A36:RQ K R tNil mNilP:=fun HB σ ρ H0 H s e ds hd Q q=>by
 cases hd
 exact q [] H0 H (Ext.refl s) .nil
theorem sZ{te:TE}{ta:TA}{f:En->Option Sl}{g:En->Option (List Sl)}(hf:RP K R te f)(hg:RQ K R ta g):RQ K R (UB te ta) (mConsP f g):=fun HB σ ρ H0 H s e ds hd Q q=>by
 obtain ⟨a,ha,hd⟩:=A0.mp hd;obtain ⟨as,has,hd⟩:=A0.mp hd
 cases hd
 refine hf HB σ ρ H0 H s e a ha _ fun v H1 J1 x1 p1=> ?_;exact hg HB σ ρ H1 J1 x1.s1 (e.ext (K:=K) x1) as has _ fun vs H2 J2 x2 p2=>q _ H2 J2 (x1.trans x2) (.cons (p1.ext x2) p2)
def mTup(f:En->Option (List PyData)):En->Option Sl:=fun ρ=>(f ρ).bind fun ds=>if ds.length<=sizeLine then some (.val (.tuple ds)) else none
def mLst(f:En->Option (List PyData)):En->Option Sl:=fun ρ=>(f ρ).bind fun ds=>if ds.length<=sizeLine then some (.own ds) else none
theorem zE{ta:TA}{f:En->Option (List PyData)}(h:RA K R ta f):RE K R (A70 ta) (mTup f):=fun HB σ ρ H0 H s e z hz Q q=>by
 obtain ⟨ds,hd,hz⟩:=A0.mp hz
 split at hz
 . rename_i hl
   cases hz
   refine h HB σ ρ H0 H s e ds hd _ fun vs H1 J1 x1 p1=>⟨by rw [p1.length];exact hl,fun p hp=> ?_⟩;exact q _ _ _ (x1.trans (Ext.allocF x1.s1 hp _)) (.tuple (SqT.of C9) (Reps.same (Same.upd (x1.s1.free hp) _) p1))
 . cases hz
theorem zU{ta:TA}{f:En->Option (List PyData)}(h:RA K R ta f):RE K R (AA6 ta) (mLst f):=fun HB σ ρ H0 H s e z hz Q q=>by
 obtain ⟨ds,hd,hz⟩:=A0.mp hz
 split at hz
 . rename_i hl
   cases hz
   refine h HB σ ρ H0 H s e ds hd _ fun vs H1 J1 x1 p1=>⟨by rw [p1.length];exact hl,fun p hp=> ?_⟩;exact q _ _ _ (x1.trans (Ext.alloc x1.s1 hp _)) ⟨p,vs,rfl,x1.s.free hp,x1.s1.free hp,C9,p1⟩
 . cases hz
def spD(K:PySem.W.Frag)(F:List PyData->Option Sl):Sp:=fun vs H Q _=>∃H0 ds r,Same H0 H/\Reps K H0 vs ds/\F ds=some r/\∀v H0' H',Ext H0 H H0' H'->SlH K H H0' H' v r->Q v H'
def mCall(F:List PyData->Option Sl)(f:En->Option (List PyData)):En->Option Sl:=fun ρ=>(f ρ).bind F
theorem t7{F:List PyData->Option Sl}{E:XK}{ta:TA}{f:En->Option (List PyData)}(h:RA K R ta f):RE K R (dN (spD K F) [] E ta) (mCall F f):=fun HB σ ρ H0 H s e z hz Q q=>by
 obtain ⟨ds,hd,hz⟩:=A0.mp hz;refine h HB σ ρ H0 H s e ds hd _ fun vs H1 J1 x1 p1=> ?_;rw [DK];exact ⟨H1,ds,z,x1.s1,p1,hz,fun v H2 J2 x2 p2=>q v H2 J2 (x1.trans x2) (p2.base x1.s)⟩
def LW(K:PySem.W.Frag)(r:List V->Hp->VK->Prop)(F:List Sl->Option Sl):Prop:=
 ∀(H0 H:Hp) (vs:List V) (ss:List Sl) (z:Sl),Same H0 H->Paired (SlP K H0 H) vs ss->F ss=some z->∀Q:VK,(∀v H0' H',Ext H0 H H0' H'->SlH K H H0' H' v z->Q v H')->r vs H Q
def mCallP(F:List Sl->Option Sl)(f:En->Option (List Sl)):En->Option Sl:=fun ρ=>(f ρ).bind F
theorem Z6{r:List V->Hp->VK->Prop}{F:List Sl->Option Sl}{ta:TA}{f:En->Option (List Sl)}(hc:LW K r F)(h:RQ K R ta f):RE K R (tCB r ta) (mCallP F f):=fun HB σ ρ H0 H s e z hz Q q=>by
 obtain ⟨ss,hd,hz⟩:=A0.mp hz;refine h HB σ ρ H0 H s e ss hd _ fun vs H1 J1 x1 p1=> ?_;exact hc H1 J1 vs ss z x1.s1 p1 hz Q fun v H2 J2 x2 p2=>q v H2 J2 (x1.trans x2) (p2.base x1.s)
theorem HY{H0 H:Hp}{vs:List V}{a:Sl}(h:Paired (SlP K H0 H) vs [a]):∃v,vs = [v]/\SlP K H0 H v a:=by
 cases h with | cons h t=>cases t;exact ⟨_,rfl,h⟩
theorem uL{H0 H:Hp}{vs:List V}{a b:Sl}(h:Paired (SlP K H0 H) vs [a,b]):∃v w,vs = [v,w]/\SlP K H0 H v a/\SlP K H0 H w b:=by
 cases h with | cons h t=>cases t with | cons h2 t=>cases t;exact ⟨_,_,rfl,h,h2⟩
def dLen:List Sl->Option Sl
 | [a]=>match a.dat with
  | .list ds=>some (.val (.int ds.length))
  | .tuple ds=>some (.val (.int ds.length))
  | _=>none
 | _=>none
theorem GW:LW K (fun xs H Q=>∃p ys,xs = [.ref p]/\(SqL K H p ys\/SqT K H p ys)/\Q (.int ys.length) H) dLen:=fun H0 H vs ss z s p hz Q q=>by
 unfold dLen at hz
 split at hz
 . obtain ⟨v,rfl,pa⟩:=HY p
   split at hz
   . rename_i ds hd
     cases hz
     obtain ⟨a,vs,rfl,h1,h2⟩:=pa.lst s hd;refine ⟨a,vs,rfl, .inl h1,?_⟩;rw [h2.length];exact q _ _ _ (Ext.refl s) (.int _)
   . rename_i ds hd
     cases hz
     obtain ⟨a,vs,rfl,h1,h2⟩:=pa.tup hd;refine ⟨a,vs,rfl, .inr (s.seqT h1),?_⟩;rw [h2.length];exact q _ _ _ (Ext.refl s) (.int _)
   . cases hz
 . cases hz
def dAbs:List Sl->Option Sl
 | [.val (.int i)]=>some (.val (.int (if i<0 then -i else i)))
 | _=>none
theorem A06:LW K (fun xs H Q=>∃i,xs = [.int i]/\Q (.int (if i<0 then -i else i)) H) dAbs:=fun H0 H vs ss z s p hz Q q=>by
 unfold dAbs at hz
 split at hz
 . obtain ⟨v,rfl,pa⟩:=HY p
   cases hz
   exact ⟨_,by rw [pa.int],q _ _ _ (Ext.refl s) (.int _)⟩
 . cases hz
def dList:List Sl->Option Sl
 | [a]=>match a.dat with
  | .list ds=>some (.own ds)
  | .tuple ds=>some (.own ds)
  | _=>none
 | _=>none
theorem VG:LW K (fun xs H Q=>∃p ys,xs = [.ref p]/\(SqL K H p ys\/SqT K H p ys)/\∀l,H l=none->Q (.ref l) (upd H l (.lst ys))) dList:=fun H0 H vs ss z s p hz Q q=>by
 unfold dList at hz
 split at hz
 . obtain ⟨v,rfl,pa⟩:=HY p
   split at hz
   . rename_i ds hd
     cases hz
     obtain ⟨a,vs,rfl,h1,h2⟩:=pa.lst s hd;exact ⟨a,vs,rfl, .inl h1,fun l hl=>q _ _ _ (Ext.alloc s hl _) ⟨l,vs,rfl,hl,s.free hl,C9,h2⟩⟩
   . rename_i ds hd
     cases hz
     obtain ⟨a,vs,rfl,h1,h2⟩:=pa.tup hd;exact ⟨a,vs,rfl, .inr (s.seqT h1),fun l hl=>q _ _ _ (Ext.alloc s hl _) ⟨l,vs,rfl,hl,s.free hl,C9,h2⟩⟩
   . cases hz
 . cases hz
def dTuple:List Sl->Option Sl
 | [a]=>match a.dat with
  | .list ds=>some (.val (.tuple ds))
  | .tuple ds=>some (.val (.tuple ds))
  | _=>none
 | _=>none
theorem JM:LW K (fun xs H Q=>∃p ys,xs = [.ref p]/\((SqL K H p ys/\∀l,H l=none->Q (.ref l) (upd H l (.tup ys)))\/(SqT K H p ys/\Q (.ref p) H))) dTuple:=fun H0 H vs ss z s p hz Q q=>by
 unfold dTuple at hz
 split at hz
 . obtain ⟨v,rfl,pa⟩:=HY p
   split at hz
   . rename_i ds hd
     cases hz
     obtain ⟨a,vs,rfl,h1,h2⟩:=pa.lst s hd;exact ⟨a,vs,rfl, .inl ⟨h1,fun l hl=>q _ _ _ (Ext.allocF s hl _) (.tuple (SqT.of C9) (Reps.same (Same.upd (s.free hl) _) h2))⟩⟩
   . rename_i ds hd
     cases hz
     obtain ⟨a,vs,rfl,h1,h2⟩:=pa.tup hd;exact ⟨a,vs,rfl, .inr ⟨s.seqT h1,q _ _ _ (Ext.refl s) (.tuple h1 h2)⟩⟩
   . cases hz
 . cases hz
def HW:List PyData->Option (List Int)
 | []=>some []
 | .int i::r=>(HW r).map (i :: ·)
 | _::_=>none
theorem MQ:∀ {ds:List PyData} {ns:List Int},HW ds=some ns->ds=ns.map .int
 | [],ns,h=>by cases h;rfl
 | .int i::r,ns,h=>by
  obtain ⟨ms,h1,rfl⟩:=B0.mp (show (HW r).map (i :: ·)=some ns from h);rw [MQ h1];rfl
theorem KZ:∀ns:List Int,HW (ns.map .int)=some ns
 | []=>rfl
 | i::r=>by show (HW (r.map .int)).map (i :: ·)=_;rw [KZ r];rfl
theorem Q7{H:Hp}:∀ {vs:List V} {ns:List Int},Reps K H vs (ns.map .int)->vs=ns.map .int
 | _,[],h=>by cases h;rfl
 | _,n::r,h=>by
  cases h with
  | cons h t=>cases h;rw [Q7 t];rfl
def dSum:List Sl->Option Sl
 | [a]=>match a.dat with
  | .list ds=>(HW ds).map fun ns=> .val (.int (List.sum ns))
  | _=>none
 | _=>none
theorem VW:LW K (fun xs H Q=>∃p ns,xs = [.ref p]/\SqL K H p (ns.map V.int)/\Q (.int (List.sum ns)) H) dSum:=fun H0 H vs ss z s p hz Q q=>by
 unfold dSum at hz
 split at hz
 . obtain ⟨v,rfl,pa⟩:=HY p
   split at hz
   . rename_i ds hd;obtain ⟨ns,hn,rfl⟩:=B0.mp hz;obtain ⟨a,vs,rfl,h1,h2⟩:=pa.lst s hd;rw [MQ hn] at h2
     rw [Q7 h2] at h1
     exact ⟨a,ns,rfl,h1,q _ _ _ (Ext.refl s) (.int _)⟩
   . cases hz
 . cases hz
def dInt:List Sl->Option Sl
 | [.val (.int i)]=>some (.val (.int i))
 | [.val (.bool k)]=>some (.val (.int (if k then 1 else 0)))
 | _=>none
theorem A52:LW K (fun xs H Q=>(∃i,xs = [.int i]/\Q (.int i) H)\/∃k,xs = [.bl k]/\Q (.int (if k then 1 else 0)) H) dInt:=fun H0 H vs ss z s p hz Q q=>by
 unfold dInt at hz
 split at hz
 . obtain ⟨v,rfl,pa⟩:=HY p
   cases hz
   exact .inl ⟨_,by rw [pa.int],q _ _ _ (Ext.refl s) (.int _)⟩
 . obtain ⟨v,rfl,pa⟩:=HY p
   cases hz
   exact .inr ⟨_,by rw [pa.bool],q _ _ _ (Ext.refl s) (.int _)⟩
 . cases hz
def tyD:PyData->Option String
 | .none=>some "NoneType"
 | .bool _=>some "bool"
 | .int _=>some "int"
 | .str _=>some "str"
 | .list _=>some "list"
 | .tuple _=>some "tuple"
 | _=>none
def isiD(n:String)(t:String):Option Bool:=
 if n = "int" then some (t == "int" || t == "bool") else if n = "bool" \/ n = "str" \/ n = "list" \/ n = "tuple" then some (t==n) else none
def mIsi(n:String)(f:En->Option Sl):En->Option Sl:=fun ρ=>(f ρ).bind fun a=>(tyD a.dat).bind fun t=>(isiD n t).map fun b=> .val (.bool b)
def mTest(f:En->Option Sl):En->Option Bool:=fun ρ=>(f ρ).bind fun a=>match a with
 | .val (.bool b)=>some b
 | _=>none
theorem NL{f:En->Option Sl}{ρ:En}{b:Bool}(h:mTest f ρ=some b):f ρ=some (.val (.bool b)):=by
 obtain ⟨a,ha,h⟩:=A0.mp h;rw [ha]
 split at h
 . cases h;rfl
 . cases h
theorem sH{te:TE}{f:En->Option Sl}(h:RP K R te f):RT K R (w4 te) (mTest f):=fun HB σ ρ H0 H s e b hb Q q=>
 h HB σ ρ H0 H s e _ (NL hb) _ fun v H1 J1 x1 p1=>⟨b,p1.bool,q _ _ x1⟩
theorem AE9{te:TE}{f:En->Option Sl}(h:RP K R te f):RT K R (tB te) (mTest f):=fun HB σ ρ H0 H s e b hb Q q=>
 h HB σ ρ H0 H s e _ (NL hb) _ fun v H1 J1 x1 p1=>⟨b,p1.bool,q _ _ x1⟩
def mAnd(f g:En->Option Bool):En->Option Bool:=fun ρ=>(f ρ).bind fun b=>if b then g ρ else some false
def mOr(f g:En->Option Bool):En->Option Bool:=fun ρ=>(f ρ).bind fun b=>if b then some true else g ρ
def mNot(f:En->Option Bool):En->Option Bool:=fun ρ=>(f ρ).map (!·)
theorem yY{t u:TT}{f g:En->Option Bool}(h:RT K R t f)(k:RT K R u g):RT K R (AC1 t u) (mAnd f g):=fun HB σ ρ H0 H s e b hb Q q=>by
 obtain ⟨c,hc,hb⟩:=A0.mp hb;refine h HB σ ρ H0 H s e c hc _ fun H1 J1 x1=> ?_
 cases c with
 | true=>exact iJ (k HB σ ρ H1 J1 x1.s1 (e.ext (K:=K) x1) b hb Q fun H2 J2 x2=>q _ _ (x1.trans x2))
 | false=>cases hb;exact i9 (q _ _ x1)
theorem A81{t u:TT}{f g:En->Option Bool}(h:RT K R t f)(k:RT K R u g):RT K R (tOr t u) (mOr f g):=fun HB σ ρ H0 H s e b hb Q q=>by
 obtain ⟨c,hc,hb⟩:=A0.mp hb;refine h HB σ ρ H0 H s e c hc _ fun H1 J1 x1=> ?_
 cases c with
 | false=>exact i9 (k HB σ ρ H1 J1 x1.s1 (e.ext (K:=K) x1) b hb Q fun H2 J2 x2=>q _ _ (x1.trans x2))
 | true=>cases hb;exact iJ (q _ _ x1)
theorem zB{t:TT}{f:En->Option Bool}(h:RT K R t f):RT K R (A64 t) (mNot f):=fun HB σ ρ H0 H s e b hb Q q=>by
 obtain ⟨c,hc,rfl⟩:=B0.mp hb;exact h HB σ ρ H0 H s e c hc _ fun H1 J1 x1=>q _ _ x1
def mAndV(f g:En->Option Sl):En->Option Sl:=fun ρ=>(mTest f ρ).bind fun b=>if b then g ρ else some (.val (.bool false))
def mOrV(f g:En->Option Sl):En->Option Sl:=fun ρ=>(mTest f ρ).bind fun b=>if b then some (.val (.bool true)) else g ρ
def mNotV(f:En->Option Sl):En->Option Sl:=fun ρ=>(mTest f ρ).map fun b=> .val (.bool (!b))
theorem sN{t u:TE}{f g:En->Option Sl}(h:RP K R t f)(k:RE K R u g):RE K R (vF t u) (mAndV f g):=fun HB σ ρ H0 H s e z hz Q q=>by
 obtain ⟨c,hc,hz⟩:=A0.mp hz;refine h HB σ ρ H0 H s e _ (NL hc) _ fun v H1 J1 x1 p1=>⟨c,p1.bool,?_⟩
 cases c with
 | true=>exact iJ (k HB σ ρ H1 J1 x1.s1 (e.ext (K:=K) x1) z hz Q fun v H2 J2 x2 p2=>q _ _ _ (x1.trans x2) (p2.base x1.s))
 | false=>cases hz;exact i9 (q _ _ _ x1 (.bool _))
def mIfE(c:En->Option Bool)(f g:En->Option Sl):En->Option Sl:=fun ρ=>(c ρ).bind fun b=>if b then f ρ else g ρ
def RO(K:PySem.W.Frag)(R:Rl)(to:TO)(f:En->Option (Option Int)):Prop:=
 ∀(HB:Hp) (σ:L2.St) (ρ:En) (H0 H:Hp),Same H0 H->ST R HB H0 H σ ρ->∀o,f ρ=some o->∀Q:Option Int->Hp->Prop,(∀H0' H',Ext H0 H H0' H'->Q o H')->to σ H Q
def mNoPart:En->Option (Option Int):=fun _=>some none
def mPart(f:En->Option Sl):En->Option (Option Int):=fun ρ=>(f ρ).bind fun a=>match a with
 | .val (.int i)=>some (some i)
 | _=>none
theorem tQ:RO K R tNoPart mNoPart:=fun HB σ ρ H0 H s e o ho Q q=>by cases ho;exact q _ _ (Ext.refl s)
theorem qK{te:TE}{f:En->Option Sl}(h:RP K R te f):RO K R (vV te) (mPart f):=fun HB σ ρ H0 H s e o ho Q q=>by
 obtain ⟨a,ha,ho⟩:=A0.mp ho
 split at ho
 . cases ho
   exact h HB σ ρ H0 H s e _ ha _ fun v H1 J1 x1 p1=>⟨_,p1.int,q _ _ x1⟩
 . cases ho
def IC{α:Type}(xs:List α)(lo hi:Option Int):List α:=(xs.drop (HT.sIx xs.length 0 lo)).take (HT.sIx xs.length xs.length hi - HT.sIx xs.length 0 lo)
theorem Reps.drop{H:Hp}:∀ {vs:List V} {ds:List PyData} (n:Nat),Reps K H vs ds->Reps K H (vs.drop n) (ds.drop n)
 | _,_,0,h=>h
 | _,_,_+1, .nil=> .nil
 | _,_,n+1, .cons _ t=>Reps.drop n t
theorem Reps.take{H:Hp}:∀ {vs:List V} {ds:List PyData} (n:Nat),Reps K H vs ds->Reps K H (vs.take n) (ds.take n)
 | _,_,0,_=> .nil
 | _,_,_+1, .nil=> .nil
 | _,_,n+1, .cons h t=> .cons h (Reps.take n t)
theorem Reps.cut{H:Hp}{vs:List V}{ds:List PyData}(h:Reps K H vs ds)(lo hi:Option Int):Reps K H (Y3 vs lo hi) (IC ds lo hi):=by
 unfold Y3 IC;rw [h.length];exact Reps.take _ (Reps.drop _ h)
def dSl(a:Sl)(lo hi:Option Int):Option Sl:=match a.dat with
 | .list ds=>some (.own (IC ds lo hi))
 | .tuple ds=>if HT.sIx ds.length 0 lo=0/\HT.sIx ds.length ds.length hi=ds.length then none else some (.val (.tuple (IC ds lo hi)))
 | _=>none
def mSl(f:En->Option Sl)(l h:En->Option (Option Int)):En->Option Sl:=fun ρ=>(f ρ).bind fun a=>(l ρ).bind fun lo=>(h ρ).bind fun hi=>dSl a lo hi
theorem A89{te:TE}{tl th:TO}{f:En->Option Sl}{fl fh:En->Option (Option Int)}(h:RP K R te f)(hl:RO K R tl fl)(hh:RO K R th fh):RE K R (tSl (fun x lo hi H Q=>AB3 K x lo hi H Q\/AD0 K x lo hi H Q) te tl th) (mSl f fl fh):=fun HB σ ρ H0 H s e z hz Q q=>by
 obtain ⟨a,ha,hz⟩:=Option.bind_eq_some_iff.mp hz;obtain ⟨lo,hlo,hz⟩:=Option.bind_eq_some_iff.mp hz;obtain ⟨hi,hhi,hz⟩:=Option.bind_eq_some_iff.mp hz;refine h HB σ ρ H0 H s e a ha _ fun v H1 J1 x1 p1=> ?_;refine hl HB σ ρ H1 J1 x1.s1 (e.ext (K:=K) x1) lo hlo _ fun H2 J2 x2=> ?_;refine hh HB σ ρ H2 J2 x2.s1 ((e.ext (K:=K) x1).ext (K:=K) x2) hi hhi _ fun H3 J3 x3=> ?_;have x:=(x1.trans x2).trans x3;have p:=p1.ext (x2.trans x3);unfold dSl at hz
 split at hz
 . rename_i ds hd
   cases hz
   obtain ⟨b,vs,rfl,h1,h2⟩:=p.lst x.s1 hd;exact .inl ⟨b,vs,rfl,h1,fun l hl=>q _ _ _ (x.trans (Ext.alloc x.s1 hl _)) ⟨l,_,rfl,x.s.free hl,x.s1.free hl,C9,Reps.cut h2 lo hi⟩⟩
 . rename_i ds hd
   split at hz
   . cases hz
   . rename_i hw
     cases hz
     obtain ⟨b,vs,rfl,h1,h2⟩:=p.tup hd;refine .inr ⟨b,vs,rfl,x.s1.seqT h1,by rw [h2.length];exact hw,fun l hl=>q _ _ _ (x.trans (Ext.allocF x.s1 hl _)) (.tuple (SqT.of C9) (Reps.same (Same.upd (x.s1.free hl) _) (Reps.cut h2 lo hi)))⟩
 . cases hz
end
end Dm
namespace Dm
open PySem PySem.Spec PyProof.Rows L2 Tf
inductive Out where
 | nx (ρ:En) | rt (r:Sl) (ρ:En) | bk (ρ:En) | ct (ρ:En)
section
variable {K:PySem.W.Frag} {R:Rl} [RelOk K R]
def AE5(K:PySem.W.Frag)(R:Rl)(HB S0:Hp)(D:Ends):Out->Prop
 | .nx ρ=>∀σ H0 H,Ext S0 HB H0 H->ST R HB H0 H σ ρ->D.nx σ H
 | .bk ρ=>∀σ H0 H,Ext S0 HB H0 H->ST R HB H0 H σ ρ->D.bk σ H
 | .ct ρ=>∀σ H0 H,Ext S0 HB H0 H->ST R HB H0 H σ ρ->D.ct σ H
 | .rt r ρ=>∀v σ H0 H,Ext S0 HB H0 H->ST R HB H0 H σ ρ->SlH K HB H0 H v r->D.rt v H
def RS(K:PySem.W.Frag)(R:Rl)(ts:TS)(g:En->Option Out):Prop:=
 ∀(HB S0:Hp) (σ:L2.St) (ρ:En) (H0 H:Hp),Ext S0 HB H0 H->ST R HB H0 H σ ρ->∀o,g ρ=some o->∀D:Ends,AE5 K R HB S0 D o->ts D σ H
def mNext:En->Option Out:=fun ρ=>some (.nx ρ)
def mBrk:En->Option Out:=fun ρ=>some (.bk ρ)
def mCt:En->Option Out:=fun ρ=>some (.ct ρ)
def mRetN:En->Option Out:=fun ρ=>some (.rt (.val .none) ρ)
theorem uK:RS K R tNext mNext:=fun HB S0 σ ρ H0 H x e o ho D d=>by cases ho;exact d σ H0 H x e
theorem qM:RS K R tRetN mRetN:=fun HB S0 σ ρ H0 H x e o ho D d=>by cases ho;exact d .non σ H0 H x e .none
def mSeq(f g:En->Option Out):En->Option Out:=fun ρ=>(f ρ).bind fun o=>match o with
 | .nx ρ'=>g ρ'
 | o=>some o
theorem A40{t u:TS}{f g:En->Option Out}(h:RS K R t f)(k:RS K R u g):RS K R (xK t u) (mSeq f g):=fun HB S0 σ ρ H0 H x e o ho D d=>by
 obtain ⟨o1,h1,ho⟩:=A0.mp ho;refine h HB S0 σ ρ H0 H x e o1 h1 { D with nx:=u D} ?_
 cases o1 with
 | nx ρ'=>exact fun σ' H0' H' x' e'=>k HB S0 σ' ρ' H0' H' x' e' o ho D d
 | rt r _=>cases ho;exact d
 | bk r=>cases ho;exact d
 | ct r=>cases ho;exact d
theorem ER.set{HB H0 H H0' H':Hp}{σ:L2.St}{ρ:En}{i:Nat}{v:V}{r:Sl}(e:ER K HB H0 H σ ρ)(x:Ext H0 H H0' H')(sb:Same HB H)(h:SlH K H H0' H' v r):ER K HB H0' H' (σ.set i (some v)) (ρ.set i (some r)):=by
 have e':=e.ext x;refine ⟨by rw [EE,EE];exact e.len,fun j s hs=> ?_,fun j k a ds es hjk hj hk h1 h2=> ?_⟩
 . by_cases hj:i=j
   . subst hj;rw [EF] at hs ⊢
     cases hq:ρ[i]? with
     | none=>rw [hq] at hs;cases hs
     | some q=>
      rw [hq] at hs
      have hi:i<σ.length:=by rw [e.len];exact (AX.mp hq).1
      rw [AD hi]
      cases hs
      exact ⟨v,rfl,h.base sb⟩
   . rw [AT hj] at hs ⊢
     exact e'.get j s hs
 . have key : ∀ (j' k' : Nat) (b : Addr) ds' es', i = j' -> i ≠ k' -> (ρ.set i (some r))[j']? = some (some (.own ds')) -> ρ[k']? = some (some (.own es')) -> (σ.set i (some v))[j']? = some (some (.ref b)) -> σ[k']? ≠ some (some (.ref b)) := by
    clear hj hk h1 h2 hjk;intro j' k' b ds' es' hij hik hj hk h1 h2;subst hij;rw [EF] at hj h1
    cases hq:ρ[i]? with
    | none=>rw [hq] at hj;cases hj
    | some q=>
     rw [hq] at hj
     cases hj
     have hi:i<σ.length:=by rw [e.len];exact (AX.mp hq).1
     rw [AD hi] at h1
     cases h1
     obtain ⟨a',vs,ea,hn,_⟩:=h
     cases ea
     obtain ⟨w,hw,hb⟩:=e.get k' _ hk;rw [h2] at hw
     cases hw
     obtain ⟨b',ws,eb,_,_,hs,_⟩:=hb
     cases eb
     rw [hn] at hs
     cases hs
   by_cases hij:i=j
   . have hik:i≠k:=fun z=>hjk (hij.symm.trans z);rw [AT hik] at hk h2
     exact key j k a ds es hij hik hj hk h1 h2
   . rw [AT hij] at hj h1
     by_cases hik:i=k
     . exact key k j a es ds hik hij hk hj h2 h1
     . rw [AT hik] at hk h2
       exact e.apart j k a ds es hjk hj hk h1 h2
def mAsg(i:Nat)(f:En->Option Sl):En->Option Out:=fun ρ=>(f ρ).map fun r=> .nx (ρ.set i (some r))
theorem A53{te:TE}{f:En->Option Sl}{i:Nat}(hsl:R.slot i)(h:RE K R te f):RS K R (Z2 te (SB i)) (mAsg i f):=fun HB S0 σ ρ H0 H x e o ho D d=>by
 obtain ⟨r,hr,rfl⟩:=B0.mp ho;exact h HB σ ρ H0 H x.s1 e r hr _ fun v H1 J1 x1 p1=>d _ H1 J1 (x.chain x1) ⟨RelOk.set e.r hsl x1 x.s p1⟩
theorem pY{te:TE}{f:En->Option Sl}{i:Nat}(hsl:R.slot i)(h:RE K R te f):RS K R (wA i te) (mAsg i f):=fun HB S0 σ ρ H0 H x e o ho D d=>by
 obtain ⟨r,hr,rfl⟩:=B0.mp ho;exact h HB σ ρ H0 H x.s1 e r hr _ fun v H1 J1 x1 p1=>d _ H1 J1 (x.chain x1) ⟨RelOk.set e.r hsl x1 x.s p1⟩
def mRet(f:En->Option Sl):En->Option Out:=fun ρ=>(f ρ).map fun r=> .rt r ρ
theorem yS{te:TE}{f:En->Option Sl}(h:RE K R te f):RS K R (wT te) (mRet f):=fun HB S0 σ ρ H0 H x e o ho D d=>by
 obtain ⟨r,hr,rfl⟩:=B0.mp ho;exact h HB σ ρ H0 H x.s1 e r hr _ fun v H1 J1 x1 p1=>d v σ H1 J1 (x.chain x1) (e.ext (K:=K) x1) (p1.base x.s)
theorem rE(i:Nat)(hsl:R.slot i):RS K R (wT (MY i)) (mRet (mPk i)):=fun HB S0 σ ρ H0 H x e o ho D d=>by
 obtain ⟨r,hr,rfl⟩:=B0.mp ho;obtain ⟨v,h1,h2⟩:=RelOk.get (K:=K) e.r hsl (join_some hr);exact ⟨v,h1,d v σ H0 H x e h2⟩
def mIf(c:En->Option Bool)(f g:En->Option Out):En->Option Out:=fun ρ=>(c ρ).bind fun b=>if b then f ρ else g ρ
theorem A66{c:TT}{t u:TS}{fc:En->Option Bool}{f g:En->Option Out}(hc:RT K R c fc)(h:RS K R t f)(k:RS K R u g):RS K R (A65 c t u) (mIf fc f g):=fun HB S0 σ ρ H0 H x e o ho D d=>by
 obtain ⟨b,hb,ho⟩:=A0.mp ho;refine hc HB σ ρ H0 H x.s1 e b hb _ fun H1 J1 x1=> ?_
 cases b with
 | true=>exact iJ (h HB S0 σ ρ H1 J1 (x.chain x1) (e.ext (K:=K) x1) o ho D d)
 | false=>exact i9 (k HB S0 σ ρ H1 J1 (x.chain x1) (e.ext (K:=K) x1) o ho D d)
def mDrop(f:En->Option Sl):En->Option Out:=fun ρ=>(f ρ).map fun _=> .nx ρ
theorem Ext.write{S0 HB H0 H:Hp}{a:Addr}(x:Ext S0 HB H0 H)(hb:HB a=none)(h0:H0 a=none)(o:HO):Ext S0 HB H0 (upd H a o) :=
 ⟨fun b u e=>by rw [BQ (BY e hb)];exact x.s b u e,x.s0,fun b u e=>by rw [BQ (BY e h0)];exact x.s1 b u e,x.own⟩
theorem ER.write {HB H0 H : Hp} {σ : L2.St} {ρ : En} {i : Nat} {a : Addr} {ds es : List PyData} {ys : List V} (e : ER K HB H0 H σ ρ) (hi : ρ[i]? = some (some (.own ds))) (hs : σ[i]? = some (some (.ref a))) (hb : HB a = none) (h0 : H0 a = none) (hr : Reps K H0 ys es) :
 ER K HB H0 (upd H a (.lst ys)) σ (ρ.set i (some (.own es))):=by
 have own:∀(j:Nat),∀ts,(ρ.set i (some (.own es)))[j]? = some (some (.own ts))->∃ts',ρ[j]? = some (some (.own ts')):=by
  intro j ts h
  by_cases hj:i=j
  . subst hj;exact ⟨_,hi⟩
  . rw [AT hj] at h;exact ⟨_,h⟩
 refine ⟨by rw [EE];exact e.len,fun j s hq=> ?_,fun j k b ts us hjk hj hk h1 h2=> ?_⟩
 . by_cases hj:i=j
   . subst hj;rw [EF,hi] at hq
     cases hq
     exact ⟨.ref a,hs,a,ys,rfl,hb,h0,C9,hr⟩
   . rw [AT hj] at hq
     obtain ⟨v,h1,h2⟩:=e.get j s hq;refine ⟨v,h1,?_⟩
     cases s with
     | val d=>exact h2
     | own ts=>
      obtain ⟨b,vs,rfl,g1,g2,g3,g4⟩:=h2;refine ⟨b,vs,rfl,g1,g2,?_,g4⟩;rw [BQ]
      . exact g3
      . rintro rfl
        exact e.apart i j b ds ts hj hi hq hs h1
     | dct ts=>
      obtain ⟨b,t,rfl,g1,g2,g3,g4⟩:=h2;refine ⟨b,t,rfl,g1,g2,?_,g4⟩;rw [BQ]
      . exact g3
      . rintro rfl;obtain ⟨v',hs',a',vs',e',_,_,g5,_⟩:=e.get i _ hi;rw [hs] at hs'
        cases hs'
        cases e'
        rw [g3] at g5
        cases g5
 . obtain ⟨ts',hj⟩:=own j ts hj;obtain ⟨us',hk⟩:=own k us hk;exact e.apart j k b ts' us' hjk hj hk h1 h2
def mApp(i:Nat)(f:En->Option Sl):En->Option Out:=fun ρ=>match (ρ[i]?).join with
 | some (.own ds)=>(f ρ).bind fun r=>if ds.length<sizeLine then some (.nx (ρ.set i (some (.own (ds ++ [r.dat]))))) else none
 | _=>none
theorem bE {HB H0 H : Hp} {σ : L2.St} {ρ : En} {i : Nat} {ds : List PyData} (e : ST R HB H0 H σ ρ) (hsl : R.slot i) (h : (ρ[i]?).join = some (.own ds)) :
 ∃a vs,ρ[i]? = some (some (.own ds))/\σ[i]? = some (some (.ref a))/\HB a=none/\H0 a=none/\H a=some (.lst vs)/\Reps K H0 vs ds:=by
 obtain ⟨v,h1,a,vs,rfl,g1,g2,g3,g4⟩:=RelOk.get (K:=K) e.r hsl (join_some h);exact ⟨a,vs,join_some h,h1,g1,g2,g3,g4⟩
theorem yZ{te:TE}{f:En->Option Sl}{i:Nat}(hsl:R.slot i)(h:RE K R te f):RS K R (ZK (tBM K "list" rAppend (MY i) (UB te tNil))) (mApp i f):=fun HB S0 σ ρ H0 H x e o ho D d=>by
 unfold mApp at ho
 split at ho
 . rename_i ds hj;obtain ⟨r,hr,ho⟩:=A0.mp ho
   split at ho
   . rename_i hl
     cases ho
     obtain ⟨a,vs,hi,hs,g1,g2,g3,g4⟩:=bE (K:=K) e hsl hj;refine ⟨.ref a,hs, .inl ⟨rfl,vs,SqL.of g3⟩,?_⟩;refine h.rv HB σ ρ H0 H x.s1 e r.dat (by unfold mDat;rw [hr];rfl) _ fun v H1 J1 x1 p1=> ?_;have l0:=x1.own a _ g3 True.intro g2;refine ⟨a,vs,v,rfl,rfl,x1.s _ _ g3,by rw [g4.length];exact hl,?_⟩;exact d σ H1 _ ((x.chain x1).write g1 l0 _) ⟨RelOk.write (K:=K) (e.ext (K:=K) x1).r hsl hi hs g1 l0 (x1.s _ _ g3) (Tf.Reps.snoc (Reps.same x1.s0 g4) p1)⟩
   . cases ho
 . cases ho
def mSet(i:Nat)(fj f:En->Option Sl):En->Option Out:=fun ρ=>(f ρ).bind fun r=>match (ρ[i]?).join with
 | some (.own ds)=>(fj ρ).bind fun k=>match k with
  | .val (.int k)=>(ixN ds.length k).map fun j=> .nx (ρ.set i (some (.own (ds.set j r.dat))))
  | _=>none
 | _=>none
theorem Reps.set{H:Hp}{v:V}{d:PyData}(r:Rep K H v d):∀ {vs:List V} {ds:List PyData} (i:Nat),Reps K H vs ds->Reps K H (vs.set i v) (ds.set i d)
 | _,_,_, .nil=> .nil
 | _,_,0, .cons _ t=> .cons r t
 | _,_,i+1, .cons q t=> .cons q (Reps.set r i t)
theorem wZ{te tj:TE}{f fj:En->Option Sl}{i:Nat}(hsl:R.slot i)(h:RE K R te f)(hj:RP K R tj fj):RS K R (Z2 te (wM (MY i) tj rSetL)) (mSet i fj f):=fun HB S0 σ ρ H0 H x e o ho D d=>by
 obtain ⟨r,hr,ho⟩:=A0.mp ho
 split at ho
 . rename_i ds hown;obtain ⟨k,hk,ho⟩:=A0.mp ho
   split at ho
   . rename_i k;obtain ⟨j,hix,rfl⟩:=Option.map_eq_some_iff.mp ho;refine h.rv HB σ ρ H0 H x.s1 e r.dat (by unfold mDat;rw [hr];rfl) _ fun v H1 J1 x1 p1=> ?_;obtain ⟨a,vs,hi,hs,g1,g2,g3,g4⟩:=bE (K:=K) (e.ext (K:=K) x1) hsl hown;refine ⟨.ref a,hs,?_⟩;refine hj HB σ ρ H1 J1 x1.s1 (e.ext (K:=K) x1) _ hk _ fun w H2 J2 x2 p2=> ?_;have l0:=x2.own a _ g3 True.intro g2;refine ⟨a,vs,k,j,rfl,p2.int,x2.s _ _ g3,by rw [g4.length];exact hix,?_⟩;exact d σ H2 _ (((x.chain x1).chain x2).write g1 l0 _) ⟨RelOk.write (K:=K) ((e.ext (K:=K) x1).ext (K:=K) x2).r hsl hi hs g1 l0 (x2.s _ _ g3) (Reps.set (Rep.same x2.s0 p1) j (Reps.same x2.s0 g4))⟩
   . cases ho
 . cases ho
def frz1(i:Nat)(ρ:En):En:=match (ρ[i]?).join with
 | some (.own ds)=>ρ.set i (some (.val (.list ds)))
 | _=>ρ
def mFrz(i:Nat)(g:En->Option Out):En->Option Out:=fun ρ=>g (frz1 i ρ)
theorem ER.frz{S0 HB H0 H:Hp}{σ:L2.St}{ρ:En}{i:Nat}{ds:List PyData}(e:ER K HB H0 H σ ρ)(hi:ρ[i]? = some (some (.own ds)))(x:Ext S0 HB H0 H):∃a vs,H a=some (.lst vs)/\Ext S0 HB (upd H0 a (.lst vs)) H/\ER K HB (upd H0 a (.lst vs)) H σ (ρ.set i (some (.val (.list ds)))):=by
 obtain ⟨v,hs,a,vs,rfl,g1,g2,g3,g4⟩:=e.get i _ hi;have s0:Same H0 (upd H0 a (.lst vs)):=Same.upd g2 _
 have x' : Ext S0 HB (upd H0 a (.lst vs)) H := ⟨x.s, x.s0.trans s0, fun b u q => by
  by_cases hb:b=a
  . subst hb;rw [C9] at q;rw [g3];exact q
  . rw [BQ hb] at q;exact x.s1 b u q,fun b u q m q0=>by rw [BQ (BY q g1)];exact x.own b u q m q0⟩
 refine ⟨a,vs,g3,x',⟨by rw [EE];exact e.len,fun j s hq=> ?_,fun j k b ts us hjk h1 h2 h3 h4=> ?_⟩⟩
 . by_cases hij:i=j
   . subst hij;rw [EF,hi] at hq
     cases hq
     exact ⟨.ref a,hs, .list (SqL.of C9) (Reps.same s0 g4)⟩
   . rw [AT hij] at hq
     obtain ⟨v,h1,h2⟩:=e.get j s hq;refine ⟨v,h1,?_⟩
     cases s with
     | val d=>exact Rep.same s0 h2
     | own ts=>
      obtain ⟨b,ws,rfl,q1,q2,q3,q4⟩:=h2;refine ⟨b,ws,rfl,q1,?_,q3,Reps.same s0 q4⟩;rw [BQ]
      . exact q2
      . rintro rfl
        exact e.apart i j b ds ts hij hi hq hs h1
     | dct ts=>
      obtain ⟨b,t,rfl,q1,q2,q3,q4⟩:=h2;refine ⟨b,t,rfl,q1,?_,q3,q4.same s0⟩;rw [BQ]
      . exact q2
      . rintro rfl;rw [q3] at g3
        cases g3
 . have hij : i ≠ j := by
    rintro rfl;rw [EF,hi] at h1
    cases h1
   have hik:i≠k:=by
    rintro rfl;rw [EF,hi] at h2
    cases h2
   rw [AT hij] at h1
   rw [AT hik] at h2
   exact e.apart j k b ts us hjk h1 h2 h3 h4
instance relOk_PR:RelOk K (PR K) where
 ext:=fun x e=>ER.ext x e
 get:=fun e _ h=>ER.get e _ _ h
 set:=fun e _ x s h=>ER.set e x s h
 write:=fun e _ h1 h2 h3 h4 _ h5=>ER.write e h1 h2 h3 h4 h5
 frz:=fun e _ h x=>by obtain ⟨a,vs,_,h1,h2⟩:=ER.frz e h x;exact ⟨_,h1,h2⟩
theorem yJ{ts:TS}{g:En->Option Out}(i:Nat)(hsl:R.slot i)(h:RS K R ts g):RS K R ts (mFrz i g):=fun HB S0 σ ρ H0 H x e o ho D d=>by
 unfold mFrz frz1 at ho
 split at ho
 . rename_i ds hj;obtain ⟨H0',x',e'⟩:=RelOk.frz (K:=K) e.r hsl (join_some hj) x;exact h HB S0 σ _ H0' H x' ⟨e'⟩ o ho D d
 . exact h HB S0 σ ρ H0 H x e o ho D d
def RG(K:PySem.W.Frag)(R:Rl)(g:TG)(fg:PyData->En->Option En):Prop:=
 ∀(HB:Hp) (σ:L2.St) (ρ ρ':En) (H0 H:Hp) (v:V) (d:PyData),Same H0 H->Same HB H->ST R HB H0 H σ ρ->Rep K H0 v d->fg d ρ=some ρ'->∀Q:L2.St->Hp->Prop,(∀σ',ST R HB H0 H σ' ρ'->Q σ' H)->g v σ H Q
def gVar(i:Nat):PyData->En->Option En:=fun d ρ=>some (ρ.set i (some (.val d)))
theorem d6(i:Nat)(hsl:R.slot i):RG K R (SB i) (gVar i):=fun HB σ ρ ρ' H0 H v d s sb e r h Q q=>by
 cases h
 exact q _ ⟨RelOk.set (K:=K) e.r hsl (Ext.refl s) sb (show SlH K H H0 H v (.val d) from r)⟩
def gsAll:List (PyData->En->Option En)->List PyData->En->Option En
 | [],[],ρ=>some ρ
 | g::gs,d::ds,ρ=>(g d ρ).bind fun ρ'=>gsAll gs ds ρ'
 | _,_,_=>none
def gTupD(gs:List (PyData->En->Option En)):PyData->En->Option En:=fun d ρ=>match d with
 | .tuple ds=>if ds.length=gs.length then gsAll gs ds ρ else none
 | _=>none
def RGs(K:PySem.W.Frag)(R:Rl)(g:TGs)(gs:List (PyData->En->Option En)):Prop:=
 ∀(HB:Hp) (σ:L2.St) (ρ ρ':En) (H0 H:Hp) (vs:List V) (ds:List PyData),Same H0 H->Same HB H->ST R HB H0 H σ ρ->Reps K H0 vs ds->gsAll gs ds ρ=some ρ'->∀Q:L2.St->Hp->Prop,(∀σ',ST R HB H0 H σ' ρ'->Q σ' H)->g vs σ H Q
theorem eI:RGs K R gNil []:=fun HB σ ρ ρ' H0 H vs ds s sb e r h Q q=>by
 cases r with
 | nil=>cases h;exact ⟨rfl,q _ e⟩
 | cons _ _=>cases h
theorem ZC{g:TG}{u:TGs}{fg:PyData->En->Option En}{gs:List (PyData->En->Option En)}(h1:RG K R g fg)(h2:RGs K R u gs):RGs K R (jX g u) (fg::gs):=fun HB σ ρ ρ' H0 H vs ds s sb e r h Q q=>by
 cases r with
 | nil=>cases h
 | cons r1 r2=>
  obtain ⟨ρ1,e1,h⟩:=A0.mp (show (fg _ ρ).bind _=some ρ' from h);exact ⟨_,_,rfl,h1 HB σ ρ ρ1 H0 H _ _ s sb e r1 e1 _ fun σ' e'=>h2 HB σ' ρ1 ρ' H0 H _ _ s sb e' r2 h Q q⟩
theorem nY{g:TGs}{gs:List (PyData->En->Option En)}{n:Nat}(hn:n=gs.length)(h:RGs K R g gs):RG K R (xI K n g) (gTupD gs):=fun HB σ ρ ρ' H0 H v d s sb e r hd Q q=>by
 unfold gTupD at hd
 split at hd
 . split at hd
   . rename_i ds hl
     cases r with
     | tuple r1 r2=>exact ⟨_,_,rfl,s.seqT r1,by rw [r2.length,hl,hn],h HB σ ρ ρ' H0 H _ _ s sb e r2 hd Q q⟩
   . cases hd
 . cases hd
def ItR(K:PySem.W.Frag)(H0:Hp)(J:It)(ds:List PyData):Prop:=∀H0' H',Same H0 H0'->Same H0' H'->∀i:Nat,(∀d,ds[i]? = some d->J.go i H'/\∀x H2,J.yld i H' x H2->∃H02,Ext H0' H' H02 H2/\Rep K H02 x d)/\(ds.length<=i->J.stop i H')
def RI(K:PySem.W.Frag)(R:Rl)(wi:TI)(f:En->Option (List PyData)):Prop:=
 ∀(HB:Hp) (σ:L2.St) (ρ:En) (H0 H:Hp),Same H0 H->ST R HB H0 H σ ρ->∀ds,f ρ=some ds->∀R:It->Hp->Prop,(∀J H0' H',Ext H0 H H0' H'->ItR K H0' J ds->R J H')->wi σ H R
def mItems(f:En->Option Sl):En->Option (List PyData):=fun ρ=>(f ρ).bind fun a=>match a.dat with
 | .list ds=>some ds
 | _=>none
def mItemsT(f:En->Option Sl):En->Option (List PyData):=fun ρ=>(f ρ).bind fun a=>match a.dat with
 | .tuple ds=>some ds
 | _=>none
theorem cU{H0:Hp}{a:Addr}{vs:List V}{ds:List PyData}(h:SqL K H0 a vs)(r:Reps K H0 vs ds):ItR K H0 (Itl K a) ds:=fun H0' H' s s' i=>by
 have h':=s'.seq (s.seq h);refine ⟨fun d hd=> ?_,fun hi=>⟨vs,h',by rw [r.length];exact hi⟩⟩;obtain ⟨v,e1,e2⟩:=Tf.Reps.get r hd;refine ⟨⟨vs,v,h',e1⟩,fun x H2 y=> ?_⟩;obtain ⟨rfl,y⟩:=y;have:=y vs h';rw [e1] at this
 cases this
 exact ⟨H0',Ext.refl s',Rep.same s e2⟩
theorem y7{H0:Hp}{a:Addr}{vs:List V}{ds:List PyData}(h:SqT K H0 a vs)(r:Reps K H0 vs ds):ItR K H0 (Itt K a) ds:=fun H0' H' s s' i=>by
 have h':=s'.seqT (s.seqT h);refine ⟨fun d hd=> ?_,fun hi=>⟨vs,h',by rw [r.length];exact hi⟩⟩;obtain ⟨v,e1,e2⟩:=Tf.Reps.get r hd;refine ⟨⟨vs,v,h',e1⟩,fun x H2 y=> ?_⟩;obtain ⟨rfl,y⟩:=y;have:=y vs h';rw [e1] at this
 cases this
 exact ⟨H0',Ext.refl s',Rep.same s e2⟩
theorem sO{te:TE}{f:En->Option Sl}(h:RE K R te f):RI K R (vG K te) (mItems f):=fun HB σ ρ H0 H s e ds hd R q=>by
 obtain ⟨a,ha,hd⟩:=A0.mp hd
 split at hd
 . rename_i es he
   cases hd
   refine h.rv HB σ ρ H0 H s e a.dat (by unfold mDat;rw [ha];rfl) _ fun v H1 J1 x1 p1=> ?_;rw [he] at p1
   cases p1 with
   | list h1 h2=>exact ⟨_,rfl,⟨_,x1.s1.seq h1⟩,q _ _ _ x1 (cU h1 h2)⟩
 . cases hd
def G5(lo:Int)(n:Nat):List PyData:=(List.range n).map fun i=> .int (lo+(i:Nat))
theorem OV{lo:Int}{n i:Nat}:(G5 lo n)[i]? = if i<n then some (.int (lo+(i:Nat))) else none:=by
 unfold G5;rw [List.getElem?_map]
 by_cases h:i<n
 . rw [BU h,AU h];rfl
 . rw [AR h,BX (by simpa using h)];rfl
theorem XF{H0:Hp}{lo:Int}{n:Nat}:ItR K H0 (Itr lo n) (G5 lo n):=fun H0' H' s s' i=>by
 refine ⟨fun d hd=> ?_,fun hi=>show n<=i by simpa [G5] using hi⟩;rw [OV] at hd
 split at hd
 . rename_i hi
   cases hd
   exact ⟨hi,fun x H2 y=>by obtain ⟨rfl,rfl⟩:=y;exact ⟨H0',Ext.refl s', .int _⟩⟩
 . cases hd
def inB(i:Int):Prop:= -(2 ^ 62)<=i/\i<2 ^ 62
noncomputable instance (i:Int):Decidable (inB i):=Classical.propDecidable _
noncomputable def KJ(f:En->Option (List Sl)):En->Option (List PyData):=fun ρ=>(f ρ).bind fun a=>match a with
 | [.val (.int j)]=>if inB j then some (G5 0 j.toNat) else none
 | _=>none
theorem gL{ta:TA}{f:En->Option (List Sl)}(h:RQ K R ta f):RI K R (vT ta) (KJ f):=fun HB σ ρ H0 H s e ds hd R q=>by
 obtain ⟨a,ha,hd⟩:=A0.mp hd
 split at hd
 . split at hd
   . rename_i j hb
     cases hd
     refine h HB σ ρ H0 H s e _ ha _ fun vs H1 J1 x1 p1=> ?_;obtain ⟨v,rfl,pa⟩:=HY p1;exact ⟨j,by rw [pa.int],hb.1,hb.2,q _ _ _ x1 XF⟩
   . cases hd
 . cases hd
noncomputable def ON(f:En->Option (List Sl)):En->Option (List PyData):=fun ρ=>(f ρ).bind fun a=>match a with
 | [.val (.int i), .val (.int j)]=>if inB i/\inB j then some (G5 i (j - i).toNat) else none
 | _=>none
theorem g6{ta:TA}{f:En->Option (List Sl)}(h:RQ K R ta f):RI K R (vU ta) (ON f):=fun HB σ ρ H0 H s e ds hd R q=>by
 obtain ⟨a,ha,hd⟩:=A0.mp hd
 split at hd
 . split at hd
   . rename_i i j hb
     cases hd
     refine h HB σ ρ H0 H s e _ ha _ fun vs H1 J1 x1 p1=> ?_;obtain ⟨v,w,rfl,pa,pb⟩:=uL p1;exact ⟨i,j,by rw [pa.int,pb.int],⟨hb.1.1,hb.1.2,hb.2.1,hb.2.2⟩,q _ _ _ x1 XF⟩
   . cases hd
 . cases hd
def OJ(hi:Int)(n:Nat):List PyData:=(List.range n).map fun i=> .int (hi - (i:Nat))
theorem tY{H0:Hp}{hi:Int}{n:Nat}:ItR K H0 (Itd hi n) (OJ hi n):=fun H0' H' s s' i=>by
 refine ⟨fun d hd=> ?_,fun h=>show n<=i by simpa [OJ] using h⟩;unfold OJ at hd
 rw [B3] at hd
 by_cases h:i<n
 . rw [BU h] at hd
   cases hd
   exact ⟨h,fun x H2 y=>by obtain ⟨rfl,rfl⟩:=y;exact ⟨H0',Ext.refl s', .int _⟩⟩
 . rw [BX (by simpa using h)] at hd;cases hd
noncomputable def bY(f:En->Option (List Sl)):En->Option (List PyData):=fun ρ=>(f ρ).bind fun a=>match a with
 | [.val (.int i), .val (.int j), .val (.int (-1))]=>if inB i/\inB j then some (OJ i (i - j).toNat) else none
 | _=>none
theorem pZ{H0 H:Hp}{vs:List V}{a b c:Sl}(h:Paired (SlP K H0 H) vs [a,b,c]):∃v w u,vs = [v,w,u]/\SlP K H0 H v a/\SlP K H0 H w b/\SlP K H0 H u c:=by
 cases h with | cons h t=>cases t with | cons h2 t=>cases t with | cons h3 t=>cases t;exact ⟨_,_,_,rfl,h,h2,h3⟩
theorem iQ{ta:TA}{f:En->Option (List Sl)}(h:RQ K R ta f):RI K R (vX ta) (bY f):=fun HB σ ρ H0 H s e ds hd R q=>by
 obtain ⟨a,ha,hd⟩:=A0.mp hd
 split at hd
 . split at hd
   . rename_i i j hb
     cases hd
     refine h HB σ ρ H0 H s e _ ha _ fun vs H1 J1 x1 p1=> ?_;obtain ⟨v,w,u,rfl,pa,pb,pc⟩:=pZ p1;exact ⟨i,j,by rw [pa.int,pb.int,pc.int],⟨hb.1.1,hb.1.2,hb.2.1,hb.2.2⟩,q _ _ _ x1 tY⟩
   . cases hd
 . cases hd
def JK(xs ys:List PyData):List PyData:=List.zipWith (fun x y=> .tuple [x,y]) xs ys
theorem lZ{H0:Hp}{a b:Addr}{vs ws:List V}{ds es:List PyData}(h:SqL K H0 a vs)(r:Reps K H0 vs ds)(h2:SqL K H0 b ws)(r2:Reps K H0 ws es):ItR K H0 (Itz K a b) (JK ds es):=fun H0' H' s s' i=>by
 have h':=s'.seq (s.seq h);have h2':=s'.seq (s.seq h2);refine ⟨fun d hd=> ?_,fun hi=>⟨vs,ws,h',h2',?_⟩⟩
 . unfold JK at hd
   rw [A55] at hd
   cases e1:ds[i]? with
   | none=>rw [e1] at hd;cases hd
   | some x=>
    cases e2:es[i]? with
    | none=>rw [e1,e2] at hd;cases hd
    | some y=>
     rw [e1,e2] at hd
     cases hd
     obtain ⟨v,q1,q2⟩:=Tf.Reps.get r e1;obtain ⟨w,q3,q4⟩:=Tf.Reps.get r2 e2;refine ⟨⟨vs,ws,v,w,h',h2',q1,q3⟩,fun z H2 yl=> ?_⟩;obtain ⟨p,x',y',hp,rfl,rfl,hx,hy⟩:=yl;have:=hx vs h';rw [q1] at this
     cases this
     have:=hy ws h2';rw [q3] at this
     cases this
     refine ⟨_,Ext.allocF s' hp _, .tuple (SqT.of C9) ?_⟩;have s2:=s.trans (Same.upd (s'.free hp) (.tup [v,w]));exact .cons (Rep.same s2 q2) (.cons (Rep.same s2 q4) .nil)
 . rw [r.length,r2.length];unfold JK at hi
   rw [AD3] at hi
   omega
def SR(f:En->Option (List PyData)):En->Option (List PyData):=fun ρ=>(f ρ).bind fun a=>match a with
 | [.list xs, .list ys]=>some (JK xs ys)
 | _=>none
theorem yP{ta:TA}{f:En->Option (List PyData)}(h:RA K R ta f):RI K R (A95 K ta) (SR f):=fun HB σ ρ H0 H s e ds hd R q=>by
 obtain ⟨a,ha,hd⟩:=A0.mp hd
 split at hd
 . cases hd
   refine h HB σ ρ H0 H s e _ ha _ fun vs H1 J1 x1 p1=> ?_
   cases p1 with | cons p1 t=>cases t with | cons p2 t=>
    cases t
    cases p1 with | list a1 a2=>cases p2 with | list b1 b2=>
     exact ⟨_,_,rfl,⟨_,x1.s1.seq a1⟩,⟨_,x1.s1.seq b1⟩,q _ _ _ x1 (lZ a1 a2 b1 b2)⟩
 . cases hd
def LX(fg:PyData->En->Option En)(gb:En->Option Out):List PyData->En->Option Out
 | [],ρ=>some (.nx ρ)
 | d::ds,ρ=>(fg d ρ).bind fun ρ1=>(gb ρ1).bind fun o=>match o with
  | .nx ρ2=>LX fg gb ds ρ2
  | .ct ρ2=>LX fg gb ds ρ2
  | .bk ρ2=>some (.nx ρ2)
  | .rt r ρ2=>some (.rt r ρ2)
def IB(fi:En->Option (List PyData))(fg:PyData->En->Option En)(gb:En->Option Out):En->Option Out:=fun ρ=>(fi ρ).bind fun ds=>LX fg gb ds ρ
theorem QA {fg : PyData -> En -> Option En} {gb : En -> Option Out} {ds : List PyData} {i : Nat} {d : PyData} {ρ : En} (h : ds[i]? = some d) : LX fg gb (ds.drop i) ρ = (fg d ρ).bind fun ρ1 => (gb ρ1).bind fun o => match o with
 | .nx ρ2=>LX fg gb (ds.drop (i+1)) ρ2
 | .ct ρ2=>LX fg gb (ds.drop (i+1)) ρ2
 | .bk ρ2=>some (.nx ρ2)
 | .rt r ρ2=>some (.rt r ρ2):=by
 obtain ⟨hi,e⟩:=AX.mp h;rw [FU hi,e];rfl
theorem xL{wi:TI}{g:TG}{tb:TS}{fi:En->Option (List PyData)}{fg:PyData->En->Option En}{gb:En->Option Out}(hi:RI K R wi fi)(hg:RG K R g fg)(hb:RS K R tb gb):RS K R (AC2 wi g tb) (IB fi fg gb):=fun HB S0 σ ρ H0 H x e o ho D d=>by
 obtain ⟨ds,hds,ho⟩:=A0.mp ho;refine hi HB σ ρ H0 H x.s1 e ds hds _ fun J H1 J1 x1 it=> ?_;have x':=x.chain x1;refine ⟨fun i m σ H=>m=ds.length - i/\((∃ρ H0',i<=ds.length/\Ext H1 HB H0' H/\ST R HB H0' H σ ρ/\LX fg gb (ds.drop i) ρ=some o)),⟨_,rfl,ρ,H1,DF _,x'.rebase,e.ext (K:=K) x1,ho⟩,?_⟩;rintro i m σ1 H2 ⟨rfl,ρ1,H0',hile,xx,e1,hf⟩;obtain ⟨ig,is⟩:=it H0' H2 xx.s0 xx.s1 i
 by_cases hlt:i<ds.length
 . right;obtain ⟨go,yl⟩:=ig ds[i] (by simp [hlt]);rw [QA (d:=ds[i]) (by simp [hlt])] at hf
   obtain ⟨ρ2,hr2,hf⟩:=A0.mp hf;obtain ⟨o2,ho2,hf⟩:=A0.mp hf;refine ⟨go,fun σ' H'=>∃ρ H0',Ext H1 HB H0' H'/\ST R HB H0' H' σ' ρ/\LX fg gb (ds.drop (i+1)) ρ=some o,fun σ' H' ⟨ρ',H0'',a1,a2,a3⟩=>⟨ds.length - (i+1),by omega,rfl,ρ',H0'',hlt,a1,a2,a3⟩,fun v H3 y=> ?_⟩;obtain ⟨H03,x3,r3⟩:=yl v H3 y;have xx3:=xx.chain x3;refine hg HB σ1 ρ1 ρ2 H03 H3 v _ xx3.s1 xx3.s (e1.ext (K:=K) x3) r3 hr2 _ fun σ2 e2=> ?_;refine hb HB H1 σ2 ρ2 H03 H3 xx3 e2 o2 ho2 _ ?_
   cases o2 with
   | nx ρ3=>exact fun σ' H0'' H' a b=>⟨ρ3,H0'',a,b,hf⟩
   | ct ρ3=>exact fun σ' H0'' H' a b=>⟨ρ3,H0'',a,b,hf⟩
   | bk ρ3=>cases hf;exact fun σ' H0'' H' a b=>d σ' H0'' H' (x'.unbase a) b
   | rt r ρ3=>cases hf;exact fun v σ' H0'' H' a b c=>d v σ' H0'' H' (x'.unbase a) b c
 . left;refine ⟨is (by omega),?_⟩;rw [F7 (by omega)] at hf
   cases hf
   exact d σ1 H0' H2 (x'.unbase xx) e1
def FC(c:En->Option Bool)(b:En->Option Out):Nat->En->Option Out
 | 0,_=>none
 | n + 1, ρ => (c ρ).bind fun k => if k then (b ρ).bind fun o => match o with
  | .nx ρ2=>FC c b n ρ2
  | .ct ρ2=>FC c b n ρ2
  | .bk ρ2=>some (.nx ρ2)
  | .rt r ρ2=>some (.rt r ρ2)
  else some (.nx ρ)
open Classical in
noncomputable def K8(c:En->Option Bool)(b:En->Option Out):En->Option Out:=fun ρ=>if h:∃o n,FC c b n ρ=some o then some h.choose else none
theorem JV{c:En->Option Bool}{b:En->Option Out}:∀ {n:Nat} {ρ:En} {o:Out},FC c b n ρ=some o->∀m,n<=m->FC c b m ρ=some o
 | 0,_,_,h,_,_=>by cases h
 | n+1,ρ,o,h,m,hm=>by
  obtain ⟨m,rfl⟩:∃k,m=k+1:=⟨m - 1,by omega⟩;unfold FC at h ⊢
  obtain ⟨k,hk,h⟩:=A0.mp h;rw [hk]
  cases k with
  | false=>exact h
  | true=>
   show Option.bind _ _=_;simp only [FP] at h
   obtain ⟨o2,h2,h⟩:=A0.mp h;rw [h2]
   cases o2 with
   | nx ρ2=>exact JV (n:=n) h m (by omega)
   | ct ρ2=>exact JV (n:=n) h m (by omega)
   | bk ρ2=>exact h
   | rt r _=>exact h
theorem V1{c:En->Option Bool}{b:En->Option Out}{ρ:En}{o:Out}{n:Nat}(h:FC c b n ρ=some o):K8 c b ρ=some o:=by
 have hx:∃o n,FC c b n ρ=some o:=⟨o,n,h⟩;unfold K8;rw [dif_pos hx];obtain ⟨m,hm⟩:=hx.choose_spec;have h1:=JV h (max n m) (Nat.le_max_left _ _);have h2:=JV hm (max n m) (Nat.le_max_right _ _);rw [<-h2,h1]
theorem YS{c:En->Option Bool}{b:En->Option Out}{ρ:En}{o:Out}(h:K8 c b ρ=some o):∃n,FC c b n ρ=some o:=by
 unfold K8 at h
 split at h
 . rename_i hx;obtain ⟨m,hm⟩:=hx.choose_spec
   cases h
   exact ⟨m,hm⟩
 . cases h
theorem m7{c:TT}{tb:TS}{fc:En->Option Bool}{gb:En->Option Out}(hc:RT K R c fc)(hb:RS K R tb gb):RS K R (kP c tb) (K8 fc gb):=fun HB S0 σ ρ H0 H x e o ho D d=>by
 obtain ⟨n,hn⟩:=YS ho;refine ⟨fun m σ H=>∃ρ H0,Ext S0 HB H0 H/\ST R HB H0 H σ ρ/\FC fc gb m ρ=some o,⟨n,ρ,H0,x,e,hn⟩,?_⟩;rintro m σ1 H1 ⟨ρ1,H01,x1,e1,hw⟩
 cases m with
 | zero=>cases hw
 | succ m=>
  unfold FC at hw
  obtain ⟨k,hk,hw⟩:=A0.mp hw;refine hc HB σ1 ρ1 H01 H1 x1.s1 e1 k hk _ fun H2 J2 x2=> ?_;have x12:=x1.chain x2
  cases k with
  | false=>cases hw;exact i9 (d σ1 H2 J2 x12 (e1.ext (K:=K) x2))
  | true=>
   simp only [FP] at hw
   obtain ⟨o2,h2,hw⟩:=A0.mp hw;refine iJ ⟨fun σ' H'=>∃ρ H0,Ext S0 HB H0 H'/\ST R HB H0 H' σ' ρ/\FC fc gb m ρ=some o,fun σ' H' h=>⟨m,O6 m,h⟩,?_⟩;refine hb HB S0 σ1 ρ1 H2 J2 x12 (e1.ext (K:=K) x2) o2 h2 _ ?_
   cases o2 with
   | nx ρ3=>exact fun σ' H0'' H' a b=>⟨ρ3,H0'',a,b,hw⟩
   | ct ρ3=>exact fun σ' H0'' H' a b=>⟨ρ3,H0'',a,b,hw⟩
   | bk ρ3=>cases hw;exact fun σ' H0'' H' a b=>d σ' H0'' H' a b
   | rt r ρ3=>cases hw;exact fun v σ' H0'' H' a b c=>d v σ' H0'' H' a b c
def mAsgT(g:PyData->En->Option En)(f:En->Option Sl):En->Option Out:=fun ρ=>(f ρ).bind fun r=>(g r.dat ρ).map .nx
theorem uH{te:TE}{g:TG}{f:En->Option Sl}{fg:PyData->En->Option En}(h:RE K R te f)(hg:RG K R g fg):RS K R (Z2 te g) (mAsgT fg f):=fun HB S0 σ ρ H0 H x e o ho D d=>by
 obtain ⟨r,hr,ho⟩:=Option.bind_eq_some_iff.mp ho;obtain ⟨ρ',hg',rfl⟩:=Option.map_eq_some_iff.mp ho;refine h.rv HB σ ρ H0 H x.s1 e r.dat (by unfold mDat;rw [hr];rfl) _ fun v H1 J1 x1 p1=> ?_;have x':=x.chain x1;exact hg HB σ ρ ρ' H1 J1 v _ x'.s1 x'.s (e.ext (K:=K) x1) p1 hg' _ fun σ' e'=>d σ' H1 J1 x' e'
def mPar(i j:Nat)(f:En->Option (List PyData)):En->Option Out:=fun ρ=>(f ρ).bind fun ds=>match ds with
 | [a,b]=>some (.nx ((ρ.set i (some (.val a))).set j (some (.val b))))
 | _=>none
end
end Dm
namespace Tf
open PySem L2
theorem oJ(x y:Int):Int.gcd y (x.fmod y)=Int.gcd x y:=by
 have e:x.fmod y=x - y*x.fdiv y:=wE x y;rw [e,Int.gcd_comm x y];simp
theorem rD{x y:Int}(h:y≠0):(x.fmod y).natAbs<y.natAbs:=by
 rcases (by omega:0<y\/y<0) with p | p
 . have h1:=F8 x p;have h2:=LR x p;omega
 . have e : x.fmod y = -((-x).fmod (-y)) := by
    rw [wE,wE,Int.neg_fdiv_neg];simp [GH];omega
   have h1:=F8 (-x) (show 0 < -y by omega);have h2:=LR (-x) (show 0 < -y by omega);omega
def sg(a b:Int):Int:=if b<0 then -((Int.gcd a b:Nat):Int) else ((Int.gcd a b:Nat):Int)
def fr(a b:Int):Int×Int:=(a.fdiv (sg a b),b.fdiv (sg a b))
theorem ZG{a b:Int}(h:b≠0):sg a b≠0:=by
 have:Int.gcd a b≠0:=by
  intro e;exact h (Int.gcd_eq_zero_iff.mp e).2
 unfold sg
 split <;> omega
theorem nH(a b:Int):sg a b ∣ a/\sg a b ∣ b:=by
 have h1:=Int.gcd_dvd_left a b;have h2:=Int.gcd_dvd_right a b;unfold sg
 split
 . exact ⟨Int.neg_dvd.mpr h1,Int.neg_dvd.mpr h2⟩
 . exact ⟨h1,h2⟩
theorem YF{a d:Int}(hd:d≠0)(h:d ∣ a):a.fdiv d*d=a:=Int.fdiv_mul_cancel h
theorem bB(a b:Int)(h:b≠0):(fr a b).1*sg a b=a/\(fr a b).2*sg a b=b:=
 ⟨YF (ZG h) (nH a b).1,YF (ZG h) (nH a b).2⟩
theorem PX{a b:Int}(h:b≠0):0<(fr a b).2:=by
 have e:=(bB a b h).2
 have s:(b<0/\sg a b<0)\/(0<b/\0<sg a b):=by
  have:=ZG (a:=a) h;unfold sg at *
  split at * <;> omega
 rcases s with ⟨s1,s2⟩ | ⟨s1,s2⟩
 . rcases (by omega:0<(fr a b).2\/(fr a b).2<=0) with p | p
   . exact p
   . have:=Int.mul_nonneg_of_nonpos_of_nonpos p (LK s2);omega
 . rcases (by omega:0<(fr a b).2\/(fr a b).2<=0) with p | p
   . exact p
   . have:=Int.mul_nonpos_of_nonpos_of_nonneg p (LK s2);omega
theorem sg_abs(a b:Int):(sg a b).natAbs=Int.gcd a b:=by
 unfold sg
 split <;> omega
theorem WH{a b:Int}(h:b≠0):Int.gcd (fr a b).1 (fr a b).2=1:=by
 have e:=bB a b h;have g:Int.gcd ((fr a b).1*sg a b) ((fr a b).2*sg a b)=Int.gcd (fr a b).1 (fr a b).2*(sg a b).natAbs:=Int.gcd_mul_right _ _ _;rw [e.1,e.2,sg_abs] at g
 have hp:0<Int.gcd a b:=by
  have:=ZG (a:=a) h;have:=sg_abs a b;omega
 have:Int.gcd (fr a b).1 (fr a b).2*Int.gcd a b=1*Int.gcd a b:=by omega
 exact Nat.eq_of_mul_eq_mul_right hp this
theorem KK{a b:Int}(h:b≠0):(fr a b).1*b=a*(fr a b).2:=by
 have e:=bB a b h
 calc (fr a b).1*b=(fr a b).1*((fr a b).2*sg a b):=by rw [e.2]
  _=((fr a b).1*sg a b)*(fr a b).2:=by rw [CN (fr a b).2,CK]
  _=a*(fr a b).2:=by rw [e.1]
theorem AA7{n:Nat}{a b:Int}(h:b≠0)(hb:Bt n b):Bt n (sg a b):=by
 refine hb.of_le ?_;rw [sg_abs];have h2:=FQ.mpr (WR a b);exact Nat.le_of_dvd (by omega) (by simpa using h2)
def cC(K:PySem.W.Frag):Sp:=fun vs H Q _=>∃(a:Addr) (ns:List Int),vs = [.ref a]/\SqL K H a (ns.map V.int)/\ns.length<=63/\∀H',Q (.bl true) H'
end Tf
namespace Dm
open PySem PySem.Spec PyProof.Rows L2 Tf
section
variable {K:PySem.W.Frag}
def CP(ix:List (Option Nat))(ρ:En):En:=ix.map fun o=>match o with | some j=>(ρ[j]?).join | none=>none
theorem WL:∀ {ix:List (Option Nat)},(ix.filterMap id).Nodup->∀ {i k j:Nat},ix[i]? = some (some j)->ix[k]? = some (some j)->i=k
 | [],_,i,k,j,h,_=>by simp at h
 | o::r,hn,i,k,j,h1,h2=>by
  have hr:(r.filterMap id).Nodup:=by
   cases o with
   | none=>simpa using hn
   | some a=>have hn:(a::r.filterMap id).Nodup:=hn;exact (IR.mp hn).2
  have out:∀ {k:Nat},o=some j->r[k]? = some (some j)->False:=by
   intro k ho hk;subst ho;have hn:(j::r.filterMap id).Nodup:=hn;exact (IR.mp hn).1 (LP.mpr ⟨some j,B2 hk,rfl⟩)
  cases i with
  | zero=>
   cases k with
   | zero=>rfl
   | succ k=>simp at h1 h2;exact (out h1 h2).elim
  | succ i=>
   cases k with
   | zero=>simp at h1 h2;exact (out h2 h1).elim
   | succ k=>simp at h1 h2;rw [WL hr h1 h2]
theorem GB{ix:List (Option Nat)}{ρ:En}{i:Nat}{s:Sl}(h:(CP ix ρ)[i]? = some (some s)):∃j,ix[i]? = some (some j)/\ρ[j]? = some (some s):=by
 unfold CP at h
 rw [B3] at h
 cases e:ix[i]? with
 | none=>rw [e] at h;cases h
 | some o=>
  rw [e] at h
  cases o with
  | none=>cases h
  | some j=>exact ⟨j,rfl,join_some (B6 h)⟩
theorem JI{ix:List (Option Nat)}{σ:L2.St}{i j:Nat}(h:ix[i]? = some (some j)):(F3 ix σ)[i]? = some (σ[j]?).join:=by
 unfold F3;rw [List.getElem?_map,h];rfl
theorem ER.sub{HB H0 H:Hp}{σ:L2.St}{ρ:En}{ix:List (Option Nat)}(hx:(ix.filterMap id).Nodup)(e:ER K HB H0 H σ ρ):ER K (fun _=>none) H0 H (F3 ix σ) (CP ix ρ):=by
 refine ⟨by unfold F3 CP;rw [List.length_map,List.length_map],fun i s h=> ?_,fun i k a ds es hik h1 h2 h3 h4=> ?_⟩
 . obtain ⟨j,h1,h2⟩:=GB h;obtain ⟨v,h3,h4⟩:=e.get j s h2;refine ⟨v,by rw [JI h1,h3];rfl,?_⟩
   cases s with
   | val d=>exact h4
   | own ds=>
    obtain ⟨a,vs,q1,_,q2⟩:=h4
    exact ⟨a,vs,q1,rfl,q2⟩
   | dct ds=>
    obtain ⟨a,vs,q1,_,q2⟩:=h4;exact ⟨a,vs,q1,rfl,q2⟩
 . obtain ⟨j,g1,g2⟩:=GB h1;obtain ⟨l,g3,g4⟩:=GB h2
   have hjl:j≠l:=by
    rintro rfl;exact hik (WL hx g1 g3)
   rw [JI g1] at h3
   rw [JI g3] at h4
   exact e.apart j l a ds es hjl g2 g4 (join_some (B6 h3)) (join_some (B6 h4))
def MA(f:PyData->Option (Option PyData)):List PyData->Option (List PyData)
 | []=>some []
 | d::ds=>(f d).bind fun r=>(MA f ds).map fun GX=>match r with
  | some x=>x::GX
  | none=>GX
def elM(fg:PyData->En->Option En)(ft:En->Option Bool)(fe:En->Option Sl)(ρ0:En):PyData->Option (Option PyData):=fun d=>(fg d ρ0).bind fun ρ'=>(ft ρ').bind fun b=>if b then (fe ρ').map (fun r=>some r.dat) else some none
def mLC(sb:En->En)(fi:En->Option (List PyData))(fg:PyData->En->Option En)(ft:En->Option Bool)(fe:En->Option Sl):En->Option Sl:=fun ρ=>(fi ρ).bind fun ds=>
 if ds.length<sizeLine then (MA (elM fg ft fe (sb ρ)) ds).map .own else none
def mYes:En->Option Bool:=fun _=>some true
theorem A13{R:Rl}:RT K R tNoTest mYes:=fun HB σ ρ H0 H s e b hb Q q=>by cases hb;exact q _ _ (Ext.refl s)
theorem vP {R R' : Rl} [RelOk K R] [RelOk K R'] {sb : En -> En} {ix : List (Option Nat)} {wi : TI} {g : CB -> TG} {tt : CB -> TT} {te : CB -> TE} {fi : En -> Option (List PyData)} {fg : PyData -> En -> Option En} {ft : En -> Option Bool} {fe : En -> Option Sl}
 (hx:∀(HB:Hp) (σ:L2.St) (ρ:En) (H0 H:Hp),R.r HB H0 H σ ρ->R'.r (fun _=>none) H0 H (F3 ix σ) (sb ρ))
 (hi:RI K R wi fi) (hg:∀b,RG K R' (g b) fg) (ht:∀b,RT K R' (tt b) ft) (he:∀b,RE K R' (te b) fe):RE K R (tLC ix wi g tt te) (mLC sb fi fg ft fe):=fun HB σ ρ H0 H s e z hz Q q=>by
 obtain ⟨ds,hds,hz⟩:=A0.mp hz
 split at hz
 . rename_i hlen;obtain ⟨all,hall,rfl⟩:=B0.mp hz;refine hi HB σ ρ H0 H s e ds hds _ fun J H1 J1 x1 it b=> ?_;have e1:ST R' (fun _=>none) H1 J1 (F3 ix σ) (sb ρ):=⟨hx HB σ ρ H1 J1 (e.ext (K:=K) x1).r⟩;refine ⟨fun i m ys H=>m=ds.length - i/\i<=ds.length/\∃H0' es GX,Ext H1 J1 H0' H/\Reps K H0' ys es/\es.length<=i/\MA (elM fg ft fe (sb ρ)) (ds.drop i)=some GX/\es++GX=all,⟨_,rfl,DF _,H1,[],all,Ext.refl x1.s1, .nil,A8 _,hall,rfl⟩,?_⟩;rintro i m ys H2 ⟨rfl,hile,H0',es,GX,xx,hr,hel,hc,hsum⟩;obtain ⟨ig,is⟩:=it H0' H2 xx.s0 xx.s1 i;refine ⟨by rw [hr.length];omega,?_⟩
   by_cases hlt:i<ds.length
   . right;obtain ⟨go,yl⟩:=ig ds[i] (by simp [hlt]);rw [FU hlt] at hc
     obtain ⟨r,hr1,hc⟩:=A0.mp (show (elM fg ft fe (sb ρ) ds[i]).bind _=some GX from hc);obtain ⟨rest',hr2,hc⟩:=B0.mp hc;refine ⟨go,fun ys' H'=>∃H0' es GX,Ext H1 J1 H0' H'/\Reps K H0' ys' es/\es.length<=i+1/\MA (elM fg ft fe (sb ρ)) (ds.drop (i+1))=some GX/\es++GX=all,fun ys' H' h=>⟨ds.length - (i+1),by omega,rfl,hlt,h⟩,fun v H3 y=> ?_⟩;obtain ⟨H03,x3,r3⟩:=yl v H3 y;obtain ⟨ρ',hg',hb'⟩:=A0.mp hr1;obtain ⟨bb,hbb,hb'⟩:=A0.mp hb';have xx3:=xx.trans x3;refine hg b (fun _=>none) _ _ ρ' H03 H3 v _ x3.s1 (fun _ _ h=>by cases h) (e1.ext (K:=K) xx3) r3 hg' _ fun σ2 e2=> ?_;refine ht b _ σ2 ρ' H03 H3 x3.s1 e2 bb hbb _ fun H4 J4 x4=> ?_
     cases bb with
     | true=>
      refine iJ ?_;obtain ⟨rr,hrr,rfl⟩:=Option.map_eq_some_iff.mp (show (fe ρ').map (fun r=>some r.dat)=some r from hb');refine (he b).rv _ σ2 ρ' H4 J4 x4.s1 (e2.ext (K:=K) x4) rr.dat (by unfold mDat;rw [hrr];rfl) _ fun w H5 J5 x5 p5=> ?_;refine ⟨H5,es ++ [rr.dat],rest',(xx3.trans x4).trans x5,Tf.Reps.snoc (Reps.same ((x3.s0.trans x4.s0).trans x5.s0) hr) p5,by rw [List.length_append];simpa using hel,hr2,?_⟩;rw [<-hsum, <-hc,List.append_assoc]
      rfl
     | false=>
      refine i9 ?_
      cases hb'
      exact ⟨H4,es,rest',xx3.trans x4,Reps.same (x3.s0.trans x4.s0) hr,by omega,hr2,by rw [<-hsum, <-hc]⟩
   . left;have hi':i=ds.length:=by omega
     refine ⟨is (by omega),fun p hp=> ?_⟩;rw [F7 (by omega)] at hc
     cases hc
     rw [DK] at hsum
     subst hsum;have xy:=x1.trans xx;exact q _ _ _ (xy.trans (Ext.alloc xx.s1 hp _)) ⟨p,ys,rfl,xy.s.free hp,xx.s1.free hp,C9,hr⟩
 . cases hz
def EU(n:Nat)(g:En->Option Out)(k:Nat):List PyData->Option Sl:=fun ds=>if ds.length=k then (g (ds.map (fun d=>some (.val d))++List.replicate (n - ds.length) none)).bind fun o=>match o with
 | .rt r _=>some r
 | .nx _=>some (.val .none)
 | _=>none else none
theorem XT{N:List Str}{H0 H:Hp}{vs:List V}{ds:List PyData}(h:Reps K H0 vs ds):ER K H H0 H (L2.start N vs) (ds.map (fun d=>some (.val d))++List.replicate (N.length - ds.length) none):=by
 have hl:=h.length
 have noown:∀(i:Nat) s,(ds.map (fun d=>some (Sl.val d))++List.replicate (N.length - ds.length) none)[i]? = some (some s)->∃d,ds[i]? = some d/\s = .val d:=by
  intro i s hs
  by_cases hi:i<ds.length
  . rw [A9 (by simpa using hi),B3,AD hi] at hs
    cases hs
    exact ⟨_,AD hi,rfl⟩
  . rw [A6 (by simpa using hi),D8] at hs
    split at hs <;> cases hs
 refine ⟨?_,fun i s hs=> ?_,fun i j a xs ys _ h1 _ _ _=> ?_⟩
 . unfold L2.start;simp only [List.length_append,List.length_map,List.length_replicate,hl]
 . obtain ⟨d,hd,rfl⟩:=noown i s hs;obtain ⟨v,h1,h2⟩:=Tf.Reps.get h hd;refine ⟨v,?_,h2⟩;unfold L2.start;have hi:i<vs.length:=(List.getElem?_eq_some_iff.mp h1).1;rw [List.getElem?_append_left (by simpa using hi),List.getElem?_map,h1];rfl
 . obtain ⟨d,_,e⟩:=noown i _ h1
   cases e
section
variable {P:Program} {w:World} {mg:Str->Option Value} {base:Heap}
def DSs(X:Cx)(R:Rl)(st:List Stmt)(g:En->Option Out):Prop:=∃t,PSs X st t/\RS X.K R t g
theorem fnD {x qual : Str} {st : Stmt} {f : Addr} {fd : FuncData} {N ps : List Str} {k n m : Nat} {g : En -> Option Out} (F : Fun K x qual st f fd) (S : FnScope N ps (AQ st)) (hn : N.length = n) (hm : ps.length = m)
 (hb:∀(cdv:Value) (A:Around) (outer:List Env) (s:Shared) (H:Hp) (E:XK),Room k (A.deeper (envOfC qual (AQ st) s.heap.objs.size f cdv))->DSs (QQ CX0 P w K mg base N qual (AQ st) f cdv A outer s H E).nox (PR K) (HZ st) g) :
 FnOk P w K mg base CX0 (k+1) f fd ps (spD K (EU n g m)):=by
 subst hn hm;refine F.ok S (fun vs H Q E h=> ?_) fun cdv A outer s H vs Q E hr h=> ?_
 . obtain ⟨H0,ds,r,s,hr,hf,_⟩:=h;unfold EU at hf
   split at hf
   . rename_i hl;rw [hr.length,hl]
   . cases hf
 . obtain ⟨t,ht,rs⟩:=hb cdv A outer s H E hr;refine ⟨t,ht,?_⟩;obtain ⟨H0,ds,r,s0,hr,hf,q⟩:=h;unfold EU at hf
   split at hf
   . obtain ⟨o,ho,hf⟩:=A0.mp hf;refine rs H H0 _ _ H0 H (Ext.refl s0) ⟨XT hr⟩ o ho _ ?_
     cases o with
     | rt r' _=>cases hf;exact fun v σ H1 J1 a _ b=>q v H1 J1 a b
     | nx _=>cases hf;exact fun σ H1 J1 a b=>q .non H1 J1 a .none
     | bk _=>cases hf
     | ct _=>cases hf
   . cases hf
end
end
theorem rM{K:PySem.W.Frag}{F:List PyData->Option Sl}(hL:∀ns:List Int,ns.length<=63->F [.list (ns.map .int)]=some (.val (.bool true))){vs:List V}{H:Hp}{Q:VK}{E:XK}(h:cC K vs H Q E):spD K F vs H Q E:=by
 obtain ⟨a,ns,rfl,h1,h2,q⟩:=h
 have allI:∀ns:List Int,Reps K H (ns.map V.int) (ns.map .int):=fun ns=>by
  induction ns with
  | nil=>exact .nil
  | cons n r ih=>exact .cons (.int n) ih
 refine ⟨H,[.list (ns.map .int)], .val (.bool true),Same.refl H, .cons (.list h1 (allI ns)) .nil,hL ns h2,fun v H0' H' x p=> ?_⟩
 cases (show Rep K H0' v (.bool true) from p)
 exact q H'
section
variable {X:Cx} {R R':Rl} [RelOk X.K R] [RelOk X.K R'] {a b c e:Expr} {pos p:Pos} {f g fa fb fc:En->Option Sl}
def DE(X:Cx)(R:Rl)(e:Expr)(f:En->Option Sl):Prop:=∃te,PE X e te/\RE X.K R te f
def DP(X:Cx)(R:Rl)(e:Expr)(f:En->Option Sl):Prop:=∃te,PE X e te/\RP X.K R te f
def DA(X:Cx)(R:Rl)(es:List Expr)(f:En->Option (List PyData)):Prop:=∃ta,PA X es ta/\RA X.K R ta f
def DQ(X:Cx)(R:Rl)(es:List Expr)(f:En->Option (List Sl)):Prop:=∃ta,PA X es ta/\RQ X.K R ta f
def DT(X:Cx)(R:Rl)(e:Expr)(f:En->Option Bool):Prop:=∃tt,PT X e tt/\RT X.K R tt f
def DW(X:Cx)(R:Rl)(e:Expr)(f:En->Option Bool):Prop:=∃tt,PW X e tt/\RT X.K R tt f
def DO(X:Cx)(R:Rl)(e:Option Expr)(f:En->Option (Option Int)):Prop:=∃to,PO X e to/\RO X.K R to f
def DS(X:Cx)(R:Rl)(st:Stmt)(g:En->Option Out):Prop:=∃t,PS X st t/\RS X.K R t g
def DG(X:Cx)(R:Rl)(e:Expr)(g:PyData->En->Option En):Prop:=∃t,PG X e t/\RG X.K R t g
def DGs(X:Cx)(R:Rl)(es:List Expr)(gs:List (PyData->En->Option En)):Prop:=∃t,PGs X es t/\RGs X.K R t gs
def DI(X:Cx)(R:Rl)(tg e:Expr)(f:En->Option (List PyData)):Prop:=∃wi,PI X tg e wi/\RI X.K R wi f
theorem DE.dp(h:DE X R e f):DP X R e f:=by obtain ⟨t,h1,h2⟩:=h;exact ⟨t,h1,h2.rp⟩
theorem A5 (i : Nat) {x : Str} (hN : X.N[i]? = some x := by rfl) (hv : Vis X.env.scope x := by first | exact E5 rfl | exact CL (E5 rfl) | exact CL (CL rfl)) (hd : (x == ("__debug__" : Str)) = false := by decide)
 (hcd:(x==("__classdict__" : Str))=false:=by decide) (hsl:R.slot i:=by first | exact E4 | exact ⟨AE rfl,AE rfl⟩):DP X R (.Name x pos) (mPk i):=⟨_,GV hN hv hd hcd,zH i hsl⟩
theorem AC (i : Nat) {x : Str} (hN : X.N[i]? = some x := by rfl) (hv : Vis X.env.scope x := by first | exact E5 rfl | exact CL (E5 rfl) | exact CL (CL rfl)) (hd : (x == ("__debug__" : Str)) = false := by decide)
 (hcd:(x==("__classdict__" : Str))=false:=by decide) (hsl:R.slot i:=by first | exact E4 | exact ⟨AE rfl,AE rfl⟩):DE X R (.Name x pos) (mVar i):=⟨_,GV hN hv hd hcd,xJ i hsl⟩
theorem AM{i:Int}{j}:DE X R (.Constant (.int i) j pos) (mK (.int i)):=⟨_,yH,jW fun _=> .int i⟩
theorem VB{i:Bool}{j}:DE X R (.Constant (.bool i) j pos) (mK (.bool i)):=⟨_,A71,jW fun _=> .bool i⟩
theorem R7{j}:DE X R (.Constant .none j pos) (mK .none):=⟨_,zR,jW fun _=> .none⟩
theorem NN{i:Str}{j}:DE X R (.Constant (.str i) j pos) (mK (.str i)):=⟨_,xV,jW fun _=> .str i⟩
theorem qD {x:Str} {v:V} {u:Value} {d:PyData} (hm:X.mg x=some u) (r:RelV v u) (h:∀H0:Hp,Rep X.K H0 v d) (hg:Gl X x:=by rfl) (hd:(x==("__debug__" : Str))=false:=by decide):DE X R (.Name x pos) (mK d):=⟨_,sK hg hm r hd,jW h⟩
theorem UX{o:Operator}{r:R2}{op:Sl->Sl->Option Sl}(ho:OpR X (binaryOp o) r)(hd:OpD X.K r op)(ha:DP X R a fa)(hb:DP X R b fb):DE X R (.BinOp a o b pos) (mBin op fa fb):=by
 obtain ⟨ta,h1,h2⟩:=ha;obtain ⟨tb,h3,h4⟩:=hb;exact ⟨_,A80 ho h1 h3,W8 hd h2 h4⟩
def dAddI:Sl->Sl->Option Sl:=iop fun i j=>i+j
def dSub:Sl->Sl->Option Sl:=iop fun i j=>i - j
def TJ(i j:Int):Prop:=CMul i j\/vS i j
theorem qB:OpR X (binaryOp .Mult) (rI TJ fun i j=> .int (i*j)):=opI fun _ _ _ _ _ _ _ hc q=>by
 rcases hc with hc | ⟨n,m,h1,h2,h3⟩
 . exact mul_int q hc.ok
 . exact mul_int q (A97 h1 h2 h3)
noncomputable def vW:Sl->Sl->Option Sl:=YI TJ fun i j=>i*j
noncomputable def DN:Sl->Sl->Option Sl:=YI j8 fun i j=>i.fdiv j
noncomputable def EH:Sl->Sl->Option Sl:=YI (fun _ j=>j≠0) fun i j=>i.fmod j
theorem PQ(ha:DP X R a fa)(hb:DP X R b fb):DE X R (.BinOp a .Sub b pos) (mBin dSub fa fb):=UX wX tZ ha hb
theorem F0(ha:DP X R a fa)(hb:DP X R b fb):DE X R (.BinOp a .FloorDiv b pos) (mBin DN fa fb):=UX mZ TF ha hb
theorem EJ(ha:DP X R a fa)(hb:DP X R b fb):DE X R (.BinOp a .Mod b pos) (mBin EH fa fb):=UX sM TF ha hb
def vN(K:PySem.W.Frag):R2:=fun x y H Q=>∃l b xs zs,x = .ref l/\y = .ref b/\SqL K H l xs/\SqL K H b zs/\xs.length+zs.length<=sizeLine/\∀p,H p=none->Q (.ref p) (upd H p (.lst (xs++zs)))
theorem tD:OpR X (binaryOp .Add) (vN X.K):=by
 intro pins s σ H x y v u Q I rx ry h;obtain ⟨l,b,xs,zs,rfl,rfl,hH,hB,hz,q⟩:=h
 cases rx
 cases ry
 obtain ⟨its,r,p1,_⟩:=I.list hH;obtain ⟨its2,r2,p2,_⟩:=I.list hB;obtain ⟨⟨cls,dd,data,sl⟩,n,ho,hc,hd1,hd⟩:=id p1;obtain ⟨⟨cls2,dd2,data2,sl2⟩,n2,ho2,hc2,hd2',hd2⟩:=id p2;simp only at hc hd hc2 hd2
 subst hc hd hc2 hd2;have l1:=r.length;have l2:=r2.length;refine j3 ⟨_,ho,rfl⟩ ⟨_,ho2,rfl⟩ noFill_list_add seq_list_add PySem.F.slot_list_add PySem.F.entry_list_add (PySem.F.args_list_add_2 _ _) (list_addW l b its.toArray its2.toArray n n2 dd dd2 sl sl2 (by rw [AF,AF];omega)) ⟨ho,ho2,?_⟩;have ea:its.toArray++its2.toArray=(its++its2).toArray:=by simp
 rw [ea];exact ⟨.ref _,_,I.lnew (t':=s.toks) (r.append r2) (by rw [AO];omega),rfl,q _ I.fresh⟩
def pD(K:PySem.W.Frag):R2:=fun x y H Q=>∃a b ys,x = .ref a/\y = .ref b/\SqT K H a []/\SqT K H b ys/\Q (.ref b) H
theorem jU:OpR X (binaryOp .Add) (pD X.K):=by
 intro pins s σ H x y v u Q I rx ry h;obtain ⟨a,b,ys,rfl,rfl,ha,hb,q⟩:=h
 cases rx
 cases ry
 obtain ⟨its,r1,p1,_⟩:=I.tuple ha;obtain ⟨its2,r2,p2,_⟩:=I.tuple hb
 cases r1
 obtain ⟨⟨cls,dd,data,sl⟩,ho,hc,n,hd⟩:=id p1;obtain ⟨⟨cls2,dd2,data2,sl2⟩,ho2,hc2,n2,hd2⟩:=id p2;simp only at hc hd hc2 hd2
 subst hc hd hc2 hd2
 exact j3 ⟨_, ho, rfl⟩ ⟨_, ho2, rfl⟩ pP AD8 PD O9 (NK _ _)
  (tuple_addW0 a b ([]:List Value).toArray its2.toArray n n2 dd dd2 sl sl2 (by simp)) ⟨ho,ho2, .ref b,H,I,rfl,q⟩
def uZ(K:PySem.W.Frag):R2:=fun x y H Q=>rI0 (fun i j=> .int (i+j)) x y H Q\/vN K x y H Q\/pD K x y H Q\/vY K x y H Q\/(∃i j,x = .str i/\y = .str j/\i.length+j.length<=sizeLine/\Q (.str (i++j)) H)
theorem qQ:OpR X (binaryOp .Add) (uZ X.K):=yN.or (tD.or (jU.or (sS.or aF)))
def dAdd(a b:Sl):Option Sl:=match a.dat,b.dat with
 | .int i, .int j=>some (.val (.int (i+j)))
 | .list xs, .list ys=>if xs.length+ys.length<=sizeLine then some (.own (xs++ys)) else none
 | .tuple xs, .tuple ys=>if xs.length+ys.length<=sizeLine then some (.val (.tuple (xs++ys))) else none
 | .str i, .str j=>if i.length+j.length<=sizeLine then some (.val (.str (i++j))) else none
 | _,_=>none
theorem SlP.atom{K:PySem.W.Frag}{H0 H:Hp}{v:V}{d:PyData}{r:Sl}(h:SlP K H0 H v r)(e:r.dat=d)(n:∀ds,d ≠ .list ds)(n2:∀kvs,d ≠ .dict kvs:=by intro _ h;cases h):Rep K H0 v d:=by
 cases r with
 | val _=>cases e;exact h
 | own _=>exact absurd e.symm (n _)
 | dct _=>exact absurd e.symm (n2 _)
theorem Reps.append{K:PySem.W.Frag}{H:Hp}:∀ {vs ws:List V} {ds es:List PyData},Reps K H vs ds->Reps K H ws es->Reps K H (vs++ws) (ds++es)
 | _,_,_,_, .nil,h=>h
 | _,_,_,_, .cons a t,h=> .cons a (Reps.append t h)
theorem uF{K:PySem.W.Frag}:OpD K (uZ K) dAdd:=fun H0 H x y sx sy z s px py hz Q q=>by
 unfold dAdd at hz
 split at hz
 . rename_i i j e1 e2
   cases hz
   cases px.atom e1 (fun _ h=>nomatch h)
   cases py.atom e2 (fun _ h=>nomatch h)
   exact .inl ⟨_,_,rfl,rfl,q _ _ _ (Ext.refl s) (.int _)⟩
 . rename_i xs ys e1 e2
   split at hz
   . rename_i hl
     cases hz
     obtain ⟨a,vs,rfl,h1,h2⟩:=px.lst s e1;obtain ⟨b,ws,rfl,h3,h4⟩:=py.lst s e2;exact .inr (.inl ⟨a,b,vs,ws,rfl,rfl,h1,h3,by rw [h2.length,h4.length];exact hl,fun p hp=>q _ _ _ (Ext.alloc s hp _) ⟨p,_,rfl,hp,s.free hp,C9,Reps.append h2 h4⟩⟩)
   . cases hz
 . rename_i xs ys e1 e2
   split at hz
   . rename_i hl
     cases hz
     obtain ⟨a,vs,rfl,h1,h2⟩:=px.tup e1;obtain ⟨b,ws,rfl,h3,h4⟩:=py.tup e2
     by_cases hv:vs = []
     . subst hv
       cases h2
       exact .inr (.inr (.inl ⟨a,b,ws,rfl,rfl,s.seqT h1,s.seqT h3,q _ _ _ (Ext.refl s) (.tuple h3 h4)⟩))
     . refine .inr (.inr (.inr (.inl ⟨a,b,vs,ws,rfl,rfl,s.seqT h1,s.seqT h3,hv,by rw [h2.length,h4.length];exact hl,fun hw=> ?_,fun hw p hp=> ?_⟩)))
       . subst hw
         cases h4
         rw [DK] at q
         exact q _ _ _ (Ext.refl s) (.tuple h1 h2)
       . exact q _ _ _ (Ext.allocF s hp _) (.tuple (SqT.of C9) (Reps.same (Same.upd (s.free hp) _) (Reps.append h2 h4)))
   . cases hz
 . rename_i i j e1 e2
   split at hz
   . rename_i hl
     cases hz
     cases px.atom e1 (fun _ h=>nomatch h)
     cases py.atom e2 (fun _ h=>nomatch h)
     exact .inr (.inr (.inr (.inr ⟨_,_,rfl,rfl,hl,q _ _ _ (Ext.refl s) (.str _)⟩)))
   . cases hz
 . cases hz
theorem E9(ha:DP X R a fa)(hb:DP X R b fb):DE X R (.BinOp a .Add b pos) (mBin dAdd fa fb):=UX qQ uF ha hb
noncomputable def dRep(a b:Sl):Option Sl:=match a,b with
 | .own xs, .val (.int k)=>if -(2 ^ 63)<=k/\k<2 ^ 63/\xs.length*k.toNat<=sizeLine then some (.own (List.replicate k.toNat xs).flatten) else none
 | a,b=>vW a b
theorem Reps.rep{K:PySem.W.Frag}{H:Hp}{vs:List V}{ds:List PyData}(h:Reps K H vs ds):∀k:Nat,Reps K H (List.replicate k vs).flatten (List.replicate k ds).flatten
 | 0=> .nil
 | k+1=>by
  rw [C6,C6,EI,EI];exact Reps.append h (Reps.rep h k)
theorem uE{K:PySem.W.Frag}:OpD K (fun x y H Q=>rRep x y H Q\/rI TJ (fun i j=> .int (i*j)) x y H Q) dRep:=fun H0 H x y sx sy z s px py hz Q q=>by
 unfold dRep at hz
 split at hz
 . split at hz
   . rename_i hl
     cases hz
     obtain ⟨a,vs,rfl,h1,h2⟩:=px;exact .inl ⟨a,_,vs,rfl,py.int,h1,hl.1,hl.2.1,by rw [h2.length];exact hl.2.2,fun p hp=>q _ _ _ (Ext.alloc s hp _) ⟨p,_,rfl,hp,s.free hp,C9,Reps.rep h2 _⟩⟩
   . cases hz
 . exact .inr (TF H0 H x y _ _ z s px py hz Q q)
theorem E7(ha:DP X R a fa)(hb:DP X R b fb):DE X R (.BinOp a .Mult b pos) (mBin dRep fa fb):=UX (xW.or qB) uE ha hb
theorem SU(ha:DP X R a fa):DE X R (.UnaryOp .USub a pos) (mUn (iun fun i=> -i) fa):=by
 obtain ⟨ta,h1,h2⟩:=ha;exact ⟨_,A88 A38 h1,A78 pV h2⟩
theorem nK{o:CmpOp}{r:R2}{op:Sl->Sl->Option Sl}(ho:OpR X (compareOp o) r)(hd:OpD X.K r op)(ha:DP X R a fa)(hb:DP X R b fb)(hm:behindInMarks o b=false):DE X R (.Compare a [o] [b] pos) (mBin op fa fb):=by
 obtain ⟨ta,h1,h2⟩:=ha;obtain ⟨tb,h3,h4⟩:=hb;exact ⟨_,qE ho h1 h3 hm,W8 hd h2 h4⟩
theorem NM{o:CmpOp}{r:R2}{op:Sl->Sl->Option Sl}(ho:OpR X (compareOp o) r)(hd:OpD X.K r op)(ha:DP X R a fa)(hb:DP X R b fb)(hm:behindInMarks o b=false):DT X R (.Compare a [o] [b] pos) (mTest (mBin op fa fb)):=by
 obtain ⟨ta,h1,h2⟩:=ha;obtain ⟨tb,h3,h4⟩:=hb;exact ⟨_,tT ho h1 h3 hm,sH (W8 hd h2 h4).rp⟩
def dLt:Sl->Sl->Option Sl:=icmp fun i j=>decide (i<j)
def dLe:Sl->Sl->Option Sl:=icmp fun i j=>decide (i<=j)
def dGt:Sl->Sl->Option Sl:=icmp fun i j=>decide (j<i)
def dGe:Sl->Sl->Option Sl:=icmp fun i j=>decide (j<=i)
theorem A90(ha:DP X R a fa)(hb:DP X R b fb):DE X R (.Compare a [.Gt] [b] pos) (mBin dGt fa fb):=nK vR SY ha hb (NO _)
theorem eV(hu:X.A.units+64<cLine)(ha:DP X R a fa)(hb:DP X R b fb):DE X R (.Compare a [.Eq] [b] pos) (mBin deq fa fb):=nK (oX hu) jA ha hb (NO _)
theorem kM(ha:DP X R a fa)(hb:DP X R b fb):DT X R (.Compare a [.Lt] [b] pos) (mTest (mBin dLt fa fb)):=NM AC0 SY ha hb (NO _)
theorem A86(ha:DP X R a fa)(hb:DP X R b fb):DT X R (.Compare a [.Gt] [b] pos) (mTest (mBin dGt fa fb)):=NM vR SY ha hb (NO _)
theorem P4(hu:X.A.units+64<cLine)(ha:DP X R a fa)(hb:DP X R b fb):DT X R (.Compare a [.Eq] [b] pos) (mTest (mBin deq fa fb)):=NM (oX hu) jA ha hb (NO _)
theorem v6(hu:X.A.units+64<cLine)(ha:DP X R a fa)(hb:DP X R b fb):DT X R (.Compare a [.NotEq] [b] pos) (mTest (mBin dne fa fb)):=NM (y9 hu) A03 ha hb (NO _)
theorem pE(ha:DP X R a fa)(hb:DP X R b fb):DT X R (.Compare a [.Is] [b] pos) (mTest (mBin disN fa fb)):=NM xM rZ ha hb (NO _)
theorem oP(h:DP X R e f)(he:∀whole,isTrue e X.env whole=(do let v <-whole;standAt e.pos;holding [v] (truthy v)):=by intro _;rfl):DT X R e (mTest f):=by
 obtain ⟨t,h1,h2⟩:=h;exact ⟨_,A07 h1 he,AE9 h2⟩
variable {ft gt:En->Option Bool} {GX:List Expr}
theorem zZ(h:DW X R e ft):DT X R e ft:=by obtain ⟨t,h1,h2⟩:=h;exact ⟨t,h1.pt,h2⟩
theorem qS(h:DT X R a ft):DW X R (.BoolOp .And [a] pos) ft:=by obtain ⟨t,h1,h2⟩:=h;exact ⟨t,uG h1,h2⟩
theorem mR(h:DT X R a ft):DW X R (.BoolOp .Or [a] pos) ft:=by obtain ⟨t,h1,h2⟩:=h;exact ⟨t,xA h1,h2⟩
theorem jR(h:DT X R a ft)(k:DW X R (.BoolOp .And (b::GX) pos) gt):DW X R (.BoolOp .And (a::b::GX) pos) (mAnd ft gt):=by obtain ⟨t,h1,h2⟩:=h;obtain ⟨u,h3,h4⟩:=k;exact ⟨_,zM h1 h3,yY h2 h4⟩
theorem oN(h:DT X R a ft)(k:DW X R (.BoolOp .Or (b::GX) pos) gt):DW X R (.BoolOp .Or (a::b::GX) pos) (mOr ft gt):=by obtain ⟨t,h1,h2⟩:=h;obtain ⟨u,h3,h4⟩:=k;exact ⟨_,A69 h1 h3,A81 h2 h4⟩
theorem wW(h:DT X R a ft):DT X R (.UnaryOp .Not a pos) (mNot ft):=by obtain ⟨t,h1,h2⟩:=h;exact ⟨_,yX h1,zB h2⟩
theorem t8(h:DE X R a f):DE X R (.BoolOp .And [a] pos) f:=by obtain ⟨t,h1,h2⟩:=h;exact ⟨t,wO h1,h2⟩
theorem zP(h:DE X R a f)(k:DE X R (.BoolOp .And (b::GX) pos) g):DE X R (.BoolOp .And (a::b::GX) pos) (mAndV f g):=by obtain ⟨t,h1,h2⟩:=h;obtain ⟨u,h3,h4⟩:=k;exact ⟨_,zK h1 h3,sN h2.rp h4⟩
theorem EA(ha:DP X R a fa)(hb:DP X R b fb)(hs:cT b:=by intro _ _;rfl):DE X R (.Subscript a b pos) (mBin dix fa fb):=by
 obtain ⟨ta,h1,h2⟩:=ha;obtain ⟨tb,h3,h4⟩:=hb;exact ⟨_,A92 zI h1 h3 hs,W8 A14 h2 h4⟩
variable {lo hi:Option Expr} {fl fh:En->Option (Option Int)} {p2:Pos}
theorem OZ:DO X R none mNoPart:=⟨_,qX,tQ⟩
theorem KW(h:DP X R e f):DO X R (some e) (mPart f):=by obtain ⟨t,h1,h2⟩:=h;exact ⟨_,rO h1,qK h2⟩
theorem UU(h:DP X R e f)(hl:DO X R lo fl)(hh:DO X R hi fh):DE X R (.Subscript e (.Slice lo hi none p2) pos) (mSl f fl fh):=by
 obtain ⟨t,h1,h2⟩:=h;obtain ⟨u,h3,h4⟩:=hl;obtain ⟨v,h5,h6⟩:=hh;exact ⟨_,nA (uI.or A50) h1 h3 h5,A89 h2 h4 h6⟩
variable {es:List Expr} {fs:En->Option (List PyData)} {fq:En->Option (List Sl)}
theorem AK:DA X R [] mNil:=⟨_,NW,xE⟩
theorem A1(h:DE X R e f)(k:DA X R es fs)(hs:starEach (e::es) X.env=(false,eval e X.env)::starEach es X.env:=by rfl):DA X R (e::es) (mCons f fs):=by obtain ⟨t,h1,h2⟩:=h;obtain ⟨u,h3,h4⟩:=k;exact ⟨_,K3 h1 h3 hs,u7 h2 h4⟩
theorem CA:DQ X R [] mNilP:=⟨_,NW,A36⟩
theorem BH(h:DP X R e f)(k:DQ X R es fq)(hs:starEach (e::es) X.env=(false,eval e X.env)::starEach es X.env:=by rfl):DQ X R (e::es) (mConsP f fq):=by obtain ⟨t,h1,h2⟩:=h;obtain ⟨u,h3,h4⟩:=k;exact ⟨_,K3 h1 h3 hs,sZ h2 h4⟩
theorem II{x1}(h:DA X R es fs):DE X R (.Tuple es x1 pos) (mTup fs):=by obtain ⟨t,h1,h2⟩:=h;exact ⟨_,xZ h1,zE h2⟩
theorem FN(h:DA X R es fs):DE X R (.List es pos) (mLst fs):=by obtain ⟨t,h1,h2⟩:=h;exact ⟨_,yF h1,zU h2⟩
theorem BB {k j : Nat} {x : Str} {ps : List Str} {F : List PyData -> Option Sl} (D : Tf.Def X.prog X.w X.K X.mg X.base j x ps (spD X.K F)) (hr : Room k X.A) (h : DA X R (e :: es) fs) (hj : j <= k := by decide) (hg : Gl X x := by rfl)
 (hdb:(x==("__debug__" : Str))=false:=by decide) (he:starEach (e::es) X.env=(false,eval e X.env)::starEach es X.env:=by rfl) (hpl:(backTo pos (starEach es X.env)).any (·.1)=false:=by rfl):DE X R (.Call (.Name x p) (e::es) [] pos) (mCall F fs):=by
 obtain ⟨t,h1,h2⟩:=h;exact ⟨_,YB D hr h1 hj hg hdb he hpl,t7 h2⟩
theorem ES {x : Str} {id : String} {r : List V -> Hp -> VK -> Prop} {F : List Sl -> Option Sl} (hc : LF X (.builtin id) r) (hd : LW X.K r F) (hv : bootBuiltins x = some (.builtin id)) (hm : X.mg x = none) (h : DQ X R (e :: es) fq) (hg : Gl X x := by rfl) (hn : x ≠ "__name__" := by decide) (hdb : (x == ("__debug__" : Str)) = false := by decide)
 (he:starEach (e::es) X.env=(false,eval e X.env)::starEach es X.env:=by rfl) (hpl:(backTo pos (starEach es X.env)).any (·.1)=false:=by rfl):DE X R (.Call (.Name x p) (e::es) [] pos) (mCallP F fq):=by
 obtain ⟨t,h1,h2⟩:=h;exact ⟨_,lI hc hg hm hv h1 hn hdb he hpl,Z6 hd h2⟩
theorem LZ {x : Str} {id : String} {r : List V -> Hp -> VK -> Prop} {F : List Sl -> Option Sl} (hc : LF X (.type id) r) (hd : LW X.K r F) (hv : bootBuiltins x = some (.type id)) (hm : X.mg x = none) (h : DQ X R (e :: es) fq) (hg : Gl X x := by rfl) (hn : x ≠ "__name__" := by decide) (hdb : (x == ("__debug__" : Str)) = false := by decide)
 (he:starEach (e::es) X.env=(false,eval e X.env)::starEach es X.env:=by rfl) (hpl:(backTo pos (starEach es X.env)).any (·.1)=false:=by rfl):DE X R (.Call (.Name x p) (e::es) [] pos) (mCallP F fq):=by
 obtain ⟨t,h1,h2⟩:=h;exact ⟨_,fY hc hg hm hv h1 hn hdb he hpl,Z6 hd h2⟩
def T0(K:PySem.W.Frag)(mg:Str->Option Value)(x:Str)(d:PyData):Prop:=∃v u,mg x=some u/\RelV v u/\∀H0:Hp,Rep K H0 v d
theorem OI {x:Str} {d:PyData} (h:T0 X.K X.mg x d) (hg:Gl X x:=by rfl) (hd:(x==("__debug__" : Str))=false:=by decide):DE X R (.Name x pos) (mK d):=by
 obtain ⟨v,u,h1,h2,h3⟩:=h;exact qD h1 h2 h3 hg hd
theorem E6{K:PySem.W.Frag}{ix:List (Option Nat)}(hx:(ix.filterMap id).Nodup:=by decide):∀(HB:Hp) (σ:L2.St) (ρ:En) (H0 H:Hp),(PR K).r HB H0 H σ ρ->(PR K).r (fun _=>none) H0 H (F3 ix σ) (CP ix ρ):=fun HB σ ρ H0 H e=>ER.sub hx e
variable {st:Stmt} {sts:List Stmt} {gs gs':En->Option Out} {x y:Str} {pos':Pos} {i j:Nat}
theorem ET:DSs X R [] mNext:=⟨_,qW,uK⟩
theorem AL(h:DS X R st gs):DSs X R [st] gs:=by obtain ⟨t,h1,h2⟩:=h;exact ⟨_,d0 h1,h2⟩
theorem AA(h:DS X R st gs)(k:DSs X R sts gs'):DSs X R (st::sts) (mSeq gs gs'):=by obtain ⟨t,h1,h2⟩:=h;obtain ⟨u,h3,h4⟩:=k;exact ⟨_,YT h1 h3,A40 h2 h4⟩
theorem DX(i:Nat)(h:DS X R st gs)(hsl:R.slot i:=by first | exact E4 | exact ⟨AE rfl,AE rfl⟩):DS X R st (mFrz i gs):=by obtain ⟨t,h1,h2⟩:=h;exact ⟨_,h1,yJ i hsl h2⟩
theorem BA (i : Nat) (h : DE X R e f) (hN : X.N.Nodup) (hi : X.N[i]? = some x := by rfl) (hx : Loc X.env.scope x := by first | exact E5 rfl | exact CL rfl) (hs : swapsWith e (some (.Name x pos')) pos.line X.env = pure false := by rfl) (hf : X.fn x = true \/ X.env.scope.names.lookup x = some .local := by first | exact .inl rfl | exact .inr rfl) (hsl : R.slot i := by first | exact E4 | exact ⟨AE rfl, AE rfl⟩) :
 DS X R (.Assign [.Name x pos'] e pos) (mAsg i f):=by obtain ⟨t,h1,h2⟩:=h;exact ⟨_,b7 hN hi hx h1 hs hf,A53 hsl h2⟩
theorem CY(h:DE X R e f):DS X R (.Return (some e) pos) (mRet f):=by obtain ⟨t,h1,h2⟩:=h;exact ⟨_,aI h1,yS h2⟩
theorem IK (i : Nat) (hN : X.N[i]? = some x := by rfl) (hv : Vis X.env.scope x := by first | exact E5 rfl | exact CL (E5 rfl) | exact CL (CL rfl)) (hd : (x == ("__debug__" : Str)) = false := by decide)
 (hcd:(x==("__classdict__" : Str))=false:=by decide) (hsl:R.slot i:=by first | exact E4 | exact ⟨AE rfl,AE rfl⟩):DS X R (.Return (some (.Name x pos')) pos) (mRet (mPk i)):=⟨_,aI (GV hN hv hd hcd),rE i hsl⟩
theorem cL:DS X R (.Return none pos) mRetN:=⟨_,rJ,qM⟩
theorem HU{A B:List Stmt}(hc:DT X R c ft)(h:DSs X R A gs)(k:DSs X R B gs'):DS X R (.If c A B pos) (mIf ft gs gs'):=by obtain ⟨t,h1,h2⟩:=hc;obtain ⟨u,h3,h4⟩:=h;obtain ⟨v,h5,h6⟩:=k;exact ⟨_,A79 h1 h3 h5,A66 h2 h4 h6⟩
theorem X9(hp:PassesOwn (model X.prog X.w) X.A X.env X.xe)(hc:DT X R c ft)(h:DSs X R sts gs):DS X R (.While c sts [] pos) (K8 ft gs):=by obtain ⟨t,h1,h2⟩:=hc;obtain ⟨u,h3,h4⟩:=h;exact ⟨_,jG hp h1 h3,m7 h2 h4⟩
variable {tg:Expr} {fi:En->Option (List PyData)} {fg:PyData->En->Option En} {gg:List (PyData->En->Option En)}
theorem FX(hp:PassesOwn (model X.prog X.w) X.A X.env X.xe)(hi:DI X R tg e fi)(hg:DG X R tg fg)(h:DSs X R sts gs)(hc:X.calm=true:=by rfl)(hs:∀x,foldedSetIterable e X.env x=pure x:=by intro _;rfl):DS X R (.For tg e sts [] pos) (IB fi fg gs):=by
 obtain ⟨t,h1,h2⟩:=hi;obtain ⟨u,h3,h4⟩:=hg;obtain ⟨v,h5,h6⟩:=h;exact ⟨_,A31 hp hc h1 h3 h5 hs,xL h2 h4 h6⟩
theorem EB(i:Nat)(hN:X.N.Nodup)(hi:X.N[i]? = some x:=by rfl)(hx:Loc X.env.scope x:=by first | exact E5 rfl | exact CL rfl)(hf:X.fn x=true\/X.env.scope.names.lookup x=some .local:=by first | exact .inl rfl | exact .inr rfl)(hsl:R.slot i:=by first | exact E4 | exact ⟨AE rfl,AE rfl⟩):DG X R (.Name x pos) (gVar i):=⟨_,fD hN hi hx hf,d6 i hsl⟩
theorem WK:DGs X R [] []:=⟨_,eO,eI⟩
theorem KL(h:DG X R e fg)(k:DGs X R es gg)(hs:(assignEach (e::es) X.env).map (·.2)=assign e X.env::(assignEach es X.env).map (·.2):=by rfl):DGs X R (e::es) (fg::gg):=by obtain ⟨t,h1,h2⟩:=h;obtain ⟨u,h3,h4⟩:=k;exact ⟨_,XQ h1 h3 hs,ZC h2 h4⟩
theorem nD{k}{n:Nat}(h:DGs X R es gg)(hl:n=gg.length:=by rfl)(hc:X.calm=true:=by rfl)(hn:(assignEach es X.env).length=n:=by rfl)(hst:(assignEach es X.env).findIdx? (·.1)=none:=by rfl):DG X R (.Tuple es k pos) (gTupD gg):=by
 obtain ⟨t,h1,h2⟩:=h;exact ⟨_,oH hc h1 hn hst,nY hl h2⟩
theorem HQ(h:DE X R e f):DI X R tg e (mItems f):=by obtain ⟨t,h1,h2⟩:=h;exact ⟨_,qU h1,sO h2⟩
theorem GD (hm:X.mg "range" = none) (h:DQ X R [a] fq) (hg:Gl X "range" :=by rfl) (hs:starEach [a] X.env = [(false,eval a X.env)]:=by rfl):DI X R tg (.Call (.Name "range" p) [a] [] pos) (KJ fq):=by obtain ⟨t,h1,h2⟩:=h;exact ⟨_,gT hg hm h1 hs,gL h2⟩
theorem Q9 (hm:X.mg "range" = none) (h:DQ X R [a,b] fq) (hg:Gl X "range" :=by rfl) (hs:starEach [a,b] X.env = [(false,eval a X.env),(false,eval b X.env)]:=by rfl) (hs2:starEach [b] X.env = [(false,eval b X.env)]:=by rfl):DI X R tg (.Call (.Name "range" p) [a,b] [] pos) (ON fq):=by
 obtain ⟨t,h1,h2⟩:=h;exact ⟨_,iY hg hm h1 hs hs2,g6 h2⟩
theorem fZ (hm:X.mg "range" = none) (h:DQ X R [a,b,c] fq) (hg:Gl X "range" :=by rfl) (hs:starEach [a,b,c] X.env=(false,eval a X.env)::starEach [b,c] X.env:=by rfl) (hs2:(backTo pos (starEach [b,c] X.env)).any (·.1)=false:=by rfl):DI X R tg (.Call (.Name "range" p) [a,b,c] [] pos) (bY fq):=by
 obtain ⟨t,h1,h2⟩:=h;exact ⟨_,gC hg hm h1 hs hs2,iQ h2⟩
theorem VP {elts:List Expr} {k} {tp:Pos} (hm:X.mg "zip" = none) (h:DA X R [a,b] fs) (hg:Gl X "zip" :=by rfl) (hs:starEach [a,b] X.env = [(false,eval a X.env),(false,eval b X.env)]:=by rfl) (hs2:starEach [b] X.env = [(false,eval b X.env)]:=by rfl):DI X R (.Tuple elts k tp) (.Call (.Name "zip" p) [a,b] [] pos) (SR fs):=by
 obtain ⟨t,h1,h2⟩:=h;exact ⟨_,zV hg hm h1 hs hs2,yP h2⟩
theorem RJ (i : Nat) {apos cpos : Pos} (h : DE X R e f) (hN : X.N[i]? = some x := by rfl) (hv : Vis X.env.scope x := by first | exact E5 rfl | exact CL (E5 rfl) | exact CL (CL rfl)) (hd : (x == ("__debug__" : Str)) = false := by decide) (hcd : (x == ("__classdict__" : Str)) = false := by decide)
 (hst:starEach [e] X.env=(false,eval e X.env)::starEach [] X.env:=by rfl) (hbase:attributeBase (.Name x p) "append" X.env (eval (.Name x p) X.env)=eval (.Name x p) X.env:=by rfl)
 (hfew:((backTo cpos (starEach [e] X.env)).all (fun x=> !x.1) && (backToKw cpos (keywordEach [] X.env)).all (fun x=>x.1.isSome) && decide ([e].length+([]:List Keyword).length+(if ([]:List Keyword).isEmpty then 0 else 1)<30))=true:=by rfl)
 (hline:(apos.endLine==cpos.line)=true:=by rfl) (hplain:(backTo cpos (starEach [] X.env)).any (·.1)=false:=by rfl)
 (hs:swapsWith (.Call (.Attribute (.Name x p) "append" apos) [e] [] cpos) none pos.line X.env=pure false:=by rfl) (hsl:R.slot i:=by first | exact E4 | exact ⟨AE rfl,AE rfl⟩):DS X R (.Expr (.Call (.Attribute (.Name x p) "append" apos) [e] [] cpos) pos) (mApp i f):=by
 obtain ⟨t,h1,h2⟩:=h;exact ⟨_,QX (mS OE KF pR V5 (GV hN hv hd hcd) (K3 h1 NW hst) hbase hfew hline hst hplain) hs,yZ hsl h2⟩
theorem qP(h:DE X R e f)(hg:DG X R tg fg)(hs:swapsWithSole [tg] e pos.line X.env=pure false:=by rfl)(hw:swappedStores [tg] e X.env=pure none:=by rfl)(h1:(assignEach [tg] X.env).map (·.2) = [assign tg X.env]:=by rfl):DS X R (.Assign [tg] e pos) (mAsgT fg f):=by
 obtain ⟨t,a1,a2⟩:=h;obtain ⟨u,b1,b2⟩:=hg;exact ⟨_,bK a1 b1 hs hw h1,uH a2 b2⟩
theorem VN (i : Nat) {px ps : Pos} (h : DE X R e f) (hj : DP X R a fa) (hN : X.N[i]? = some x := by rfl) (hv : Vis X.env.scope x := by first | exact E5 rfl | exact CL (E5 rfl) | exact CL (CL rfl)) (hd : (x == ("__debug__" : Str)) = false := by decide) (hcd : (x == ("__classdict__" : Str)) = false := by decide)
 (ha:∀v,assign (.Subscript (.Name x px) a ps) X.env v=(do
  let ov <-holding [v] (eval (.Name x px) X.env)
  let iv <-holding [v,ov] (eval a X.env)
  standAt ps
  holding [v,ov,iv] (setItem ov iv v)
  release [v,ov,iv] []):=by intro _;rfl)
 (hs:swapsWithSole [.Subscript (.Name x px) a ps] e pos.line X.env=pure false:=by rfl) (hw:swappedStores [.Subscript (.Name x px) a ps] e X.env=pure none:=by rfl) (h1:(assignEach [.Subscript (.Name x px) a ps] X.env).map (·.2) = [assign (.Subscript (.Name x px) a ps) X.env]:=by rfl) (hsl:R.slot i:=by first | exact E4 | exact ⟨AE rfl,AE rfl⟩) :
 DS X R (.Assign [.Subscript (.Name x px) a ps] e pos) (mSet i fa f):=by
 obtain ⟨t,a1,a2⟩:=h;obtain ⟨u,b1,b2⟩:=hj;exact ⟨_,bK a1 (jL (GV hN hv hd hcd) b1 XR ha) hs hw h1,wZ hsl a2 b2⟩
theorem BZ{CX:CXT}{P:Program}{w:World}{K:PySem.W.Frag}{mg:Str->Option Value}{base:Heap}{N:List Str}{qual:Str}{scope:Scope}{f:Addr}{cd:Value}{A:Around}{outer:List Env}{s:Shared}{H:Hp}{E:XK}:(QQ CX P w K mg base N qual scope f cd A outer s H E).nox.env.scope=scope:=rfl
theorem C3{CX:CXT}{P:Program}{w:World}{K:PySem.W.Frag}{mg:Str->Option Value}{base:Heap}{N:List Str}{qual:Str}{scope:Scope}{f:Addr}{cd:Value}{A:Around}{outer:List Env}{s:Shared}{H:Hp}{E:XK}:(QQ CX P w K mg base N qual scope f cd A outer s H E).nox.N=N:=rfl
theorem MO{X:Cx}{osc sc:Scope}{N':List Str}{b:CB}:(cxC X osc sc N' b).N=N':=rfl
theorem MM{X:Cx}{osc sc:Scope}{N':List Str}{b:CB}:(cxC X osc sc N' b).env.scope=OO sc osc:=rfl
def GKm(S:Nat->Bool)(g:TG):Prop:=∀v σ H Q Q',g v σ H Q->(∀σ' H',Q σ' H'->σ'.length=σ.length->(∀i:Nat,S i=false->σ'[i]? = σ[i]?)->Q' σ' H')->g v σ H Q'
def GKs(S:Nat->Bool)(g:TGs):Prop:=∀v σ H Q Q',g v σ H Q->(∀σ' H',Q σ' H'->σ'.length=σ.length->(∀i:Nat,S i=false->σ'[i]? = σ[i]?)->Q' σ' H')->g v σ H Q'
theorem GKm.gk{S:Nat->Bool}{t:TG}(h:GKm S t):GK S t:=fun v σ H Q q=>h v σ H Q _ q fun _ _ a b c=>⟨a,b,c⟩
theorem kY{S:Nat->Bool}{i:Nat}(h:S i=true):GKm S (SB i):=fun v σ H Q Q' q k=>k _ _ q (EE ..) fun j hj=>by
 rw [AT];intro e;subst e;rw [h] at hj
 cases hj
theorem q9{S:Nat->Bool}:GKs S gNil:=fun v σ H Q Q' q k=>⟨q.1,k _ _ q.2 rfl fun _ _=>rfl⟩
theorem m8{S:Nat->Bool}{t:TG}{u:TGs}(h:GKm S t)(k:GKs S u):GKs S (jX t u):=fun v σ H Q Q' q w=>by
 obtain ⟨x,r,e,q⟩:=q;refine ⟨x,r,e,h x σ H _ _ q fun σ' H' q' l1 k1=>k r σ' H' _ _ q' fun σ2 H2 q2 l2 k2=>w σ2 H2 q2 (l2.trans l1) fun i hi=>(k2 i hi).trans (k1 i hi)⟩
theorem uJ{S:Nat->Bool}{u:TGs}{K:PySem.W.Frag}{n:Nat}(k:GKs S u):GKm S (xI K n u):=fun v σ H Q Q' q w=>by
 obtain ⟨a,xs,e,h1,h2,q⟩:=q;exact ⟨a,xs,e,h1,h2,k xs σ H _ _ q w⟩
def DGk(X:Cx)(R:Rl)(S:Nat->Bool)(e:Expr)(g:PyData->En->Option En):Prop:=∃t,PG X e t/\RG X.K R t g/\GKm S t
def qY(X:Cx)(R:Rl)(S:Nat->Bool)(es:List Expr)(gs:List (PyData->En->Option En)):Prop:=∃t,PGs X es t/\RGs X.K R t gs/\GKs S t
def DTs(X:Cx)(R:Rl)(ifs:List Expr)(f:En->Option Bool):Prop:=∃tt,PTs X ifs tt/\RT X.K R tt f
theorem D7:DTs X R [] mYes:=⟨_,qA,A13⟩
theorem dW(h:DT X R e ft):DTs X R [e] ft:=by obtain ⟨t,h1,h2⟩:=h;exact ⟨_,rP h1,h2⟩
theorem BJ{S:Nat->Bool}(i:Nat)(hN:X.N.Nodup)(hS:S i=true:=by rfl)(hi:X.N[i]? = some x:=by rfl)(hx:Loc X.env.scope x:=by first | exact E5 rfl | exact CL rfl)(hf:X.fn x=true\/X.env.scope.names.lookup x=some .local:=by first | exact .inl rfl | exact .inr rfl)(hsl:R.slot i:=by first | exact E4 | exact ⟨AE rfl,AE rfl⟩):DGk X R S (.Name x pos) (gVar i):=⟨_,fD hN hi hx hf,d6 i hsl,kY hS⟩
theorem GP{S:Nat->Bool}:qY X R S [] []:=⟨_,eO,eI,q9⟩
theorem DJ{S:Nat->Bool}(h:DGk X R S e fg)(k:qY X R S es gg)(hs:(assignEach (e::es) X.env).map (·.2)=assign e X.env::(assignEach es X.env).map (·.2):=by rfl):qY X R S (e::es) (fg::gg):=by obtain ⟨t,h1,h2,h5⟩:=h;obtain ⟨u,h3,h4,h6⟩:=k;exact ⟨_,XQ h1 h3 hs,ZC h2 h4,m8 h5 h6⟩
theorem IM{S:Nat->Bool}{k}{n:Nat}(h:qY X R S es gg)(hl:n=gg.length:=by rfl)(hc:X.calm=true:=by rfl)(hn:(assignEach es X.env).length=n:=by rfl)(hst:(assignEach es X.env).findIdx? (·.1)=none:=by rfl):DGk X R S (.Tuple es k pos) (gTupD gg):=by
 obtain ⟨t,h1,h2,h3⟩:=h;exact ⟨_,oH hc h1 hn hst,nY hl h2,uJ h3⟩
variable {osc sc:Scope} {N':List Str} {ix:List (Option Nat)} {ifs:List Expr} {elt iter:Expr} {fe:En->Option Sl}
theorem EX {N : List Str} (ho : X.env.scope = osc) (hN : X.N = N) (ix : List (Option Nat)) (sb : En -> En) (hx : ∀ (HB : Hp) (σ : L2.St) (ρ : En) (H0 H : Hp), R.r HB H0 H σ ρ -> R'.r (fun _ => none) H0 H (F3 ix σ) (sb ρ)) (hi : DI X R tg iter fi) (hg : ∀ b : CB, DGk (cxC X osc sc N' b) R' (RU ix) tg fg) (ht : ∀ b : CB, DTs (cxC X osc sc N' b) R' ifs ft) (he : ∀ b : CB, DE (cxC X osc sc N' b) R' elt fe)
 (hcs:iB osc sc N N' ix=true:=by decide +kernel) (hc:X.calm=true:=by rfl)
 (hs:∀x,foldedSetIterable iter X.env x=pure x:=by intro _;rfl):DE X R (.ListComp elt [⟨tg,iter,ifs,0⟩] sc pos) (mLC sb fi fg ft fe):=by
 obtain ⟨wi,h1,h2⟩:=hi
 exact ⟨_,AA3 (g:=fun b=>(hg b).choose) (tt:=fun b=>(ht b).choose) (te:=fun b=>(he b).choose) hc ho hN hcs h1 (fun b=>⟨(hg b).choose_spec.1,(ht b).choose_spec.1,(he b).choose_spec.1⟩) (fun b=>(hg b).choose_spec.2.2.gk) hs,
  vP hx h2 (fun b=>(hg b).choose_spec.2.1) (fun b=>(ht b).choose_spec.2) (fun b=>(he b).choose_spec.2)⟩
theorem fJ {N : List Str} (ho : X.env.scope = osc) (hN : X.N = N) (i : Nat) (ix : List (Option Nat)) (sb : En -> En) (hx : ∀ (HB : Hp) (σ : L2.St) (ρ : En) (H0 H : Hp), R.r HB H0 H σ ρ -> R'.r (fun _ => none) H0 H (F3 ix σ) (sb ρ)) {py spos : Pos} (hnd : X.N.Nodup) (hi : DI X R tg iter fi) (hg : ∀ b : CB, DGk (cxC X osc sc N' b) R' (RU ix) tg fg) (ht : ∀ b : CB, DTs (cxC X osc sc N' b) R' ifs ft) (he : ∀ b : CB, DE (cxC X osc sc N' b) R' elt fe)
 (hi':X.N[i]? = some y:=by rfl) (hy:X.env.scope.names.lookup y=some .local:=by rfl) (hsw:swapsWith (.ListComp elt [⟨tg,iter,ifs,0⟩] sc pos) (some (.Name y py)) spos.line X.env=pure true:=by rfl)
 (hcs:iB osc sc N N' ix=true:=by decide +kernel) (hc:X.calm=true:=by rfl)
 (hs:∀x,foldedSetIterable iter X.env x=pure x:=by intro _;rfl) (hsl:R.slot i:=by first | exact E4 | exact ⟨AE rfl,AE rfl⟩):DS X R (.Assign [.Name y py] (.ListComp elt [⟨tg,iter,ifs,0⟩] sc pos) spos) (mAsg i (mLC sb fi fg ft fe)):=by
 obtain ⟨wi,h1,h2⟩:=hi
 exact ⟨_,tN (g:=fun b=>(hg b).choose) (tt:=fun b=>(ht b).choose) (te:=fun b=>(he b).choose) hnd hi' hy hsw hc ho hN hcs h1 (fun b=>⟨(hg b).choose_spec.1,(ht b).choose_spec.1,(he b).choose_spec.1⟩) (fun b=>(hg b).choose_spec.2.2.gk) hs,
  pY hsl (vP hx h2 (fun b=>(hg b).choose_spec.2.1) (fun b=>(ht b).choose_spec.2) (fun b=>(he b).choose_spec.2))⟩
end
end Dm
namespace Dm
open PySem PySem.Spec L2 Tf
theorem PK {fg : PyData -> En -> Option En} {gb : En -> Option Out} {ds : List PyData} {ρ : En} (P : Nat -> En -> Prop) (h0 : P 0 ρ)
 (hs:∀(i:Nat) d ρ,ds[i]? = some d->P i ρ->∃ρ1,fg d ρ=some ρ1/\∃ρ2,(gb ρ1=some (.nx ρ2)\/gb ρ1=some (.ct ρ2))/\P (i+1) ρ2):∃ρ',LX fg gb ds ρ=some (.nx ρ')/\P ds.length ρ':=by
 induction ds generalizing ρ P with
 | nil=>exact ⟨ρ,rfl,h0⟩
 | cons d ds ih=>
  obtain ⟨ρ1,h1,ρ2,h2,h3⟩:=hs 0 d ρ rfl h0;obtain ⟨ρ',h4,h5⟩:=ih (ρ:=ρ2) (fun i=>P (i+1)) h3 (fun i d' ρ hi hp=>hs (i+1) d' ρ (by simpa using hi) hp);refine ⟨ρ',?_,h5⟩;unfold LX;rw [h1];show Option.bind (gb ρ1) _=_;rcases h2 with h2 | h2 <;> (rw [h2];exact h4)
theorem aE {fg : PyData -> En -> Option En} {gb : En -> Option Out} {lo : Int} {n : Nat} {ρ : En} (P : Nat -> En -> Prop) (h0 : P 0 ρ)
 (hs:∀(i:Nat) ρ,i<n->P i ρ->∃ρ1,fg (.int (lo+(i:Nat))) ρ=some ρ1/\∃ρ2,(gb ρ1=some (.nx ρ2)\/gb ρ1=some (.ct ρ2))/\P (i+1) ρ2):∃ρ',LX fg gb (G5 lo n) ρ=some (.nx ρ')/\P n ρ':=by
 have h:=PK (fg:=fg) (gb:=gb) (ds:=G5 lo n) (ρ:=ρ) P h0 (fun i d ρ hi hp=>by
  rw [OV] at hi
  split at hi
  . rename_i hlt
    cases hi
    exact hs i ρ hlt hp
  . cases hi)
 have hl:(G5 lo n).length=n:=by simp [G5]
 rw [hl] at h
 exact h
theorem iR {fg : PyData -> En -> Option En} {gb : En -> Option Out} {lo : Int} {n : Nat} {ρ : En} (P : Nat -> En -> Prop) (Z : Out -> Prop) (h0 : P 0 ρ)
 (hs:∀(i:Nat) ρ,i<n->P i ρ->∃ρ1,fg (.int (lo+(i:Nat))) ρ=some ρ1/\((∃ρ2,gb ρ1=some (.nx ρ2)/\P (i+1) ρ2)\/∃r ρ2,gb ρ1=some (.rt r ρ2)/\Z (.rt r ρ2))):(∃ρ',LX fg gb (G5 lo n) ρ=some (.nx ρ')/\P n ρ')\/∃o,LX fg gb (G5 lo n) ρ=some o/\Z o:=by
 have gen:∀(k j:Nat) ρ,j+k=n->P j ρ->(∃ρ',LX fg gb ((G5 lo n).drop j) ρ=some (.nx ρ')/\P n ρ')\/∃o,LX fg gb ((G5 lo n).drop j) ρ=some o/\Z o:=by
  intro k
  induction k with
  | zero=>
   intro j ρ hj hp;have:j=n:=by omega
   subst this;rw [F7 (by simp [G5])]
   exact .inl ⟨ρ,rfl,hp⟩
  | succ k ih=>
   intro j ρ hj hp;obtain ⟨ρ1,h1,h2⟩:=hs j ρ (by omega) hp;rw [QA (d:= .int (lo+(j:Nat))) (by rw [OV,AU (by omega)]),h1];rcases h2 with ⟨ρ2,h3,h4⟩ | ⟨r,ρ2,h3,h4⟩
   . have:=ih (j+1) ρ2 (by omega) h4;simp only [BV,h3];exact this
   . simp only [BV,h3];exact .inr ⟨_,rfl,h4⟩
 have:=gen n 0 ρ (by omega) h0;simpa using this
theorem CG{α:Type}{f:PyData->Option (Option PyData)}{en:α->PyData}{g:α->PyData}:∀ {xs:List α},(∀x ∈ xs,f (en x)=some (some (g x)))->MA f (xs.map en)=some (xs.map g)
 | [],_=>rfl
 | x::xs,h=>by
  rw [BN,MA,h x B5,CG (fun y hy=>h y (AN _ hy))];rfl
theorem K0{f:PyData->Option (Option PyData)}{g:Nat->PyData}{lo:Int}{n:Nat}(h:∀i,i<n->f (.int (lo+(i:Nat)))=some (some (g i))):MA f (G5 lo n)=some ((List.range n).map g) :=
 CG (en:=fun i:Nat=>PyData.int (lo+(i:Nat))) fun i hi=>h i (BC.mp hi)
theorem gS {c : En -> Option Bool} {b : En -> Option Out} {ρ : En} (P : En -> Prop) (μ : En -> Nat) (h0 : P ρ)
 (hs:∀ρ,P ρ->c ρ=some false\/(c ρ=some true/\∃ρ',b ρ=some (.nx ρ')/\P ρ'/\μ ρ'<μ ρ)):∃ρ',K8 c b ρ=some (.nx ρ')/\P ρ'/\c ρ'=some false:=by
 have gen:∀(n:Nat) ρ,μ ρ<n->P ρ->∃ρ',FC c b n ρ=some (.nx ρ')/\P ρ'/\c ρ'=some false:=by
  intro n
  induction n with
  | zero=>intro ρ h;omega
  | succ n ih=>
   intro ρ hm hp;rcases hs ρ hp with h | ⟨h,ρ1,h1,h2,h3⟩
   . exact ⟨ρ,by simp [FC,h],hp,h⟩
   . obtain ⟨ρ',h4,h5⟩:=ih ρ1 (by omega) h2;exact ⟨ρ',by simp [FC,h,h1,h4],h5⟩
 obtain ⟨ρ',h1,h2⟩:=gen (μ ρ+1) ρ (by omega) h0;exact ⟨ρ',V1 h1,h2⟩
def Rts(g:En->Option Out)(ρ:En)(r:Sl):Prop:=∃ρ',g ρ=some (.rt r ρ')
theorem I0{f g:En->Option Out}{ρ ρ':En}{r:Sl}(h:f ρ=some (.nx ρ'))(k:Rts g ρ' r):Rts (mSeq f g) ρ r:=by
 obtain ⟨ρ2,k⟩:=k;exact ⟨ρ2,by unfold mSeq;rw [h];exact k⟩
theorem JU{f:En->Option Sl}{ρ:En}{r:Sl}(h:f ρ=some r):Rts (mRet f) ρ r:=⟨ρ,by unfold mRet;rw [h];rfl⟩
theorem IL{n k:Nat}{g:En->Option Out}{ds:List PyData}{ρ:En}{r:Sl}(hl:ds.length=k)(e:ds.map (fun d=>some (Sl.val d))++List.replicate (n - ds.length) none=ρ)(h:Rts g ρ r):EU n g k ds=some r:=by
 obtain ⟨ρ',h⟩:=h;unfold EU;rw [if_pos hl,e,h];rfl
theorem FM{f g:En->Option Out}{ρ ρ':En}{o:Out}(h:f ρ=some (.nx ρ'))(k:g ρ'=some o):mSeq f g ρ=some o:=by
 unfold mSeq;rw [h];exact k
theorem ZY{f g:En->Option Out}{ρ ρ':En}{r:Sl}(h:f ρ=some (.rt r ρ')):mSeq f g ρ=some (.rt r ρ'):=by
 unfold mSeq;rw [h];rfl
theorem P9{c:En->Option Bool}{f g:En->Option Out}{ρ:En}{o:Out}{b:Bool}(h:c ρ=some b)(k:(if b then f ρ else g ρ)=some o):mIf c f g ρ=some o:=by
 unfold mIf;rw [h];exact k
theorem EL{i:Nat}{f:En->Option Sl}{ρ:En}{r:Sl}(h:f ρ=some r):mAsg i f ρ=some (.nx (ρ.set i (some r))):=by
 unfold mAsg;rw [h];rfl
theorem mP{f:En->Option Sl}{ρ:En}{r:Sl}(h:f ρ=some r):mRet f ρ=some (.rt r ρ):=by
 unfold mRet;rw [h];rfl
theorem BF{F:List PyData->Option Sl}{f:En->Option (List PyData)}{ρ:En}{ds:List PyData}{r:Sl}(h:f ρ=some ds)(k:F ds=some r):mCall F f ρ=some r:=by
 unfold mCall;rw [h];exact k
theorem Q4{fi:En->Option (List PyData)}{fg:PyData->En->Option En}{gb:En->Option Out}{ρ:En}{ds:List PyData}{o:Out}(h:fi ρ=some ds)(k:LX fg gb ds ρ=some o):IB fi fg gb ρ=some o:=by
 unfold IB;rw [h];exact k
theorem EY{sb:En->En}{fi:En->Option (List PyData)}{fg:PyData->En->Option En}{ft:En->Option Bool}{fe:En->Option Sl}{ρ:En}{ds es:List PyData}(h:fi ρ=some ds)(hl:ds.length<sizeLine)(k:MA (elM fg ft fe (sb ρ)) ds=some es):mLC sb fi fg ft fe ρ=some (.own es):=by
 unfold mLC;rw [h];show (if ds.length<sizeLine then _ else _)=_;rw [if_pos hl,k];rfl
theorem J7{i j:Int}(h:TJ i j):dRep (.val (.int i)) (.val (.int j))=some (.val (.int (i*j))):=by
 unfold dRep vW YI;simp only [if_pos h]
theorem YD{i j:Int}(h:j8 i j):DN (.val (.int i)) (.val (.int j))=some (.val (.int (i.fdiv j))):=by
 unfold DN YI;simp only [if_pos h]
theorem NR{i j:Int}(h:j≠0):EH (.val (.int i)) (.val (.int j))=some (.val (.int (i.fmod j))):=by
 unfold EH YI;simp only [if_pos h]
theorem J8{f:En->Option (List Sl)}{ρ:En}{j:Nat}(h:f ρ=some [.val (.int j)])(hj:j<=1000):KJ f ρ=some (G5 0 j):=by
 have b:inB (j:Int):=by
  constructor
  . have : -(2 ^ 62:Int)<=0:=by decide
    omega
  . have:(1000:Int)<2 ^ 62:=by decide
    omega
 unfold KJ;rw [h];show (if inB (j:Int) then some (G5 0 ((j:Int).toNat)) else none)=_;rw [if_pos b,Int.toNat_natCast]
theorem VU{f:En->Option (List Sl)}{ρ:En}{i j:Nat}(h:f ρ=some [.val (.int i), .val (.int j)])(hi:i<=1000)(hj:j<=1000):ON f ρ=some (G5 i (j - i)):=by
 have b:∀j:Nat,j<=1000->inB (j:Int):=by
  intro j hj
  constructor
  . have : -(2 ^ 62:Int)<=0:=by decide
    omega
  . have:(1000:Int)<2 ^ 62:=by decide
    omega
 unfold ON;rw [h];show (if inB (i:Int)/\inB (j:Int) then some (G5 i (((j:Int) - (i:Int)).toNat)) else none)=_;rw [if_pos ⟨b i hi,b j hj⟩,Int.toNat_sub]
theorem WD:(200:Nat)<=sizeLine:=by decide
theorem eqD_int(i j:Int):eqD (.int i) (.int j)=some (decide (i=j)):=by
 have:PyData.eqv (.int i) (.int j)=decide (i=j):=by simp [PyData.eqv,Bool.beq_eq_decide_eq]
 unfold eqD;rw [if_pos ⟨rfl,rfl,by simp [PyData.depth]⟩,this]
def DR(q:Int×Int):PyData:= .tuple [.int q.1, .int q.2]
theorem XY{α:Type}{en:α->PyData}(h:∀x,(en x).canLay0=true):∀xs:List α,PyData.canLayAll0 (xs.map en)=true
 | []=>rfl
 | x::xs=>by rw [BN,PyData.canLayAll0,h x,XY h xs];rfl
theorem YW{α:Type}{en:α->PyData}{k:Nat}(h:∀x,(en x).depth<=k):∀xs:List α,PyData.depthAll (xs.map en)<=k
 | []=>DF _
 | x::xs=>by rw [BN,PyData.depthAll];exact Nat.max_le.mpr ⟨h x,YW h xs⟩
theorem lA{d:PyData}(h:d.canLay0=true)(k:d.depth<=60):eqD d d=some true:=by
 unfold eqD;rw [if_pos ⟨h,h,by omega⟩,SeqAt.eqv_refl d h]
end Dm
namespace Dm
open PySem PySem.Spec PyProof.Rows L2 Tf
section
variable {X:Cx}
theorem kF{bs:List Bool}:∀ {us:List Value},Vals (bs.map V.bl) us->LSm.BoolsAre us bs:=by
 induction bs with
 | nil=>intro us r;cases r;exact .nil
 | cons b bs ih=>
  intro us r
  cases r with
  | cons r1 r2=>cases (show _=Value.bool b from r1);exact .cons b (ih r2)
theorem jZ(hc:X.calm=true):LF X (.builtin "all") (fun xs H Q=>∃(p:Addr) (bs:List Bool),xs = [.ref p]/\SqL X.K H p (bs.map V.bl)/\Q (.bl (bs.all id)) H):=by
 intro pins s σ H xs us Q I r h;obtain ⟨p,bs,rfl,hq,q⟩:=h;obtain ⟨u,rfl,ru⟩:=LD r
 cases (show u=Value.ref p from ru)
 obtain ⟨its,rv,pl,hz⟩:=I.list hq;have hb:=kF rv;have hl:s.heap.IsList p its.toArray:=pl.isList;have hlt:p<s.heap.objs.size:=by obtain ⟨_,e,_⟩:=hl;exact AV e
 refine call_all_walk (iZ hl ?_)
 refine ⟨s.heap.objs.size,[s.heap.objs.size,p],[s.heap.objs.size],its.toArray.size,_,_,fun i=>(bs[i]?).getD true,rfl,Walks.list (A:=X.A.in1) (I.ok.hd hc) _ p (D2 hlt) its.toArray,
  ⟨⟨_,AW _ rfl,rfl,rfl⟩,hl.push _⟩,fun i v s' Q' E' hP hQ=> ?_,fun h' tk hk=> ?_⟩
 . obtain ⟨b,e,rfl⟩:=hb.get i v (by simpa using hP);simp only [e,Option.getD_some] at hQ
   exact KE hQ
 . have e : ((List.range its.toArray.size).all fun i => (bs[i]?).getD true) = bs.all id := by
    rw [AF,hb.length];exact LSm.range_all bs
   rw [e];exact ⟨.bl _,H,I.kept (LSm.kept_iter hk),rfl,q⟩
def KY:List PyData->Option (List Bool)
 | []=>some []
 | .bool i::r=>(KY r).map (i :: ·)
 | _::_=>none
theorem SQ:∀ {ds:List PyData} {bs:List Bool},KY ds=some bs->ds=bs.map .bool
 | [],bs,h=>by cases h;rfl
 | .bool i::r,bs,h=>by
  obtain ⟨ms,h1,rfl⟩:=B0.mp (show (KY r).map (i :: ·)=some bs from h);rw [SQ h1];rfl
theorem SI{K:PySem.W.Frag}{H:Hp}:∀ {vs:List V} {bs:List Bool},Reps K H vs (bs.map .bool)->vs=bs.map .bl
 | _,[],h=>by cases h;rfl
 | _,n::r,h=>by
  cases h with
  | cons h t=>cases h;rw [SI t];rfl
def dAll:List Sl->Option Sl
 | [a]=>match a.dat with
  | .list ds=>(KY ds).map fun bs=> .val (.bool (bs.all id))
  | _=>none
 | _=>none
theorem wY{K:PySem.W.Frag}:LW K (fun xs H Q=>∃(p:Addr) (bs:List Bool),xs = [.ref p]/\SqL K H p (bs.map V.bl)/\Q (.bl (bs.all id)) H) dAll:=fun H0 H vs ss z s p hz Q q=>by
 unfold dAll at hz
 split at hz
 . obtain ⟨v,rfl,pa⟩:=HY p
   split at hz
   . rename_i ds hd;obtain ⟨bs,hn,rfl⟩:=B0.mp hz;obtain ⟨a,vs,rfl,h1,h2⟩:=pa.lst s hd;rw [SQ hn] at h2
     rw [SI h2] at h1
     exact ⟨a,bs,rfl,h1,q _ _ _ (Ext.refl s) (.bool _)⟩
   . cases hz
 . cases hz
def xS(K:PySem.W.Frag)(neg:Bool):R2:=fun x y H Q=>∃p xs dx ds,y = .ref p/\(SqL K H p xs\/SqT K H p xs)/\Rep K H x dx/\Reps K H xs ds/\dx.canLay0=true/\(∀d ∈ ds,d.canLay0=true)/\dx.depth<=60/\Q (.bl (if neg then !(ds.any fun d=>PyData.eqv d dx) else ds.any fun d=>PyData.eqv d dx)) H
open Classical in
noncomputable def eqW(h:Heap)(ds:List PyData)(dx:PyData)(u:Value):Bool:=decide (∃d ∈ ds,(∃as,Reads h u d as)/\PyData.eqv d dx=true)
open Classical in
theorem SM{h:Heap}{ds:List PyData}{dx d:PyData}{u:Value}{as:List Addr}(hd:d ∈ ds)(hl:∀d ∈ ds,d.canLay0=true)(r:Reads h u d as):eqW h ds dx u=PyData.eqv d dx:=by
 unfold eqW
 by_cases e:PyData.eqv d dx=true
 . rw [e];exact BG ⟨d,hd,⟨as,r⟩,e⟩
 . rw [JG.mpr e];refine B8 ?_;rintro ⟨d',hd',⟨as',r'⟩,e'⟩;rw [<-SeqAt.Reads.unique d d' u as as' (hl d hd) r r'] at e'
   exact e e'
theorem PB{h:Heap}{dx:PyData}{all:List PyData}(hl:∀d ∈ all,d.canLay0=true):∀ {us:List Value} {ds:List PyData} {as:List Addr},ReadsAll h us ds as->(∀d ∈ ds,d ∈ all)->us.any (eqW h all dx)=ds.any fun d=>PyData.eqv d dx
 | _,_,_, .nil,_=>rfl
 | _,_,_, .cons r t,hs=>by
  rw [U9,U9,SM (hs _ B5) hl r,PB hl t fun d hd=>hs d (AN _ hd)]
theorem HX{h:Heap}:∀ {us:List Value} {ds:List PyData} {as:List Addr},ReadsAll h us ds as->∀u ∈ us,∃d ∈ ds,∃bs,Reads h u d bs
 | _,_,_, .nil,u,hu=>by cases hu
 | _,_,_, .cons r t,u,hu=>by
  rcases B7.mp hu with rfl | hu
  . exact ⟨_,B5,_,r⟩
  . obtain ⟨d,hd,q⟩:=HX t u hu;exact ⟨d,AN _ hd,q⟩
theorem MU(A:Around):A.in1.units=A.units+1:=rfl
theorem zN(hu:X.A.units+64<cLine):OpR X (compareOp .In) (xS X.K false):=by
 intro pins s σ H x y v u Q I rx ry h;obtain ⟨p,xs,dx,ds,rfl,hq,hx,hs,lx,ld,dp,q⟩:=h
 cases ry
 obtain ⟨bs,r2⟩:=hx.reads I rx lx;rcases hq with hq | hq
 . obtain ⟨its,r,pl,hz⟩:=I.list hq;obtain ⟨as,ra⟩:=Reps.reads I hs r (KO ld);refine SeqAt.in_listAt (eqW s.heap ds dx) pl.isList (fun w hw=> ?_) ⟨.bl _,H,I,rfl,?_⟩
   . obtain ⟨d,hd,cs,rd⟩:=HX ra w (by simpa using hw);rw [SM hd ld rd];exact RC d dx _ _ _ _ _ _ rd r2 (ld d hd) lx (by have:=MU X.A;omega)
   . rw [show its.toArray.any (eqW s.heap ds dx)=its.any (eqW s.heap ds dx) by simp,PB ld ra fun _ h=>h];exact q
 . obtain ⟨its,r,pl,hz⟩:=I.tuple hq;obtain ⟨as,ra⟩:=Reps.reads I hs r (KO ld);refine SeqAt.in_tupleAt (eqW s.heap ds dx) pl (fun w hw=> ?_) ⟨.bl _,H,I,rfl,?_⟩
   . obtain ⟨d,hd,cs,rd⟩:=HX ra w (by simpa using hw);rw [SM hd ld rd];exact RC d dx _ _ _ _ _ _ rd r2 (ld d hd) lx (by have:=MU X.A;omega)
   . rw [show its.toArray.any (eqW s.heap ds dx)=its.any (eqW s.heap ds dx) by simp,PB ld ra fun _ h=>h];exact q
theorem g9(hu:X.A.units+64<cLine):OpR X (compareOp .NotIn) (xS X.K true):=by
 intro pins s σ H x y v u Q I rx ry h;obtain ⟨p,xs,dx,ds,rfl,hq,hx,hs,lx,ld,dp,q⟩:=h
 cases ry
 obtain ⟨bs,r2⟩:=hx.reads I rx lx;rcases hq with hq | hq
 . obtain ⟨its,r,pl,hz⟩:=I.list hq;obtain ⟨as,ra⟩:=Reps.reads I hs r (KO ld);refine SeqAt.notIn_listAt (eqW s.heap ds dx) pl.isList (fun w hw=> ?_) ⟨.bl _,H,I,rfl,?_⟩
   . obtain ⟨d,hd,cs,rd⟩:=HX ra w (by simpa using hw);rw [SM hd ld rd];exact RC d dx _ _ _ _ _ _ rd r2 (ld d hd) lx (by have:=MU X.A;omega)
   . rw [show its.toArray.any (eqW s.heap ds dx)=its.any (eqW s.heap ds dx) by simp,PB ld ra fun _ h=>h];exact q
 . obtain ⟨its,r,pl,hz⟩:=I.tuple hq;obtain ⟨as,ra⟩:=Reps.reads I hs r (KO ld);refine SeqAt.notIn_tupleAt (eqW s.heap ds dx) pl (fun w hw=> ?_) ⟨.bl _,H,I,rfl,?_⟩
   . obtain ⟨d,hd,cs,rd⟩:=HX ra w (by simpa using hw);rw [SM hd ld rd];exact RC d dx _ _ _ _ _ _ rd r2 (ld d hd) lx (by have:=MU X.A;omega)
   . rw [show its.toArray.any (eqW s.heap ds dx)=its.any (eqW s.heap ds dx) by simp,PB ld ra fun _ h=>h];exact q
def inD(neg:Bool)(dx:PyData)(ds:List PyData):Option Sl:=if dx.canLay0=true/\(ds.all fun d=>d.canLay0)=true/\dx.depth<=60 then some (.val (.bool (if neg then !(ds.any fun d=>PyData.eqv d dx) else ds.any fun d=>PyData.eqv d dx))) else none
def IG(neg:Bool)(a b:Sl):Option Sl:=match b.dat with
 | .list ds=>inD neg a.dat ds
 | .tuple ds=>inD neg a.dat ds
 | _=>none
theorem dH{K:PySem.W.Frag}{neg:Bool}:OpD K (xS K neg) (IG neg):=fun H0 H x y sx sy z s px py hz Q q=>by
 unfold IG at hz
 split at hz
 . rename_i ds hd;unfold inD at hz
   split at hz
   . rename_i hc
     cases hz
     obtain ⟨a,vs,rfl,h1,h2⟩:=py.lst s hd;exact ⟨a,vs,_,ds,rfl, .inl h1,px.rep s,Reps.same s h2,hc.1,fun d hd=>FH.mp hc.2.1 d hd,hc.2.2,q _ _ _ (Ext.refl s) (.bool _)⟩
   . cases hz
 . rename_i ds hd;unfold inD at hz
   split at hz
   . rename_i hc
     cases hz
     obtain ⟨a,vs,rfl,h1,h2⟩:=py.tup hd;exact ⟨a,vs,_,ds,rfl, .inr (s.seqT h1),px.rep s,Reps.same s h2,hc.1,fun d hd=>FH.mp hc.2.1 d hd,hc.2.2,q _ _ _ (Ext.refl s) (.bool _)⟩
   . cases hz
 . cases hz
variable {R:Rl} [RelOk X.K R] {a b e:Expr} {pos p:Pos} {fa fb f:En->Option Sl}
theorem NX(hu:X.A.units+64<cLine)(ha:DP X R a fa)(hb:DP X R b fb)(hm:behindInMarks .In b=false:=by with_unfolding_all rfl):DT X R (.Compare a [.In] [b] pos) (mTest (mBin (IG false) fa fb)):=NM (zN hu) dH ha hb hm
theorem UF(hu:X.A.units+64<cLine)(ha:DP X R a fa)(hb:DP X R b fb)(hm:behindInMarks .NotIn b=false:=by with_unfolding_all rfl):DT X R (.Compare a [.NotIn] [b] pos) (mTest (mBin (IG true) fa fb)):=NM (g9 hu) dH ha hb hm
end
end Dm
namespace Tf
open PySem PySem.Spec PyProof.Rows L2
variable {X:Cx}
end Tf
namespace Tf
open PySem PySem.Spec PyProof.Rows L2
def BM(h:Heap)(mg:Str->Option Value):Prop:=∃bm o,mg "__builtins__" = some (.ref bm)/\bm≠builtinsNs/\h.get? bm=some o/\o.cls = .type "module" /\ o.dict=some builtinsNs/\o.data = .plain
def AB1(f:Addr)(fo:Obj):HO:= .ext fun h=>h.get? f=some fo
structure Made (H H':Hp) (f c:Addr) (oc fo:Obj):Prop where
 same:∃H1,(H1=H\/(H c=none/\H1=upd H c (.frz oc (.own 0))))/\H1 f=none/\H'=upd H1 f (AB1 f fo)
 code:H' c=some (.frz oc (.own 0))
 fn:H' f=some (AB1 f fo)
 rec_:∃vs x,oc.data = .fields vs/\vs[1]? = some x
variable {X:Cx}
end Tf
namespace Tf
open PySem PySem.Spec PyProof.Rows L2
structure LB where
 q:Str
 f:Addr
 cd:Value
 s:Shared
 H:Hp
structure LamSc (X:Cx) (sc:Scope) (cl:List (Str×Addr)) (x:Str) (ys:List Str):Prop where
 kind:sc.kind = .function
 co:sc.isCoroutine=false
 gen:sc.isGenerator=false
 par:sc.names.lookup x=some .local
 nocell:∀y ∈ sc.names,y.2 ≠ .cell
 free:∀y,sc.names.lookup y=some .free->y ∈ ys
 fr:∀y ∈ ys,sc.names.lookup y=some .free
 cells:∀y c,cl.lookup y=some c->X.env.cells.lookup y=some c
 has:∀y ∈ ys,∃c,cl.lookup y=some c
 out:∀y ∈ ys,X.env.scope.names.lookup y=some .cell
variable {X:Cx}
end Tf
namespace Dm
open PySem PySem.Spec PyProof.Rows L2 Tf
section
variable {X:Cx} {a:Expr} {ta:TE} {p1 p2 pos pos2:Pos}
def S7(n:Nat):List V:=(List.range n).map fun k:Nat=>V.int (k:Int)
def tLR(ta:TE):TE:=fun σ H Q=>ta σ H fun x H1=>∃n:Nat,x = .int (n:Int)/\n<=1000/\∀p,H1 p=none->Q (.ref p) (upd H1 p (.lst (S7 n)))
theorem W5:∀ {xs:List V} {us:List Value},xs.length=us.length->(∀(j:Nat) x u,xs[j]? = some x->us[j]? = some u->RelV x u)->Vals xs us
 | [],[],_,_=> .nil
 | x::xs,u::us,hl,h=> .cons (h 0 x u rfl rfl) (W5 (by simpa using hl) fun j y v h1 h2=>h (j+1) y v (by simpa using h1) (by simpa using h2))
theorem VL (hml : X.mg "list" = none) (hmr : X.mg "range" = none) (ha : PE X a ta) (hgl : Gl X "list" := by rfl) (hgr : Gl X "range" := by rfl) (hc : X.calm = true := by rfl)
 (hs1:starEach [.Call (.Name "range" p2) [a] [] pos2] X.env=(false,eval (.Call (.Name "range" p2) [a] [] pos2) X.env)::starEach [] X.env:=by rfl) (hs0:(backTo pos (starEach [] X.env)).any (·.1)=false:=by rfl) (hs2:backTo pos (starEach [] X.env) = []:=by rfl)
 (hsa:starEach [a] X.env=(false,eval a X.env)::starEach [] X.env:=by rfl) (hs3:(backTo pos2 (starEach [] X.env)).any (·.1)=false:=by rfl):PE X (.Call (.Name "list" p1) [.Call (.Name "range" p2) [a] [] pos2] [] pos) (tLR ta):=by
 intro pins s σ H Q I h;refine Call_ (HS I hgl hml OY (BD ?_ hs1 hs0));rw [hs1];show wpAny _ _ (spliced ((false,eval (.Call (.Name "range" p2) [a] [] pos2) X.env)::backTo pos (starEach [] X.env))) _ _ s;rw [hs2];refine O8 ?_;refine Call_ (HS I hgr hmr SK (BD (thn (K3 ha NW hsa pos2 pins s σ H (fun vs H1=>∃n:Nat,vs = [.int (n:Int)]/\n<=1000/\∀p,H1 p=none->Q (.ref p) (upd H1 p (.lst (S7 n)))) I ?_) fun us s1 ⟨vs,H1,I1,r1,q1⟩ => ?_) hsa hs3))
 . have h:ta σ H fun x H1=>∃n:Nat,x = .int (n:Int)/\n<=1000/\∀p,H1 p=none->Q (.ref p) (upd H1 p (.lst (S7 n))):=h;refine (show ta σ H (fun x H1=>∃n:Nat,[x] = [V.int (n:Int)]/\n<=1000/\∀p,H1 p=none->Q (.ref p) (upd H1 p (.lst (S7 n)))) from ?_)
   have e:(fun (x:V) (H1:Hp)=>∃n:Nat,[x] = [V.int (n:Int)]/\n<=1000/\∀p,H1 p=none->Q (.ref p) (upd H1 p (.lst (S7 n))))=fun x H1=>∃n:Nat,x = .int (n:Int)/\n<=1000/\∀p,H1 p=none->Q (.ref p) (upd H1 p (.lst (S7 n))):=by
    funext x H1;simp only [List.cons.injEq,and_true]
   rw [e];exact h
 obtain ⟨n,e,hn,q⟩:=q1;subst e
 cases r1 with
 | cons r rr=>
  cases rr
  obtain ⟨t,rfl⟩:=r;refine call_range_1 ?_;refine QD ?_
  let s2:Shared:={s1 with heap:=s1.heap.push {cls:= .type "range",data:= .fields #[.int 0 s1.toks, .int (n:Int) t, .int 1 (s1.toks+1)]},toks:=s1.toks+1+1}
  have I2:Inv X pins σ H1 s2:=I1.kept fun b o e=>Heap.get?_push_of_some _ e;refine call_list_range (s:=s2) (n:=n) (I1.ok.hd hc) (IsRange.new ..) (small_one (by decide) (by decide) (by omega) (by omega)) (by rw [rangeSize_one];split <;> omega) (by omega) fun h' tk acc' c' hk hS' hacc=> ?_;have hs:=hacc.1;refine ⟨.ref s2.heap.objs.size,_,I2.laid (t':=tk) (o:= .lst (S7 n)) hk (Nat.le_refl _) ?_,rfl,q _ (I2.hok.fresh (Nat.le_refl _))⟩;refine ⟨by unfold S7;rw [List.length_map,List.length_range];exact Nat.le_trans hn (by decide),acc'.toList,c',W5 (by unfold S7;rw [List.length_map,List.length_range,Array.length_toList,hs]) fun j x u h1 h2=> ?_,by simpa using hS'⟩;unfold S7 at h1
  rw [B3] at h1
  obtain ⟨k,hk1,hk2⟩:=B0.mp h1;obtain ⟨hj,ej⟩:=AX.mp hk1;rw [AE0] at ej
  subst ej hk2;obtain ⟨tk',e⟩:=hacc.2 j u (by simpa using h2);subst e;exact ⟨tk',by simp⟩
end
def XN:Sl->Option Int
 | .val (.int n)=>some n
 | _=>none
theorem NZ{s:Sl}{n:Int}(h:XN s=some n):s = .val (.int n):=by
 unfold XN at h
 split at h
 . cases h;rfl
 . cases h
section
variable {K:PySem.W.Frag} {R:Rl} [RelOk K R]
def mLR(fa:En->Option Sl):En->Option Sl:=fun ρ=>((fa ρ).bind XN).bind fun n=>if 0<=n/\n<=1000 then some (.own ((List.range n.toNat).map fun k:Nat=> .int (k:Int))) else none
theorem Y0{H:Hp}:∀ks:List Nat,Reps K H (ks.map fun k:Nat=>V.int (k:Int)) (ks.map fun k:Nat=> .int (k:Int))
 | []=> .nil
 | k::ks=> .cons (.int _) (Y0 ks)
theorem A74{ta:TE}{fa:En->Option Sl}(hA:RP K R ta fa):RE K R (tLR ta) (mLR fa):=fun HB σ ρ H0 H s e z hz Q q=>by
 obtain ⟨n,hn,hz⟩:=A0.mp hz;obtain ⟨s1,e1,hn⟩:=A0.mp hn;have hn:=NZ hn;subst hn
 split at hz
 . rename_i h0
   cases hz
   refine hA HB σ ρ H0 H s e _ e1 _ fun w H1 J1 x1 p1=>⟨n.toNat,by rw [IE h0.1];exact p1.int,by omega,fun l hp=> ?_⟩;have xp:=Ext.alloc x1.s1 hp (.lst (S7 n.toNat));exact q _ _ _ (x1.trans xp) ⟨l,_,rfl,x1.s.free hp,x1.s1.free hp,C9,Y0 _⟩
 . cases hz
end
section
variable {X:Cx} {R:Rl} [RelOk X.K R] {a:Expr} {p1 p2 pos pos2:Pos} {fa:En->Option Sl}
theorem A91 (hml : X.mg "list" = none) (hmr : X.mg "range" = none) (ha : DP X R a fa) (hgl : Gl X "list" := by rfl) (hgr : Gl X "range" := by rfl) (hc : X.calm = true := by rfl)
 (hs1:starEach [.Call (.Name "range" p2) [a] [] pos2] X.env=(false,eval (.Call (.Name "range" p2) [a] [] pos2) X.env)::starEach [] X.env:=by rfl) (hs0:(backTo pos (starEach [] X.env)).any (·.1)=false:=by rfl) (hs2:backTo pos (starEach [] X.env) = []:=by rfl)
 (hsa:starEach [a] X.env=(false,eval a X.env)::starEach [] X.env:=by rfl) (hs3:(backTo pos2 (starEach [] X.env)).any (·.1)=false:=by rfl):DE X R (.Call (.Name "list" p1) [.Call (.Name "range" p2) [a] [] pos2] [] pos) (mLR fa):=by
 obtain ⟨t,h1,h2⟩:=ha;exact ⟨_,VL hml hmr h1 hgl hgr hc hs1 hs0 hs2 hsa hs3,A74 h2⟩
end
end Dm
namespace Tf
open PySem PySem.Spec PyProof.Rows L2
variable {X:Cx}
end Tf
namespace Dm
open PySem PySem.Spec PyProof.Rows L2 Tf
section
variable {K:PySem.W.Frag} {R:Rl} [RelOk K R]
end
section
variable {X:Cx} {R:Rl} [RelOk X.K R]
end
end Dm
namespace Tf
open PySem PySem.Spec PyProof.Rows L2
variable {X:Cx}
end Tf
namespace Dm
open PySem PySem.Spec PyProof.Rows L2 Tf
section
variable {K:PySem.W.Frag}
end
end Dm
namespace Tf
open PySem PySem.Spec PyProof.Rows L2
theorem OL:∀ {us:List Value} {ns:List Int},Vals (ns.map V.int) us->IntsAre us ns
 | _,[],r=>by cases r;exact .nil
 | _,n::ns,r=>by
  cases r with
  | cons r1 r2=>
   obtain ⟨t,q⟩:=(show ∃t,_=Value.int n t from r1);subst q;exact .cons n t (OL r2)
variable {X:Cx}
end Tf
namespace Dm
open PySem PySem.Spec PyProof.Rows L2 Tf
def srt(ns:List Int):List Int:=ns.mergeSort fun a b=>decide (a<=b)
section
variable {K:PySem.W.Frag}
end
end Dm
namespace Dm
open PySem PySem.Spec PyProof.Rows L2 Tf
section
variable {K:PySem.W.Frag} {R:Rl} [RelOk K R]
end
section
variable {X:Cx} {R:Rl} [RelOk X.K R] {a b e o:Expr} {f fa fb:En->Option Sl} {p pos apos cpos:Pos} {st:Stmt}
end
end Dm
namespace Tf
open PySem PySem.Spec PyProof.Rows L2
def vI(ts:List Addr):Obj:={cls:= .type "tables",data:= .fields (ts.map Value.ref).toArray}
def KN(K:PySem.W.Frag)(ts:List Addr):PySem.W.Frag:=K.filter (fun p=>decide (p.1 ∉ ts)) ++ [(mainGlobals,vI ts)]
def tbK(names:List Str)(K:PySem.W.Frag):List (Addr×Addr):=names.filterMap (PySem.W.tabIn K)
theorem aC(K:PySem.W.Frag)(ts:List Addr):SJ (KN K ts)=ts:=by
 have e:(KN K ts).getLast? = some (mainGlobals,vI ts):=by unfold KN;simp
 unfold SJ;rw [e];show ((ts.map Value.ref).toArray.toList.filterMap _)=ts;rw [List.toList_toArray,List.filterMap_map];exact List.filterMap_some
theorem M8{ts:List Addr}{a:Addr}(h:a ∉ ts):∀K:PySem.W.Frag,List.lookup a (K.filter fun p=>decide (p.1 ∉ ts))=List.lookup a K
 | []=>rfl
 | (b,o)::K=>by
  have ih:=M8 h K;rw [AG4]
  by_cases hb:b ∈ ts
  . have ne : (a == b) = false := by
     refine JG.mpr fun z=> ?_;have:=DY.mp z;exact h (this ▸ hb)
    rw [AR (by simp [hb]),ih,List.lookup,ne]
  . rw [AU (by simp [hb]),List.lookup,List.lookup]
    cases a==b
    . exact ih
    . rfl
theorem V0{ts:List Addr}{a:Addr}(h:a ∈ ts):∀K:PySem.W.Frag,List.lookup a (K.filter fun p=>decide (p.1 ∉ ts))=none
 | []=>rfl
 | (b,o)::K=>by
  have ih:=V0 h K;rw [AG4]
  by_cases hb:b ∈ ts
  . rw [AR (by simp [hb]),ih]
  . rw [AU (by simp [hb]),List.lookup]
    have ne:(a==b)=false:=by
     refine JG.mpr fun z=> ?_;have:=DY.mp z;exact hb (this ▸ h)
    rw [ne];exact ih
theorem IF{K:PySem.W.Frag}{ts:List Addr}{a:Addr}{o:Obj}(h:a ∉ ts)(e:K.lookup a=some o):(KN K ts).lookup a=some o:=by
 unfold KN;rw [List.lookup_append,M8 h,e];rfl
theorem A49{K:PySem.W.Frag}{ts:List Addr}{a:Addr}{o:Obj}(hm:∃o,K.lookup mainGlobals=some o)(hn:mainGlobals ∉ ts)(e:(KN K ts).lookup a=some o):K.lookup a=some o/\a ∉ ts:=by
 unfold KN at e
 rw [List.lookup_append] at e
 by_cases ha:a ∈ ts
 . rw [V0 ha] at e
   have ne:(a==mainGlobals)=false:=by
    refine JG.mpr fun z=> ?_;have:=DY.mp z;exact hn (this ▸ ha)
   simp [List.lookup,ne] at e
 . refine ⟨?_,ha⟩;rw [M8 ha] at e
   by_cases hg:a=mainGlobals
   . subst hg;obtain ⟨o',ho'⟩:=hm;rw [ho'] at e
     simpa [ho'] using e
   . have ne:(a==mainGlobals)=false:=JG.mpr fun z=>hg (DY.mp z)
     cases hk:K.lookup a with
     | none=>rw [hk] at e;simp [List.lookup,ne] at e
     | some o'=>rw [hk] at e;simpa using e
theorem OX{K:PySem.W.Frag}{h:Heap}{ts:List Addr}{a:Addr}{o:Obj}(KX:K.In h)(hT:∀p ∈ ts,h.get? p=some (PySem.W.tabObj #[]))(e:K.lookup a=some o)(hne:o≠PySem.W.tabObj #[]):a ∉ ts:=fun hm=>by
 have e1:=KX a o e;rw [hT a hm] at e1
 exact hne (B6 e1).symm
theorem BP{K:PySem.W.Frag}{h:Heap}{ts:List Addr}{x qual:Str}{st:Stmt}{f:Addr}{fd:FuncData}(KX:K.In h)(hT:∀p ∈ ts,h.get? p=some (PySem.W.tabObj #[]))(F:Fun K x qual st f fd):Fun (KN K ts) x qual st f fd:=by
 obtain ⟨oc,od,kV,doc,pm,an,cdv,ct,osl,rfl,lk,hcd⟩:=F.ex;have l2:=IF (OX KX hT lk (fun z=>by cases z)) lk;refine ⟨⟨oc,od,kV,doc,pm,an,cdv,ct,osl,rfl,l2,?_⟩,?_⟩
 . unfold PySem.W.codeIn at hcd ⊢
   split at hcd
   . rename_i c
     split at hcd
     . rename_i oc' od' vs sl' hc
       have hne:(⟨oc',od', .fields vs,sl'⟩:Obj)≠PySem.W.tabObj #[]:=fun z=>by
        cases z
        simp at hcd
       rw [IF (OX KX hT hc hne) hc];exact hcd
     . cases hcd
   . cases hcd
 . unfold PySem.W.keepIn
   dsimp only
   rw [l2]
theorem gD {P : Program} {w : World} {K : PySem.W.Frag} {mg mb : Str -> Option Value} {k : Nat} {fa a : Addr} {fd : FuncData} {x : Str} {sp : Sp} {s₁ : Shared} {vs : List Value} {ns : List Int} {tb : List (Addr × Addr)}
 (KX:K.In s₁.heap) (hmain:∃o,K.lookup mainGlobals=some o) (hns:s₁.heap.Ns mainGlobals mg) (hb:s₁.heap.Ns builtinsNs mb) (hbb:∀x:Str,x ≠ "__name__" -> mb x=bootBuiltins x) (hlim:s₁.heap.NoLimit) (hg:s₁.gens = #[])
 (ha:s₁.heap.get? a=some {cls:= .type "list",data:= .seq vs.toArray}) (hi:IntsAre vs ns) (hl:ns.length<=sizeLine) (hr:Room k callerA)
 (hT:∀p ∈ tb,PySem.W.CodeHd s₁.heap p.1 p.2/\s₁.heap.get? p.2=some (PySem.W.tabObj #[])) (hbm:BM s₁.heap mg)
 (F:∀base:Heap,(KN K (tb.map (·.2))).In base->base.Ns mainGlobals mg->(∀p ∈ tb,PySem.W.CodeHd base p.1 p.2)->BM base mg->FnOk P w (KN K (tb.map (·.2))) mg base CX0 k fa fd [x] sp) (hbind:∀(s:Shared) (u:Value),BindsTo s fd ⟨[u],[]⟩ [(x,u)])
 (hsp:∀H:Hp,SqL (KN K (tb.map (·.2))) H a (ns.map V.int)->sp [.ref a] H (fun v _=>v = .bl true) fun _ _ _=>False) :
 codeAny (model P w) callerA (.call (.ref fa) ⟨[.ref a],[]⟩) (fun r s'=>r = .ok (.ret (.bool true))/\OldK s₁.heap s'.heap/\s'.os=s₁.os/\AllBare s'.gens) s₁:=by
 have rv:=UH hi;have lenV:=hi.length
 let ts:=tb.map (·.2)
 have hts:∀p ∈ ts,s₁.heap.get? p=some (PySem.W.tabObj #[]):=fun p hp=>by
  obtain ⟨q,hq,rfl⟩:=BK.mp hp;exact (hT q hq).2
 have nts:∀ {b:Addr} {o:Obj},s₁.heap.get? b=some o->o≠PySem.W.tabObj #[]->b ∉ ts:=fun {b o} e n hm=>by
  rw [hts b hm] at e
  exact n (B6 e).symm
 have hat:a ∉ ts:=nts ha fun z=>by cases z
 have hmt:mainGlobals ∉ ts:=by
  obtain ⟨o,es,ep,e,d,_⟩:=hns;exact nts e fun z=>by rw [z] at d;cases d
 let ao:Obj:={cls:= .type "list",data:= .seq vs.toArray}
 let H:Hp:=fun b=>if b ∈ ts then some (.tbl #[]) else if b=a/\K.lookup a=none then some (.frz ao (.lst (ns.map V.int))) else none
 have Ht:∀ {b:Addr},b ∈ ts->H b=some (.tbl #[]):=fun {b} hm=>AU hm
 have Hc:∀b,(b ∈ ts/\H b=some (.tbl #[]))\/(b=a/\K.lookup a=none/\H b=some (.frz ao (.lst (ns.map V.int))))\/(H b=none/\b ∉ ts/\(b=a->K.lookup a≠none)):=fun b=>by
  by_cases h1:b ∈ ts
  . exact .inl ⟨h1,Ht h1⟩
  . by_cases h2:b=a/\K.lookup a=none
    . exact .inr (.inl ⟨h2.1,h2.2,(AR h1).trans (AU h2)⟩)
    . exact .inr (.inr ⟨(AR h1).trans (AR h2),h1,fun z c=>h2 ⟨z,c⟩⟩)
 have hok:HOk P w H s₁.heap:=fun b u e=>by
  rcases Hc b with ⟨h1,h2⟩ | ⟨rfl,h1,h2⟩ | ⟨h1,_,_⟩
  . rw [h2] at e
    cases e
    exact ⟨#[],hts b h1,E4,fun pos v z=>by simp [codeAmong] at z⟩
  . rw [h2] at e
    cases e
    exact ⟨ha,by rw [A4];exact hl,vs,_,rv,ha⟩
  . rw [h1] at e
    cases e
 have free:∀ {b:Addr} {o:Obj},s₁.heap.get? b=some o->o≠PySem.W.tabObj #[]->o≠ao->H b=none:=fun {b o} e n1 n2=>by
  rcases Hc b with ⟨h1,_⟩ | ⟨rfl,_,_⟩ | ⟨h1,_,_⟩
  . exact absurd h1 (nts e n1)
  . rw [ha] at e
    exact absurd (B6 e).symm n2
  . exact h1
 have base_of:∀ {b:Addr} {o:Obj},s₁.heap.get? b=some o->H b=none->(RH s₁.heap H).get? b=some o:=fun e n=>mT e n;have nsK:∀ {b:Addr} {m:Str->Option Value},s₁.heap.Ns b m->(RH s₁.heap H).Ns b m:=fun {b m} ⟨o,es,ep,e,d,r⟩=>⟨o,es,ep,base_of e (free e (fun z=>by rw [z] at d;cases d) (fun z=>by rw [z] at d;cases d)),d,r⟩
 have hKb:(KN K ts).In (RH s₁.heap H):=fun b o e=>by
  obtain ⟨e1,e2⟩:=A49 hmain hmt e;refine base_of (KX b o e1) ?_;rcases Hc b with ⟨h1,_⟩ | ⟨rfl,h1,_⟩ | ⟨h1,_,_⟩
  . exact absurd h1 e2
  . rw [h1] at e1;cases e1
  . exact h1
 have hM:Mod (KN K ts) mg (RH s₁.heap H):=⟨hKb,nsK hns,⟨mb,nsK hb,hbb⟩,let ⟨mc,h1,h2⟩:=hlim;⟨mc,nsK h1,h2⟩⟩
 have hCb:∀p ∈ tb,PySem.W.CodeHd (RH s₁.heap H) p.1 p.2:=fun p hp=>by
  obtain ⟨o,vs',file,tf,flags,tg,inF,text,tt,e,c,r⟩:=(hT p hp).1;exact ⟨o,vs',file,tf,flags,tg,inF,text,tt,base_of e (free e (fun z=>by rw [z] at c;cases c) (fun z=>by rw [z] at c;exact absurd (Value.type.inj c) (by decide))),c,r⟩
 have hBb:BM (RH s₁.heap H) mg:=by
  obtain ⟨b,ob,b1,b2,b3,b4,b5,b6⟩:=hbm;exact ⟨b,ob,b1,b2,base_of b3 (free b3 (fun z=>by rw [z] at b4;cases b4) (fun z=>by rw [z] at b4;exact absurd (Value.type.inj b4) (by decide))),b4,b5,b6⟩
 have e0:Env0 P w (KN K ts) mg (RH s₁.heap H) callerA [] s₁ H:=⟨rfl,hM,fun b o e=>qJ e,WP (iM _ _),trivial,fun b hb=>absurd (show b ∈ ([]:List Addr) from hb) (by simp),hok, .of_eq hg,fun p hp=>by rw [aC] at hp;exact ⟨_,Ht hp⟩⟩
 have hS:SqL (KN K ts) H a (ns.map V.int):=by
  cases hk:K.lookup a with
  | some o=>
   have e:=KX a o hk;rw [ha] at e
   cases e
   exact .inr ⟨_,vs.toArray,_,IF hat hk,rfl,rfl,rfl,by rw [AF,lenV];exact hl,by simpa using rv⟩
  | none=>exact .inl (.inr ⟨ao,(AR hat).trans (AU ⟨rfl,hk⟩)⟩)
 refine j0 ((F _ hKb (nsK hns) hCb hBb).run callerA [] s₁ H ⟨[.ref a],[]⟩ [.ref a] [.ref a] _ _ hr e0 (hbind s₁ (.ref a)) (.cons rfl .nil) (hsp H hS)) fun r s' h=> ?_
 cases r with
 | error e=>exact False.elim h
 | ok fl=>
  cases fl with
  | next=>exact False.elim h
  | brk=>exact False.elim h
  | cont=>exact False.elim h
  | ret u=>
   obtain ⟨v,H',os,bare,un,hok',r',q⟩:=h;have q':v = .bl true:=q;subst q';obtain rfl:u=Value.bool true:=r'
   have grown:∀ {b:Addr},b ∈ ts->∃qs,s'.heap.get? b=some (PySem.W.tabObj qs):=fun {b} hm=>by
    obtain ⟨more,e⟩:=un.tbls b _ (Ht hm);obtain ⟨qs,e1,_⟩:=hok' b _ e;exact ⟨qs,e1⟩
   have keep:∀ {b:Addr} {o:Obj},b ∉ ts->s₁.heap.get? b=some o->s'.heap.get? b=some o:=fun {b o} hb' e=>by
    rcases Hc b with ⟨h1,_⟩ | ⟨rfl,_,h2⟩ | ⟨h1,_,_⟩
    . exact absurd h1 hb'
    . have z2:=un.frzs _ _ _ h2;obtain ⟨e2,_⟩:=hok' _ _ z2;rw [ha] at e
      cases e
      exact e2
    . exact un.keep b o e h1 (by intro z;exact absurd (show b ∈ ([]:List Addr) from z) (by simp)) (by simp)
   refine ⟨rfl,⟨fun b o e=> ?_,fun b o e=> ?_⟩,os,bare⟩
   . by_cases hm:b ∈ ts
     . obtain ⟨q,hq,rfl⟩:=BK.mp hm;obtain ⟨qs,e1⟩:=grown hm;rw [hts _ hm] at e
       cases e
       exact .inr (.inl ⟨((hT q hq).1.tab (hT q hq).2).isCodeTable,rfl, #[],qs,rfl,by rw [Array.empty_append];exact e1⟩)
     . exact .inl (keep hm e)
   . by_cases hm:b ∈ ts
     . obtain ⟨qs,e1⟩:=grown hm;exact ⟨_,e1⟩
     . exact ⟨o,keep hm e⟩
theorem kT {l : PySem.W.OpenLaw} {n k : Nat} {q : Program} {loose : List Str} {XP : (Str -> Option Value) -> Heap -> Prop} {YP : World -> Heap -> Prop} {d : DefRec} {K : Params -> PySem.W.Frag} {names : List Str} {sp : PySem.W.Frag -> Sp} {x : Str}
 (hn:l.most=some n) (hn2:n<=sizeLine) (hdf:d.params.defaults = []) (hr:Room k callerA)
 (hY:∀(w:World) (h:Heap),YP w h->(K w.params).In h)
 (hrec:∀y ∈ names,∃e,(recsOf q).find? (fun e=>e.name==y)=some e)
 (F:∀(w:World) (mg:Str->Option Value) (fa:Addr) (h:Heap),(K w.params).In h->h.Ns mainGlobals mg->mg d.name=some (.ref fa)->(∀p ∈ (tbK names (K w.params)).map (·.2),h.get? p=some (PySem.W.tabObj #[])) ->
  (∃o,(K w.params).lookup mainGlobals=some o)/\∃fd:FuncData,(∀(s:Shared) (u:Value),BindsTo s fd ⟨[u],[]⟩ [(x,u)]) /\
   ∀base:Heap,(KN (K w.params) ((tbK names (K w.params)).map (·.2))).In base->base.Ns mainGlobals mg->(∀p ∈ tbK names (K w.params),PySem.W.CodeHd base p.1 p.2)->BM base mg->FnOk l.prog w (KN (K w.params) ((tbK names (K w.params)).map (·.2))) mg base CX0 k fa fd [x] (sp (KN (K w.params) ((tbK names (K w.params)).map (·.2)))))
 (hsp:∀(K:PySem.W.Frag) (H:Hp) (a:Addr) (ns:List Int),ns.length<=n->SqL K H a (ns.map V.int)->sp K [.ref a] H (fun v _=>v = .bl true) fun _ _ _=>False) :
 PySem.W.WalkO q loose XP YP l.row.toRowW d [] (fun f vs=>PySem.call f vs):=by
 refine Att.attach_call hn hdf fun w s₀ s₁ mg mb fa o pm cd doc a vs ns G Y ho hd hcd hmg hobj hints hlen hg=> ?_;have KX:=hY w _ Y
 have hT:∀p ∈ tbK names (K w.params),PySem.W.CodeHd s₁.heap p.1 p.2/\s₁.heap.get? p.2=some (PySem.W.tabObj #[]):=fun p hp=>by
  obtain ⟨y,hy,e⟩:=LP.mp hp;obtain ⟨e',he'⟩:=hrec y hy;exact PySem.W.tab_of G.T KX he' e
 obtain ⟨hmain,fd,hb,hF⟩:=F w mg fa _ KX G.T.g hmg fun p hp=>by
  obtain ⟨r,hr',rfl⟩:=BK.mp hp;exact (hT r hr').2
 obtain ⟨bm,ob,b1,b2,b3,b4⟩:=G.T.bmain;exact gD KX hmain G.T.g G.T.b G.T.builtins G.T.nolimit hg hobj hints (AY hlen hn2) hr hT ⟨bm,ob,b1,b2,b3,b4⟩ hF hb fun H hS=>hsp _ H a ns hlen hS
theorem rF{K:PySem.W.Frag}{x:Str}{v:Option Value}(h:PySem.W.nsIn K mainGlobals x=some v):∃o,K.lookup mainGlobals=some o:=by
 unfold PySem.W.nsIn at h
 cases e:K.lookup mainGlobals with
 | none=>rw [e] at h;simp at h
 | some o=>exact ⟨o,rfl⟩
end Tf
namespace Dm
open PySem PySem.Spec PyProof.Rows L2 Tf
section
variable {K:PySem.W.Frag} {P:Program} {w:World} {mg:Str->Option Value} {base:Heap}
end
end Dm
namespace Dm
open PySem PySem.Spec PyProof.Rows L2 Tf
def cnt:L2.St->Nat
 | []=>0
 | none::r=>cnt r
 | some _::r=>cnt r+1
theorem bI:∀l:L2.St,cnt l<=l.length
 | []=>A8 _
 | none::r=>AF7 (bI r)
 | some _::r=>Nat.succ_le_succ (bI r)
theorem YJ:∀ {l:L2.St} {j:Nat} {u v:V},l[j]? = some (some u)->cnt (l.set j (some v))=cnt l
 | [],_,_,_,h=>by simp at h
 | o::r,0,u,v,h=>by simp at h;subst h;rfl
 | o::r,j+1,u,v,h=>by
  have:=YJ (l:=r) (j:=j) (u:=u) (v:=v) (by simpa using h)
  cases o <;> simp [cnt,this]
theorem XU:∀ {l:L2.St} {j:Nat} {v:V},l[j]? = some none->cnt (l.set j (some v))=cnt l+1
 | [],_,_,h=>by simp at h
 | o::r,0,v,h=>by simp at h;subst h;rfl
 | o::r,j+1,v,h=>by
  have:=XU (l:=r) (j:=j) (v:=v) (by simpa using h)
  cases o <;> simp [cnt,this]
structure OA (C:Addr) (names:List Str) (HB H0 H:Hp) (p:Addr) (vals:L2.St):Prop where
 hp:HB p=none
 h0p:H0 p=none
 len:vals.length=names.length
 ins:∃dx fs,H p=some (.ins C dx fs)/\fs.length<=cnt vals/\(∀(j:Nat) f,names[j]? = some f->fs.lookup f=(vals[j]?).join)/\∀f,f ∉ names->fs.lookup f=none
section
variable {K:PySem.W.Frag} {C:Addr} {names:List Str}
theorem OA.ext{HB H0 H H0' H':Hp}{p:Addr}{vals:L2.St}(x:Ext H0 H H0' H')(o:OA C names HB H0 H p vals):OA C names HB H0' H' p vals:=by
 obtain ⟨dx,fs,h1,h2⟩:=o.ins;exact ⟨o.hp,x.own p _ h1 trivial o.h0p,o.len,dx,fs,x.s _ _ h1,h2⟩
theorem OA.other{HB H0 H:Hp}{p a:Addr}{vals:L2.St}{vs:List V}{u:HO}(o:OA C names HB H0 H p vals)(h:H a=some (.lst vs)):OA C names HB H0 (upd H a u) p vals:=by
 obtain ⟨dx,fs,h1,h2⟩:=o.ins;have hne:p≠a:=by rintro rfl;rw [h1] at h;cases h
 exact ⟨o.hp,o.h0p,o.len,dx,fs,by rw [BQ hne];exact h1,h2⟩
theorem OA.frz{HB H0 H:Hp}{p a:Addr}{vals:L2.St}{vs:List V}{u:HO}(o:OA C names HB H0 H p vals)(h:H a=some (.lst vs)):OA C names HB (upd H0 a u) H p vals:=by
 obtain ⟨dx,fs,h1,h2⟩:=o.ins;have hne:p≠a:=by rintro rfl;rw [h1] at h;cases h
 exact ⟨o.hp,by rw [BQ hne];exact o.h0p,o.len,dx,fs,h1,h2⟩
theorem OA.base{HB HB' H0 H:Hp}{p:Addr}{vals:L2.St}(s:Same HB HB')(o:OA C names HB' H0 H p vals):OA C names HB H0 H p vals:=⟨s.free o.hp,o.h0p,o.len,o.ins⟩
theorem ER.base{HB HB' H0 H:Hp}{σ:L2.St}{ρ:En}(s:Same HB HB')(e:ER K HB' H0 H σ ρ):ER K HB H0 H σ ρ:=
 ⟨e.len,fun i r h=>by obtain ⟨v,h1,h2⟩:=e.get i r h;exact ⟨v,h1,h2.base s⟩,e.apart⟩
theorem ER.updO{HB H0 H:Hp}{σ:L2.St}{ρ:En}{p:Addr}{o:HO}(e:ER K HB H0 H σ ρ)(hp:∀vs,H p≠some (.lst vs))(hd:∀t,H p≠some (.dT t)):ER K HB H0 (upd H p o) σ ρ:=
 ⟨e.len,fun i r h=>by
  obtain ⟨v,h1,h2⟩:=e.get i r h;refine ⟨v,h1,?_⟩
  cases r with
  | val d=>exact h2
  | own ds=>
   obtain ⟨a,vs,rfl,q1,q2,q3,q4⟩:=h2
   exact ⟨a,vs,rfl,q1,q2,by rw [BQ (by rintro rfl;exact hp _ q3)];exact q3,q4⟩
  | dct ds=>
   obtain ⟨a,vs,rfl,q1,q2,q3,q4⟩:=h2;exact ⟨a,vs,rfl,q1,q2,by rw [BQ (by rintro rfl;exact hd _ q3)];exact q3,q4⟩,e.apart⟩
structure OD where
 C:Addr
 names:List Str
 s:Nat
 n:Nat
 p:Addr
def FR(K:PySem.W.Frag)(od:OD):Rl:=
 ⟨fun HB H0 H σ ρ=>σ.length=od.n/\∃p vals,p=od.p/\σ[od.s]? = some (some (.ref p))/\OA od.C od.names HB H0 H p vals/\ER K HB H0 H (σ++vals) ρ,fun i=>i≠od.s/\i<od.n⟩
theorem cF{σ vals:L2.St}{i:Nat}{v:Option V}(h:i<σ.length):(σ++vals).set i v=σ.set i v++vals:=by
 rw [List.set_append_left _ _ h]
theorem nW{σ vals:L2.St}{j:Nat}{v:Option V}:(σ++vals).set (σ.length+j) v=σ++vals.set j v:=by
 rw [List.set_append_right _ _ (CZ _ _),CQ]
instance relOk_FR {od:OD}:RelOk K (FR K od) where
 ext:=fun x ⟨h1,p,vals,hpp,h2,h3,h4⟩=>⟨h1,p,vals,hpp,h2,h3.ext x,h4.ext x⟩
 get:=fun ⟨h1,p,vals,hpp,h2,h3,h4⟩ hs h=>by
  obtain ⟨v,e1,e2⟩:=h4.get _ _ h;rw [A9 (by rw [h1];exact hs.2)] at e1
  exact ⟨v,e1,e2⟩
 set:=fun {HB H0 H H0' H' σ ρ i v s} ⟨h1,p,vals,hpp,h2,h3,h4⟩ hs x sb h=>by
  refine ⟨by rw [EE];exact h1,p,vals,hpp,by rw [AT hs.1];exact h2,h3.ext x,?_⟩;have:=h4.set (i:=i) x sb h;rw [cF (by rw [h1];exact hs.2)] at this
  exact this
 write:=fun {HB H0 H σ ρ i a ds es vs ys} ⟨h1,p,vals,hpp,h2,h3,h4⟩ hs hi hσ hb h0 ha hr=>by
  refine ⟨h1,p,vals,hpp,h2,h3.other ha,?_⟩;exact h4.write hi (by rw [A9 (by rw [h1];exact hs.2)];exact hσ) hb h0 hr
 frz:=fun ⟨h1,p,vals,hpp,h2,h3,h4⟩ _ hi x=>by
  obtain ⟨a,vs,ha,x',e'⟩:=h4.frz hi x;exact ⟨_,x',h1,p,vals,hpp,h2,h3.frz ha,e'⟩
variable {od:OD}
theorem o7 {HB H0 H : Hp} {σ : L2.St} {ρ : En} {j : Nat} {f : Str} {r : Sl} (e : ST (FR K od) HB H0 H σ ρ) (hj : od.names[j]? = some f) (h : ρ[od.n + j]? = some (some r)) :
 ∃p dx fs v,σ[od.s]? = some (some (.ref p))/\H p=some (.ins od.C dx fs)/\fs.lookup f=some v/\SlH K HB H0 H v r:=by
 obtain ⟨h1,p,vals,hpp,h2,h3,h4⟩:=e.r;obtain ⟨v,e1,e2⟩:=h4.get _ _ h;rw [<-h1,A6 (CZ _ _),CQ] at e1
 obtain ⟨dx,fs,q1,q2,q3,q4⟩:=h3.ins;exact ⟨p,dx,fs,v,h2,q1,by rw [q3 j f hj,e1];rfl,e2⟩
theorem A25{j:Nat}{f:Str}(hc:Cls K od.C)(hn:NoAttr K od.C f)(hj:od.names[j]? = some f):RP K (FR K od) (iT K (MY od.s) f) (mPk (od.n+j)):=fun HB σ ρ H0 H s e r hr Q q=>by
 obtain ⟨p,dx,fs,v,h1,h2,h3,h4⟩:=o7 e hj (join_some hr);exact ⟨.ref p,h1,p,od.C,dx,fs,v,rfl,h2,hc,hn,h3,q v H0 H (Ext.refl s) h4.p⟩
theorem yK{j:Nat}{f:Str}(hc:Cls K od.C)(hn:NoAttr K od.C f)(hj:od.names[j]? = some f):RE K (FR K od) (iT K (MY od.s) f) (mVar (od.n+j)):=fun HB σ ρ H0 H s e r hr Q q=>by
 unfold mVar at hr
 cases ej:(ρ[od.n+j]?).join with
 | none=>rw [ej] at hr;cases hr
 | some r' =>
  rw [ej] at hr
  cases r' with
  | own _=>cases hr
  | dct _=>cases hr
  | val d=>
   cases hr
   obtain ⟨p,dx,fs,v,h1,h2,h3,h4⟩:=o7 e hj (join_some ej);exact ⟨.ref p,h1,p,od.C,dx,fs,v,rfl,h2,hc,hn,h3,q v H0 H (Ext.refl s) h4⟩
theorem XB{f:Str}{v u:V}:∀ {fs:List (Str×V)},fs.lookup f=some u->(L0 f v fs).length=fs.length
 | [],h=>by cases h
 | (g,x)::r,h=>by
  show (if g=f then (g,v)::r else (g,x)::L0 f v r).length=_
  split
  . rfl
  . rename_i hg;have:(f==g)=false:=G6.mpr fun z=>hg z.symm;rw [List.lookup,this] at h
    rw [B9,B9,XB h]
theorem wU {te : TE} {fe : En -> Option Sl} {j : Nat} {f : Str} (hc : Cls K od.C) (hn : NoAttr K od.C f) (hj : od.names[j]? = some f) (hnd : od.names.Nodup) (hlt : od.names.length < 1000) (h : RE K (FR K od) te fe) :
 RS K (FR K od) (A94 K (MY od.s) te f) (mAsg (od.n+j) fe):=fun HB S0 σ ρ H0 H x e o ho D d=>by
 obtain ⟨r,hr,rfl⟩:=B0.mp ho;refine h HB σ ρ H0 H x.s1 e r hr _ fun v H1 J1 x1 p1=> ?_;obtain ⟨h1,p,vals,hpp,h2,h3,h4⟩:=e.r;have oa:=h3.ext x1;obtain ⟨dx,fs,q1,q2,q3,q4⟩:=oa.ins;have e1:=h4.set (i:=od.n+j) x1 x.s p1;rw [<-h1,nW] at e1
 have xx:=(x.chain x1).write oa.hp oa.h0p (.ins od.C dx (L0 f v fs));have hjl:j<vals.length:=by rw [h3.len];exact (AX.mp hj).1
 refine ⟨.ref p,h2,p,od.C,dx,fs,rfl,q1,hc,hn,by have:=bI vals;have:=h3.len;omega,?_⟩;refine d σ H1 _ xx ⟨⟨h1,p,vals.set j (some v),hpp,h2,⟨oa.hp,oa.h0p,by rw [EE];exact h3.len,dx,_,C9,?_,fun k g hk=> ?_,fun g hg=> ?_⟩,?_⟩⟩
 . cases hv:vals[j]? with
   | none=>rw [List.getElem?_eq_none_iff] at hv;omega
   | some ov=>
    cases ov with
    | none=>rw [XU hv];have:=M9 f v fs;omega
    | some u=>
     rw [YJ hv,XB (u:=u) (by rw [q3 j f hj,hv];rfl)];exact q2
 . rw [K2]
   split
   . rename_i hg;subst hg;have:k=j:=SS hnd hk hj;subst this;rw [JE (by exact hjl)];rfl
   . rename_i hg;have:j≠k:=by rintro rfl;rw [hj] at hk;exact hg (B6 hk).symm
     rw [AT this];exact q3 k g hk
 . rw [K2,AR]
   . exact q4 g hg
   . rintro rfl;exact hg (B2 hj)
 . rw [h1] at e1
   exact e1.updO (fun vs z=>by rw [q1] at z;cases z) (fun vs z=>by rw [q1] at z;cases z)
theorem dX {HB H0 H : Hp} {σ : L2.St} {ρ : En} {j : Nat} {f : Str} {ds : List PyData} (e : ST (FR K od) HB H0 H σ ρ) (hj : od.names[j]? = some f) (h : (ρ[od.n + j]?).join = some (.own ds)) :
 ∃p dx fs a vs,σ[od.s]? = some (some (.ref p))/\H p=some (.ins od.C dx fs)/\fs.lookup f=some (.ref a)/\HB a=none/\H0 a=none/\H a=some (.lst vs)/\Reps K H0 vs ds /\
  ∀(H0' H':Hp) ys es,Ext H0 H H0' H'->Reps K H0' ys es->ST (FR K od) HB H0' (upd H' a (.lst ys)) σ (ρ.set (od.n+j) (some (.own es))):=by
 obtain ⟨h1,p,vals,hpp,h2,h3,h4⟩:=e.r;obtain ⟨v,e1,a,vs,rfl,g1,g2,g3,g4⟩:=h4.get _ _ (join_some h);have e1':=e1;rw [<-h1,A6 (CZ _ _),CQ] at e1
 obtain ⟨dx,fs,q1,q2,q3,q4⟩:=h3.ins;refine ⟨p,dx,fs,a,vs,h2,q1,by rw [q3 j f hj,e1];rfl,g1,g2,g3,g4,fun H0' H' ys es x hr=> ?_⟩;exact ⟨h1,p,vals,hpp,h2,(h3.ext x).other (x.s _ _ g3),(h4.ext x).write (join_some h) e1' g1 (x.own _ _ g3 trivial g2) hr⟩
theorem pU{te:TE}{fe:En->Option Sl}{j:Nat}{f:Str}(hc:Cls K od.C)(hn:NoAttr K od.C f)(hj:od.names[j]? = some f)(h:RE K (FR K od) te fe):RS K (FR K od) (ZK (tBM K "list" rAppend (iT K (MY od.s) f) (UB te tNil))) (mApp (od.n+j) fe):=fun HB S0 σ ρ H0 H x e o ho D d=>by
 unfold mApp at ho
 split at ho
 . rename_i ds hown;obtain ⟨r,hr,ho⟩:=A0.mp ho
   split at ho
   . rename_i hl
     cases ho
     obtain ⟨p,dx,fs,a,vs,h1,h2,h3,g1,g2,g3,g4,wr⟩:=dX e hj hown;refine ⟨.ref p,h1,p,od.C,dx,fs, .ref a,rfl,h2,hc,hn,h3, .inl ⟨rfl,vs,SqL.of g3⟩,?_⟩;refine h.rv HB σ ρ H0 H x.s1 e r.dat (by unfold mDat;rw [hr];rfl) _ fun v H1 J1 x1 p1=> ?_;refine ⟨a,vs,v,rfl,rfl,x1.s _ _ g3,by rw [g4.length];exact hl,?_⟩;exact d σ H1 _ ((x.chain x1).write g1 (x1.own a _ g3 trivial g2) _) (wr H1 J1 _ _ x1 (Tf.Reps.snoc (Reps.same x1.s0 g4) p1))
   . cases ho
 . cases ho
theorem uB{te tj:TE}{fe fj:En->Option Sl}{j:Nat}{f:Str}(hc:Cls K od.C)(hn:NoAttr K od.C f)(hj:od.names[j]? = some f)(h:RE K (FR K od) te fe)(hk:RP K (FR K od) tj fj):RS K (FR K od) (Z2 te (wM (iT K (MY od.s) f) tj rSetL)) (mSet (od.n+j) fj fe):=fun HB S0 σ ρ H0 H x e o ho D d=>by
 obtain ⟨r,hr,ho⟩:=A0.mp ho
 split at ho
 . rename_i ds hown;obtain ⟨k,hkk,ho⟩:=A0.mp ho
   split at ho
   . rename_i k;obtain ⟨i,hix,rfl⟩:=Option.map_eq_some_iff.mp ho;refine h.rv HB σ ρ H0 H x.s1 e r.dat (by unfold mDat;rw [hr];rfl) _ fun v H1 J1 x1 p1=> ?_;obtain ⟨p,dx,fs,a,vs,h1,h2,h3,g1,g2,g3,g4,wr⟩:=dX (e.ext (K:=K) x1) hj hown;refine ⟨.ref p,h1,p,od.C,dx,fs, .ref a,rfl,h2,hc,hn,h3,?_⟩;refine hk HB σ ρ H1 J1 x1.s1 (e.ext (K:=K) x1) _ hkk _ fun w H2 J2 x2 p2=> ?_;refine ⟨a,vs,k,i,rfl,p2.int,x2.s _ _ g3,by rw [g4.length];exact hix,?_⟩;exact d σ H2 _ (((x.chain x1).chain x2).write g1 (x2.own a _ g3 trivial g2) _) (wr H2 J2 _ _ x2 (Reps.set (Rep.same x2.s0 p1) i (Reps.same x2.s0 g4)))
   . cases ho
 . cases ho
def spM(K:PySem.W.Frag)(C:Addr)(names:List Str)(F:En->List PyData->Option (En×PyData)):Sp:=fun vs H Q _=>∃HB H0 p vals φ ds φ' d vs',vs = .ref p::vs'/\Same HB H/\Same H0 H/\OA C names HB H0 H p vals/\ER K HB H0 H vals φ/\Reps K H0 vs' ds/\F φ ds=some (φ',d) /\
 ∀v H0' H' vals',Ext H0 HB H0' H'->OA C names HB H0' H' p vals'->ER K HB H0' H' vals' φ'->Rep K H0' v d->Q v H'
open Classical in
noncomputable def QR(H:Hp)(p:Addr)(vals:L2.St)(φ:En):Hp:=fun b=>if b=p\/∃(j:Nat) (ds:List PyData),φ[j]? = some (some (.own ds))/\vals[j]? = some (some (.ref b)) then none else H b
theorem gH{H:Hp}{p:Addr}{vals:L2.St}{φ:En}:Same (QR H p vals φ) H:=fun b o h=>by
 unfold QR at h
 split at h
 . cases h
 . exact h
def noD(φ:En):Bool:=φ.all fun s=>match s with | some (.dct _)=>false | _=>true
theorem A45{φ:En}(h:noD φ=true){j:Nat}{kvs:List (PyData×PyData)}:φ[j]? ≠ some (some (.dct kvs)):=fun e=>by
 have:=FH.mp h _ (B2 e)
 cases this
def iO(F:En->List PyData->Option (En×PyData)):Prop:=∀φ ds r,F φ ds=some r->noD φ=true
theorem UN {HB S0 H0 H : Hp} {σ : L2.St} {ρ : En} {vs' : List V} {ds : List PyData} {F : En -> List PyData -> Option (En × PyData)} {φ' : En} {dd : PyData} {Q : VK} {E : XK} (x : Ext S0 HB H0 H) (e : ST (FR K od) HB H0 H σ ρ) (hr : Reps K H0 vs' ds) (hN : iO F) (hF : F (ρ.drop od.n) ds = some (φ', dd))
 (q:∀v H0' H',Ext S0 HB H0' H'->ST (FR K od) HB H0' H' σ (ρ.take od.n++φ')->Rep K H0' v dd->Q v H'):∃p dx fs,σ[od.s]? = some (some (.ref p))/\H p=some (.ins od.C dx fs)/\(∀m,m ∉ od.names->fs.lookup m=none)/\spM K od.C od.names F (.ref p::vs') H Q E:=by
 obtain ⟨h1,p,vals,hpp,h2,h3,h4⟩:=e.r;obtain ⟨dx,fs,q1,q2,q3,q4⟩:=h3.ins;have lρ:ρ.length=od.n+vals.length:=by rw [<-h4.len,AO,h1]
 have fi:∀(j:Nat),(ρ.drop od.n)[j]? = ρ[od.n+j]? :=fun j=>GJ;have si:∀(j:Nat),(σ++vals)[od.n+j]? = vals[j]? :=fun j=>by rw [<-h1,A6 (CZ _ _),CQ]
 refine ⟨p,dx,fs,h2,q1,q4,QR H p vals (ρ.drop od.n),H0,p,vals,ρ.drop od.n,ds,φ',dd,vs',rfl,gH,x.s1,⟨?_,h3.h0p,h3.len,h3.ins⟩,?_,hr,hF,fun v H0' H' vals' x' o' e' r' => ?_⟩
 . unfold QR;rw [if_pos (.inl rfl)]
 . refine ⟨by rw [OB,lρ];omega,fun j s hs=> ?_,fun i j a xs ys hij g1 g2 g3 g4=> ?_⟩
   . rw [fi] at hs
     obtain ⟨v,e1,e2⟩:=h4.get _ _ hs;rw [si] at e1
     refine ⟨v,e1,?_⟩
     cases s with
     | val d=>exact e2
     | own es=>
      obtain ⟨a,ws,rfl,k1,k2,k3,k4⟩:=e2;refine ⟨a,ws,rfl,?_,k2,k3,k4⟩;unfold QR
      rw [AU (.inr ⟨j,es,by rw [fi];exact hs,e1⟩)]
     | dct es=>exact absurd (show (ρ.drop od.n)[j]? = some (some (.dct es)) by rw [fi];exact hs) (A45 (hN _ _ _ hF))
   . rw [fi] at g1 g2
     exact h4.apart (od.n+i) (od.n+j) a xs ys (by omega) g1 g2 (by rw [si];exact g3) (by rw [si];exact g4)
 . -- behind the call
   have out:∀b,HB b≠none->QR H p vals (ρ.drop od.n) b=H b:=by
    intro b hb;unfold QR;rw [if_neg];rintro (rfl | ⟨j,es,k1,k2⟩)
    . exact hb h3.hp
    . rw [fi] at k1
      obtain ⟨w,e1,a,ws,rfl,k3,_⟩:=h4.get _ _ k1;rw [si,k2] at e1
      cases e1
      exact hb k3
   have back:∀a,QR H p vals (ρ.drop od.n) a=none->HB a=none:=by
    intro a ha
    cases hb:HB a with
    | none=>rfl
    | some u=>
     rw [out a (by rw [hb];simp),x.s a u hb] at ha
     cases ha
   have loc:∀(i:Nat) es a ws,i<od.n->ρ[i]? = some (some (.own es))->σ[i]? = some (some (.ref a))->H a=some (.lst ws)->QR H p vals (ρ.drop od.n) a=some (.lst ws):=by
    intro i es a ws hi k1 k2 k3;unfold QR;rw [if_neg]
    . exact k3
    . rintro (rfl | ⟨j,ts,k4,k5⟩)
      . rw [q1] at k3;cases k3
      . rw [fi] at k4
        exact h4.apart i (od.n+j) a es ts (by omega) k1 k4 (by rw [A9 (by omega)];exact k2) (by rw [si];exact k5)
   have xx:Ext S0 HB H0' H':=⟨fun b u hb=>x'.s b u (by rw [out b (by rw [hb];simp)];exact x.s b u hb),x.s0.trans x'.s0,x'.s1,fun b u hb m h0=>x'.own b u (by rw [out b (by rw [hb];simp)];exact x.s b u hb) m (x.own b u hb m h0)⟩;have lφ:φ'.length=vals'.length:=e'.len.symm;have tk:(ρ.take od.n).length=od.n:=by rw [FF,lρ];omega
   have left:∀(i:Nat),i<od.n->(ρ.take od.n++φ')[i]? = ρ[i]? :=fun i hi=>by rw [A9 (by omega),pO hi]
   have right:∀(i:Nat),od.n<=i->(ρ.take od.n++φ')[i]? = φ'[i - od.n]? :=fun i hi=>by rw [A6 (by omega),tk]
   have sl:∀(i:Nat),i<od.n->(σ++vals')[i]? = σ[i]? :=fun i hi=>A9 (by omega);have sr:∀(i:Nat),od.n<=i->(σ++vals')[i]? = vals'[i - od.n]? :=fun i hi=>by rw [A6 (by omega),h1]
   have lown:∀(i:Nat) es a,i<od.n->ρ[i]? = some (some (.own es))->σ[i]? = some (some (.ref a))->∃ws,H a=some (.lst ws)/\HB a=none/\H0 a=none/\Reps K H0 ws es:=by
    intro i es a hi k1 k2;obtain ⟨v,e1,b,ws,rfl,k3,k4,k5,k6⟩:=h4.get _ _ k1;rw [A9 (by omega),k2] at e1
    cases e1
    exact ⟨ws,k5,k3,k4,k6⟩
   refine q v H0' H' xx ⟨h1,p,vals',hpp,h2,⟨h3.hp,o'.h0p,o'.len,o'.ins⟩,?_,fun i s hs=> ?_,fun i j a xs ys hij g1 g2 g3 g4=> ?_⟩ r'
   . rw [AO,AO,tk,lφ,h1]
   . by_cases hi:i<od.n
     . rw [left i hi] at hs
       rw [sl i hi];obtain ⟨w,e1,e2⟩:=h4.get _ _ hs;rw [A9 (by omega)] at e1
       refine ⟨w,e1,?_⟩
       cases s with
       | val d=>exact Rep.same x'.s0 e2
       | own es=>
        obtain ⟨a,ws,rfl,k1,k2,k3,k4⟩:=e2;have hl:=loc i es a ws hi hs e1 k3
        exact ⟨a,ws,rfl,k1,x'.own a _ hl trivial k2,x'.s a _ hl,Reps.same x'.s0 k4⟩
       | dct es=>
        obtain ⟨a,ws,rfl,k1,k2,k3,k4⟩:=e2
        have hl:QR H p vals (ρ.drop od.n) a=some (.dT ws):=by
         unfold QR;rw [if_neg]
         . exact k3
         . rintro (rfl | ⟨j,ts,k5,k6⟩)
           . rw [q1] at k3;cases k3
           . rw [fi] at k5
             obtain ⟨w,e1',b,us,rfl,_,_,k7,_⟩:=h4.get _ _ k5;rw [si,k6] at e1'
             cases e1'
             rw [k7] at k3
             cases k3
        exact ⟨a,ws,rfl,k1,x'.own a _ hl trivial k2,x'.s a _ hl,k4.same x'.s0⟩
     . rw [right i (by omega)] at hs
       rw [sr i (by omega)];obtain ⟨w,e1,e2⟩:=e'.get _ _ hs;refine ⟨w,e1,?_⟩
       cases s with
       | val d=>exact e2
       | own es=>
        obtain ⟨a,ws,rfl,k1,k2⟩:=e2
        exact ⟨a,ws,rfl,back a k1,k2⟩
       | dct es=>
        obtain ⟨a,ws,rfl,k1,k2⟩:=e2;exact ⟨a,ws,rfl,back a k1,k2⟩
   . have mixed : ∀ (i j : Nat) xs ys, i < od.n -> od.n <= j -> (ρ.take od.n ++ φ')[i]? = some (some (.own xs)) -> (ρ.take od.n ++ φ')[j]? = some (some (.own ys)) -> (σ ++ vals')[i]? = some (some (.ref a)) -> (σ ++ vals')[j]? ≠ some (some (.ref a)) := by
      intro i j xs ys hi hj g1 g2 g3 g4;rw [left i hi] at g1
      rw [right j hj] at g2
      rw [sl i hi] at g3
      rw [sr j hj] at g4
      obtain ⟨ws,k3,_⟩:=lown i xs a hi g1 g3;have hl:=loc i xs a ws hi g1 g3 k3;obtain ⟨w,e1,b,us,rfl,k1,_⟩:=e'.get _ _ g2;rw [g4] at e1
      cases e1
      rw [hl] at k1
      cases k1
     by_cases hi:i<od.n
     . by_cases hj:j<od.n
       . rw [left i hi] at g1
         rw [left j hj] at g2
         rw [sl i hi] at g3
         rw [sl j hj] at g4
         exact h4.apart i j a xs ys hij g1 g2 (by rw [A9 (by omega)];exact g3) (by rw [A9 (by omega)];exact g4)
       . exact mixed i j xs ys hi (by omega) g1 g2 g3 g4
     . by_cases hj:j<od.n
       . exact mixed j i ys xs hj (by omega) g2 g1 g4 g3
       . rw [right i (by omega)] at g1
         rw [right j (by omega)] at g2
         rw [sr i (by omega)] at g3
         rw [sr j (by omega)] at g4
         exact e'.apart (i - od.n) (j - od.n) a xs ys (by omega) g1 g2 g3 g4
def K5(n:Nat)(F:En->List PyData->Option (En×PyData))(fa:En->Option (List PyData))(k:En->PyData->Option Out):En->Option Out:=fun ρ=>(fa ρ).bind fun ds=>(F (ρ.drop n) ds).bind fun r=>k (ρ.take n++r.1) r.2
theorem nB{ta:TA}{fa:En->Option (List PyData)}{F:En->List PyData->Option (En×PyData)}{m:Str}{E:XK}(hm:m ∉ od.names)(hN:iO F)(h:RA K (FR K od) ta fa):RS K (FR K od) (ZK (fI od.C m (spM K od.C od.names F) [] E (MY od.s) ta)) (K5 od.n F fa fun ρ _=>some (.nx ρ)):=fun HB S0 σ ρ H0 H x e o ho D d=>by
 obtain ⟨ds,hd,ho⟩:=A0.mp ho;obtain ⟨⟨φ',dd⟩,hF,ho⟩:=A0.mp ho
 cases ho
 obtain ⟨h1,p,vals,hpp,h2,h3,h4⟩:=e.r;obtain ⟨dx,fs,q1,q2,q3,q4⟩:=h3.ins;refine ⟨.ref p,h2,p,dx,fs,rfl,q1,q4 m hm,?_⟩;refine h HB σ ρ H0 H x.s1 e ds hd _ fun vs H1 J1 x1 p1=> ?_;rw [DK];obtain ⟨p',dx',fs',k1,k2,k3,k4⟩:=UN (E:=E) (x.chain x1) (e.ext (K:=K) x1) p1 hN hF (fun v H2 J2 x2 e2 r2=>d σ H2 J2 x2 e2);rw [h2] at k1
 cases k1
 exact k4
theorem mJ {ta : TA} {fa : En -> Option (List PyData)} {F : En -> List PyData -> Option (En × PyData)} {m : Str} {E : XK} {i : Nat} (hs : (FR K od).slot i) (hm : m ∉ od.names) (hN : iO F) (h : RA K (FR K od) ta fa) :
 RS K (FR K od) (Z2 (fI od.C m (spM K od.C od.names F) [] E (MY od.s) ta) (SB i)) (K5 od.n F fa fun ρ d=>some (.nx (ρ.set i (some (.val d))))):=fun HB S0 σ ρ H0 H x e o ho D d=>by
 obtain ⟨ds,hd,ho⟩:=A0.mp ho;obtain ⟨⟨φ',dd⟩,hF,ho⟩:=A0.mp ho
 cases ho
 obtain ⟨h1,p,vals,hpp,h2,h3,h4⟩:=e.r;obtain ⟨dx,fs,q1,q2,q3,q4⟩:=h3.ins;refine ⟨.ref p,h2,p,dx,fs,rfl,q1,q4 m hm,?_⟩;refine h HB σ ρ H0 H x.s1 e ds hd _ fun vs H1 J1 x1 p1=> ?_;rw [DK];obtain ⟨p',dx',fs',k1,k2,k3,k4⟩:=UN (E:=E) (x.chain x1) (e.ext (K:=K) x1) p1 hN hF (fun v H2 J2 x2 e2 r2=>d _ H2 J2 x2 ⟨RelOk.set (K:=K) (s:= .val dd) e2.r hs (Ext.refl x2.s1) x2.s r2⟩);rw [h2] at k1
 cases k1
 exact k4
end
end Dm
namespace Dm
open PySem PySem.Spec PyProof.Rows L2 Tf
section
variable {K:PySem.W.Frag} {C:Addr} {names:List Str}
def PY(n m k:Nat)(g:En->Option Out):En->List PyData->Option (En×PyData):=fun φ ds=>if (ds.length+1=m/\φ.length=k)/\noD φ=true then (g ((none::ds.map (fun d=>some (.val d)))++List.replicate (n - (ds.length+1)) none++φ)).bind fun o=>match o with
 | .rt (.val d) ρ=>some (ρ.drop n,d)
 | .nx ρ=>some (ρ.drop n, .none)
 | _=>none else none
theorem XA{n m k:Nat}{g:En->Option Out}:iO (PY n m k g):=fun φ ds r h=>by
 unfold PY at h
 split at h
 . rename_i hc;exact hc.2
 . cases h
theorem dC {HB H0 H : Hp} {p : Addr} {vs : List V} {ds : List PyData} {N : List Str} {vals : L2.St} {φ : En} (hn : ds.length + 1 <= N.length) (hr : Reps K H0 vs ds) (e : ER K HB H0 H vals φ) :
 ER K HB H0 H (L2.start N (.ref p::vs)++vals) ((none::ds.map (fun d=>some (.val d)))++List.replicate (N.length - (ds.length+1)) none++φ):=by
 have hl:=hr.length
 have ls:(L2.start N (.ref p::vs)).length=N.length:=by
  unfold L2.start;simp only [List.length_append,List.length_map,List.length_replicate,List.length_cons];omega
 have lr:((none::ds.map (fun d=>some (Sl.val d)))++List.replicate (N.length - (ds.length+1)) (none:Option Sl)).length=N.length:=by
  simp only [AO,A4,CF,B9];omega
 have lv:∀(i:Nat) s,i<N.length->((none::ds.map (fun d=>some (Sl.val d)))++List.replicate (N.length - (ds.length+1)) (none:Option Sl))[i]? = some (some s)->∃j d,i=j+1/\ds[j]? = some d/\s = .val d:=by
  intro i s hi hs
  cases i with
  | zero=>cases hs
  | succ j=>
   by_cases hj:j<ds.length
   . rw [K6,BW,A9 (by simpa using hj),B3,AD hj] at hs
     cases hs
     exact ⟨j,_,rfl,AD hj,rfl⟩
   . rw [K6,BW,A6 (by simpa using hj),D8] at hs
     split at hs <;> cases hs
 refine ⟨by rw [AO,AO,ls,lr,e.len],fun i s hs=> ?_,fun i j a xs ys hij g1 g2 g3 g4=> ?_⟩
 . by_cases hi:i<N.length
   . rw [A9 (by omega)] at hs ⊢
     obtain ⟨j,d,rfl,hd,rfl⟩:=lv i s hi hs;obtain ⟨v,h1,h2⟩:=Tf.Reps.get hr hd;refine ⟨v,?_,h2⟩;unfold L2.start;have hj:j<vs.length:=(List.getElem?_eq_some_iff.mp h1).1;rw [List.map_cons,List.cons_append,List.getElem?_cons_succ,List.getElem?_append_left (by simpa using hj),List.getElem?_map,h1];rfl
   . rw [A6 (by omega),lr] at hs
     rw [A6 (by omega),ls];exact e.get _ _ hs
 . have big : ∀ (i : Nat) xs, ((none :: ds.map (fun d => some (Sl.val d))) ++ List.replicate (N.length - (ds.length + 1)) (none : Option Sl) ++ φ)[i]? = some (some (.own xs)) -> N.length <= i := by
    intro i xs h
    by_cases hi:i<N.length
    . rw [A9 (by omega)] at h
      obtain ⟨_,_,_,_,z⟩:=lv i _ hi h
      cases z
    . omega
   have b1:=big i xs g1;have b2:=big j ys g2;rw [A6 (by omega),lr] at g1 g2
   rw [A6 (by omega),ls] at g3 g4
   exact e.apart _ _ a xs ys (by omega) g1 g2 g3 g4
section
variable {P:Program} {w:World} {mg:Str->Option Value} {base:Heap}
theorem fnM {x qual : Str} {st : Stmt} {f : Addr} {fd : FuncData} {N ps : List Str} {k n m l : Nat} {g : En -> Option Out} (F : Fun K x qual st f fd) (S : FnScope N ps (AQ st)) (hn : N.length = n) (hm : ps.length = m) (hl : names.length = l)
 (hb:∀(cdv:Value) (A:Around) (outer:List Env) (s:Shared) (H:Hp) (E:XK) (p:Addr),Room k (A.deeper (envOfC qual (AQ st) s.heap.objs.size f cdv))->DSs (QQ CX0 P w K mg base N qual (AQ st) f cdv A outer s H E).nox (FR K ⟨C,names,0,n,p⟩) (HZ st) g) :
 FnOk P w K mg base CX0 (k+1) f fd ps (spM K C names (PY n m l g)):=by
 subst hn hm hl;have hpl:ps.length<=N.length:=by have:=GM List.length S.pre;rw [FF] at this;omega
 refine F.ok S (fun vs H Q E h=> ?_) fun cdv A outer s H vs Q E hr h=> ?_
 . obtain ⟨HB,H0,p,vals,φ,ds,φ',d,vs',rfl,s1,s2,oa,er,hr,hf,_⟩:=h;unfold PY at hf
   split at hf
   . rename_i hl;rw [B9,hr.length];exact hl.1.1
   . cases hf
 . obtain ⟨HB,H0,p,vals,φ,ds,φ',d,vs',rfl,s1,s2,oa,er,hr',hf,q⟩:=h;obtain ⟨t,ht,rs⟩:=hb cdv A outer s H E p hr;refine ⟨t,ht,?_⟩;have hr:=hr';unfold PY at hf
   split at hf
   . rename_i hl;obtain ⟨o,ho,hf⟩:=A0.mp hf;have hvl:=hr.length
     have ls:(L2.start N (.ref p::vs')).length=N.length:=by
      unfold L2.start;simp only [List.length_append,List.length_map,List.length_replicate,List.length_cons];omega
     refine rs HB H0 _ _ H0 H ⟨s1,Same.refl _,s2,fun _ _ _ _ h=>h⟩ ⟨⟨ls,p,vals,rfl,rfl,oa,dC (by omega) hr er⟩⟩ o ho _ ?_
     have fin:∀ {σ:L2.St} {H1 J1:Hp} {ρ:En} {v:V} {dd:PyData},Ext H0 HB H1 J1->ST (FR K ⟨C,names,0,N.length,p⟩) HB H1 J1 σ ρ->Rep K H1 v dd->(ρ.drop N.length,dd)=(φ',d)->Q v J1:=by
      intro σ H1 J1 ρ v dd x e r he;obtain ⟨h1,p',vals',hpp,h2,h3,h4⟩:=e.r
      cases he
      cases hpp
      refine q v H1 J1 vals' x h3 ⟨?_,fun i s hs=> ?_,fun i j a xs ys hij g1 g2 g3 g4=> ?_⟩ r
      . have:=h4.len;rw [AO,h1] at this
        rw [OB];show _=_ - _;have hh:(⟨C,names,0,N.length,p⟩:OD).n=N.length:=rfl;omega
      . rw [GJ] at hs
        obtain ⟨w,e1,e2⟩:=h4.get _ _ hs;rw [A6 (by rw [h1];exact CZ _ _),h1] at e1
        refine ⟨w,?_,e2⟩;have hh:(⟨C,names,0,N.length,p⟩:OD).n=N.length:=rfl;rw [hh,CQ] at e1
        exact e1
      . have si : ∀ i : Nat, (σ ++ vals')[N.length + i]? = vals'[i]? := fun i => by
         have hh:(⟨C,names,0,N.length,p⟩:OD).n=N.length:=rfl;rw [A6 (by rw [h1];exact CZ _ _),h1,hh,CQ]
        rw [GJ] at g1 g2
        exact h4.apart _ _ a xs ys (by omega) g1 g2 (by rw [si];exact g3) (by rw [si];exact g4)
     cases o with
     | rt r ρ=>
      cases r with
      | val dd=>exact fun v σ H1 J1 a b c=>fin a b c (B6 hf)
      | own _=>cases hf
      | dct _=>cases hf
     | nx ρ=>exact fun σ H1 J1 a b=>fin (v:= .non) a b .none (B6 hf)
     | bk _=>cases hf
     | ct _=>cases hf
   . cases hf
end
end
end Dm
namespace Dm
open PySem PySem.Spec PyProof.Rows L2 Tf
section
variable {K:PySem.W.Frag} {C:Addr} {names:List Str} {R:Rl} [RelOk K R]
def RB(K:PySem.W.Frag)(R:Rl)(C:Addr)(names:List Str)(te:TE)(fo:En->Option En):Prop:=
 ∀(HB:Hp) (σ:L2.St) (ρ:En) (H0 H:Hp),Same H0 H->ST R HB H0 H σ ρ->∀φ,fo ρ=some φ->∀Q:VK,(∀p vals H0' H',Ext H0 H H0' H'->OA C names H H0' H' p vals->ER K H H0' H' vals φ->Q (.ref p) H')->te σ H Q
def YK(k:Nat)(F:En->List PyData->Option (En×PyData))(fa:En->Option (List PyData)):En->Option En:=fun ρ=>(fa ρ).bind fun ds=>(F (List.replicate k none) ds).bind fun r=>match r.2 with
 | .none=>some r.1
 | _=>none
theorem pX{ta:TA}{fa:En->Option (List PyData)}{F:En->List PyData->Option (En×PyData)}{E:XK}{k:Nat}(hk:k=names.length)(h:RA K R ta fa):RB K R C names (vL C (spM K C names F) [] E ta) (YK k F fa):=fun HB σ ρ H0 H s e φ hφ Q q=>by
 subst hk;obtain ⟨ds,hd,hφ⟩:=A0.mp hφ;obtain ⟨⟨φ',d⟩,hF,hφ⟩:=A0.mp hφ
 have hdn:d = .none/\φ'=φ:=by
  cases d with
  | none=>cases hφ;exact ⟨rfl,rfl⟩
  | _=>cases hφ
 obtain ⟨rfl,rfl⟩:=hdn;refine h HB σ ρ H0 H s e ds hd _ fun vs H1 J1 x1 p1=> ?_;intro x dx hx hdx hne;rw [DK];have s1:Same J1 (upd (upd J1 dx (.own x)) x (.ins C dx [])):=fun b u hb=>by rw [BQ (BY hb hx),BQ (BY hb hdx)];exact hb
 refine ⟨J1,H1,x,List.replicate names.length none,List.replicate names.length none,ds,φ', .none,vs,rfl,s1,x1.s1.trans s1,⟨hx,x1.s1.free hx,CF,dx,[],C9,DF _,fun j f hj=> ?_,fun f _=>rfl⟩,⟨by rw [CF,CF],fun i r hr=> ?_,fun i j a xs ys _ g1 _ _ _=> ?_⟩,p1,hF,fun v H2 J2 vals' x2 o2 e2 r2=>⟨?_,?_⟩⟩
 . show none=_;rw [D8]
   split <;> rfl
 . rw [D8] at hr
   split at hr <;> cases hr
 . rw [D8] at g1
   split at g1 <;> cases g1
 . cases r2;rfl
 . exact q x vals' H2 J2 (x1.trans x2) (o2.base x1.s) (e2.base x1.s)
def spO(K:PySem.W.Frag)(C:Addr)(names:List Str)(F:List PyData->Option En):Sp:=fun vs H Q _=>∃H0 ds φ,Same H0 H/\Reps K H0 vs ds/\F ds=some φ/\∀p vals H0' H',Ext H0 H H0' H'->OA C names H H0' H' p vals->ER K H H0' H' vals φ->Q (.ref p) H'
def S8(F:List PyData->Option En)(fa:En->Option (List PyData)):En->Option En:=fun ρ=>(fa ρ).bind F
theorem sQ{ta:TA}{fa:En->Option (List PyData)}{F:List PyData->Option En}{E:XK}(h:RA K R ta fa):RB K R C names (dN (spO K C names F) [] E ta) (S8 F fa):=fun HB σ ρ H0 H s e φ hφ Q q=>by
 obtain ⟨ds,hd,hφ⟩:=A0.mp hφ;refine h HB σ ρ H0 H s e ds hd _ fun vs H1 J1 x1 p1=> ?_;rw [DK];exact ⟨H1,ds,φ,x1.s1,p1,hφ,fun p vals H2 J2 x2 o2 e2=>q p vals H2 J2 (x1.trans x2) (o2.base x1.s) (e2.base x1.s)⟩
section
variable {P:Program} {w:World} {mg:Str->Option Value} {base:Heap}
def DB(X:Cx)(R:Rl)(C:Addr)(names:List Str)(e:Expr)(fo:En->Option En):Prop:=∃te,PE X e te/\RB X.K R C names te fo
def oO(n m:Nat)(fo:En->Option En):List PyData->Option En:=fun ds=>if ds.length=m then fo (ds.map (fun d=>some (.val d))++List.replicate (n - ds.length) none) else none
theorem fnO {x qual : Str} {st : Stmt} {f : Addr} {fd : FuncData} {N ps : List Str} {k n m : Nat} {fo : En -> Option En} {e : Expr} {pos : Pos} (F : Fun K x qual st f fd) (S : FnScope N ps (AQ st)) (hn : N.length = n) (hm : ps.length = m) (hst : HZ st = [.Return (some e) pos])
 (hb:∀(cdv:Value) (A:Around) (outer:List Env) (s:Shared) (H:Hp) (E:XK),Room k (A.deeper (envOfC qual (AQ st) s.heap.objs.size f cdv))->DB (QQ CX0 P w K mg base N qual (AQ st) f cdv A outer s H E).nox (PR K) C names e fo) :
 FnOk P w K mg base CX0 (k+1) f fd ps (spO K C names (oO n m fo)):=by
 subst hn hm;refine F.ok S (fun vs H Q E h=> ?_) fun cdv A outer s H vs Q E hr h=> ?_
 . obtain ⟨H0,ds,φ,s,hr,hf,_⟩:=h;unfold oO at hf
   split at hf
   . rename_i hl;rw [hr.length,hl]
   . cases hf
 . obtain ⟨t,ht,rb⟩:=hb cdv A outer s H E hr;refine ⟨_,by rw [hst];exact d0 (aI ht),?_⟩;obtain ⟨H0,ds,φ,s0,hr,hf,q⟩:=h;unfold oO at hf
   split at hf
   . exact rb H _ _ H0 H s0 ⟨XT hr⟩ φ hf _ fun p vals H1 J1 x1 o1 e1=>q p vals H1 J1 x1 o1 e1
   . cases hf
end
def bG(n s:Nat)(fo:En->Option En)(g:En->Option Out):En->Option Out:=fun ρ=>if ρ.length=n then (fo ρ).bind fun φ=>(g (ρ.set s none++φ)).bind fun o=>match o with
 | .rt r _=>some (.rt r (List.replicate ρ.length none))
 | _=>none else none
theorem sW{HB H0 H:Hp}{σ:L2.St}{n:Nat}(h:σ.length=n):ER K HB H0 H σ (List.replicate n none) :=
 ⟨by rw [CF];exact h,fun i r hr=>(by rw [D8] at hr;split at hr <;> cases hr),fun i j a xs ys _ g1 _ _ _=>(by rw [D8] at g1;split at g1 <;> cases g1)⟩
theorem A43{te:TE}{tr:TS}{fo:En->Option En}{g:En->Option Out}{s n:Nat}(h:RB K (PR K) C names te fo)(hr:∀p:Addr,RS K (FR K ⟨C,names,s,n,p⟩) tr g)(hs:s<n):RS K (PR K) (xK (Z2 te (SB s)) tr) (bG n s fo g):=fun HB S0 σ ρ H0 H x e o ho D d=>by
 unfold bG at ho
 split at ho
 . rename_i hlen;obtain ⟨φ,hφ,ho⟩:=A0.mp ho;obtain ⟨o1,ho1,ho⟩:=A0.mp ho;have hσ:σ.length=n:=by rw [<-hlen];exact e.r.len
   refine h HB σ ρ H0 H x.s1 e φ hφ _ fun p vals H1 J1 x1 oa er=> ?_;have e1:ER K HB H1 J1 σ ρ:=ER.ext x1 e.r;have xx:=x.chain x1;have ob:OA C names HB H1 J1 p vals:=oa.base x.s;have eb:ER K HB H1 J1 vals φ:=er.base x.s;have lf:vals.length=φ.length:=er.len
   have nown:∀(i:Nat) r,(ρ.set s none)[i]? = some (some r)->i≠s/\ρ[i]? = some (some r):=by
    intro i r hi
    by_cases z:s=i
    . subst z;rw [EF] at hi
      cases hq:ρ[s]? with
      | none=>rw [hq] at hi;cases hi
      | some _=>rw [hq] at hi;cases hi
    . rw [AT z] at hi
      exact ⟨fun w=>z w.symm,hi⟩
   have old:∀(i:Nat) xs a,ρ[i]? = some (some (.own xs))->σ[i]? = some (some (.ref a))->∃u,H a=some u:=by
    intro i xs a k1 k2;obtain ⟨v,g1,b,ws,rfl,_,_,g2,_⟩:=ER.get e.r i _ k1;rw [k2] at g1
    cases g1
    exact ⟨_,g2⟩
   have new:∀(j:Nat) ys a,φ[j]? = some (some (.own ys))->vals[j]? = some (some (.ref a))->H a=none:=by
    intro j ys a k1 k2;obtain ⟨v,g1,b,ws,rfl,g2,_⟩:=er.get j _ k1;rw [k2] at g1
    cases g1
    exact g2
   have l1:(ρ.set s none).length=n:=by rw [EE,hlen]
   have l2:(σ.set s (some (V.ref p))).length=n:=by rw [EE,hσ]
   refine hr p HB S0 _ _ H1 J1 xx ⟨⟨l2,p,vals,rfl,?_,ob,?_,fun i r hi=> ?_,fun i j a xs ys hij g1 g2 g3 g4=> ?_⟩⟩ o1 ho1 D ?_
   . show (σ.set s (some (V.ref p)))[s]? = _;rw [JE (by rw [hσ];exact hs)]
   . rw [AO,AO,l1,l2,lf]
   . by_cases hin:i<n
     . rw [A9 (by omega)] at hi ⊢
       obtain ⟨z,hi⟩:=nown i r hi;obtain ⟨v,g1,g2⟩:=e1.get i r hi;exact ⟨v,by rw [AT (fun w=>z w.symm)];exact g1,g2⟩
     . rw [A6 (by omega),l1] at hi
       rw [A6 (by omega),l2];exact eb.get _ r hi
   . have mixed : ∀ (i j : Nat) xs ys, i < n -> n <= j -> (ρ.set s none ++ φ)[i]? = some (some (.own xs)) -> (ρ.set s none ++ φ)[j]? = some (some (.own ys)) -> (σ.set s (some (V.ref p)) ++ vals)[i]? = some (some (.ref a)) -> (σ.set s (some (V.ref p)) ++ vals)[j]? ≠ some (some (.ref a)) := by
      intro i j xs ys hi hj g1 g2 g3 g4;rw [A9 (by omega)] at g1 g3
      rw [A6 (by omega),l1] at g2
      rw [A6 (by omega),l2] at g4
      obtain ⟨z,g1⟩:=nown i _ g1;rw [AT (fun w=>z w.symm)] at g3
      obtain ⟨u,k1⟩:=old i xs a g1 g3;rw [new _ ys a g2 g4] at k1
      cases k1
     by_cases hi:i<n
     . by_cases hj:j<n
       . rw [A9 (by omega)] at g1 g2 g3 g4
         obtain ⟨z1,g1⟩:=nown i _ g1;obtain ⟨z2,g2⟩:=nown j _ g2;rw [AT (fun w=>z1 w.symm)] at g3
         rw [AT (fun w=>z2 w.symm)] at g4
         exact e1.apart i j a xs ys hij g1 g2 g3 g4
       . exact mixed i j xs ys hi (by omega) g1 g2 g3 g4
     . by_cases hj:j<n
       . exact mixed j i ys xs hj (by omega) g2 g1 g4 g3
       . rw [A6 (by omega),l1] at g1 g2
         rw [A6 (by omega),l2] at g3 g4
         exact eb.apart _ _ a xs ys (by omega) g1 g2 g3 g4
   . cases o1 with
     | rt r ρ' =>
      cases ho
      exact fun v σ' H2 J2 a b c=>d v σ' H2 J2 a ⟨by rw [hlen];exact sW b.r.1⟩ c
     | nx _=>cases ho
     | bk _=>cases ho
     | ct _=>cases ho
 . cases ho
variable {od:OD}
theorem rY{ix:List (Option Nat)}(hx:(ix.filterMap id).Nodup:=by decide)(hn:(ix.all fun o=>match o with | some j=>decide (j<od.n) | none=>true)=true:=by rfl):∀(HB:Hp) (σ:L2.St) (ρ:En) (H0 H:Hp),(FR K od).r HB H0 H σ ρ->(PR K).r (fun _=>none) H0 H (F3 ix σ) (CP ix ρ):=fun HB σ ρ H0 H e=>by
 obtain ⟨h1,p,vals,hpp,h2,h3,h4⟩:=e;have e:=ER.sub hx h4
 have:F3 ix (σ++vals)=F3 ix σ:=by
  unfold F3;refine List.map_congr_left fun o ho=> ?_
  cases o with
  | none=>rfl
  | some j=>
   have:=FH.mp hn _ ho;have hj:j<od.n:=by simpa using this
   show ((σ++vals)[j]?).join=_;rw [A9 (by omega)]
 rw [this] at e
 exact e
def Q8(ix:List (Option Nat))(n:Nat)(ρ:En):En:=CP ix ρ++ρ.drop n
theorem A41 {ix : List (Option Nat)} {s' n' : Nat} (hs : ix[s']? = some (some od.s) := by rfl) (hl : ix.length = n' := by rfl) (hx : (ix.filterMap id).Nodup := by decide) (hn : (ix.all fun o => match o with | some j => decide (j < od.n) | none => true) = true := by rfl) :
 ∀(HB:Hp) (σ:L2.St) (ρ:En) (H0 H:Hp),(FR K od).r HB H0 H σ ρ->(FR K ⟨od.C,od.names,s',n',od.p⟩).r (fun _=>none) H0 H (F3 ix σ) (Q8 ix od.n ρ):=fun HB σ ρ H0 H e=>by
 obtain ⟨h1,p,vals,hpp,h2,h3,h4⟩:=e
 have hlt:∀(i j:Nat),ix[i]? = some (some j)->j<od.n:=fun i j h=>by
  have:=FH.mp hn _ (B2 h);simpa using this
 have ls:(F3 ix σ).length=n':=by unfold F3;rw [List.length_map,hl]
 have le:(CP ix ρ).length=n':=by unfold CP;rw [List.length_map,hl]
 have lρ:ρ.length=od.n+vals.length:=by rw [<-h4.len,AO,h1]
 have fi:∀(j:Nat),(ρ.drop od.n)[j]? = ρ[od.n+j]? :=fun j=>GJ;have si:∀(j:Nat),(σ++vals)[od.n+j]? = vals[j]? :=fun j=>by rw [<-h1,A6 (CZ _ _),CQ]
 have sg:∀(i j:Nat),ix[i]? = some (some j)->(F3 ix σ)[i]? = some ((σ++vals)[j]?).join:=fun i j h=>by rw [JI h,A9 (by rw [h1];exact hlt i j h)]
 refine ⟨ls,p,vals,hpp,?_,⟨rfl,h3.h0p,h3.len,h3.ins⟩,?_,fun i r hi=> ?_,fun i k a xs ys hij g1 g2 g3 g4=> ?_⟩
 . show (F3 ix σ)[s']? = _;rw [JI hs,h2];rfl
 . unfold Q8;rw [List.length_append,List.length_append,ls,le,List.length_drop,lρ];omega
 . unfold Q8 at hi
   by_cases hin:i<n'
   . rw [A9 (by omega)] at hi ⊢
     obtain ⟨j,k1,k2⟩:=GB hi;obtain ⟨v,k3,k4⟩:=h4.get j r k2;refine ⟨v,by rw [sg i j k1,k3];rfl,k4.base fun _ _ h=>by cases h⟩
   . rw [A6 (by omega),le,fi] at hi
     rw [A6 (by omega),ls];obtain ⟨v,k3,k4⟩:=h4.get _ r hi;rw [si] at k3
     exact ⟨v,k3,k4.base fun _ _ h=>by cases h⟩
 . unfold Q8 at g1 g2
   have mixed:∀(i k:Nat) xs ys,i<n'->n'<=k->(CP ix ρ++ρ.drop od.n)[i]? = some (some (.own xs))->(CP ix ρ++ρ.drop od.n)[k]? = some (some (.own ys))->(F3 ix σ++vals)[i]? = some (some (.ref a))->(F3 ix σ++vals)[k]? ≠ some (some (.ref a)):=by
    intro i k xs ys hi hk g1 g2 g3 g4;rw [A9 (by omega)] at g1 g3
    rw [A6 (by omega),le,fi] at g2
    rw [A6 (by omega),ls] at g4
    obtain ⟨j,k1,k2⟩:=GB g1;rw [sg i j k1] at g3
    exact h4.apart j (od.n+(k - n')) a xs ys (by have:=hlt i j k1;omega) k2 g2 (join_some (B6 g3)) (by rw [si];exact g4)
   by_cases hi:i<n'
   . by_cases hk:k<n'
     . rw [A9 (by omega)] at g1 g2 g3 g4
       obtain ⟨j,k1,k2⟩:=GB g1;obtain ⟨l,k3,k4⟩:=GB g2;rw [sg i j k1] at g3
       rw [sg k l k3] at g4
       exact h4.apart j l a xs ys (by rintro rfl;exact hij (WL hx k1 k3)) k2 k4 (join_some (B6 g3)) (join_some (B6 g4))
     . exact mixed i k xs ys hi (by omega) g1 g2 g3 g4
   . by_cases hk:k<n'
     . exact mixed k i ys xs hk (by omega) g2 g1 g4 g3
     . rw [A6 (by omega),le,fi] at g1 g2
       rw [A6 (by omega),ls] at g3 g4
       exact h4.apart _ _ a xs ys (by omega) g1 g2 (by rw [si];exact g3) (by rw [si];exact g4)
end
section
structure Klass (K:PySem.W.Frag) (C:Addr) (names:List Str):Prop where
 cl:Cls K C
 no:∀f ∈ names,NoAttr K C f
structure MDef (P:Program) (w:World) (K:PySem.W.Frag) (mg:Str->Option Value) (base:Heap) (k:Nat) (C:Addr) (m:Str) (ps:List Str) (sp:Sp):Prop where
 ex:∃f fd,FnOk P w K mg base CX0 k f fd ps sp/\Meth K C m f/\Binds K fd ps []
structure KDef (P:Program) (w:World) (K:PySem.W.Frag) (mg:Str->Option Value) (base:Heap) (k:Nat) (C:Addr) (x:Str) (ps:List Str) (sp:Sp):Prop where
 ex:∃f fd,FnOk P w K mg base CX0 k f fd ps sp/\Mk K C f/\mg x=some (.ref C)/\Binds K fd ps []
variable {X:Cx} {od:OD} {e a:Expr} {es:List Expr} {pos p apos cpos:Pos} {x f m:Str} {fe fa:En->Option Sl} {fs:En->Option (List PyData)} {R:Rl} [RelOk X.K R] {C:Addr} {names:List Str}
theorem L8 (j : Nat) (k : Klass X.K od.C od.names) (hN : X.N[od.s]? = some x := by rfl) (hv : Vis X.env.scope x := by first | exact E5 rfl | exact CL (E5 rfl) | exact CL (CL rfl)) (hj : od.names[j]? = some f := by rfl) (hd : (x == ("__debug__" : Str)) = false := by decide) (hcd : (x == ("__classdict__" : Str)) = false := by decide)
 (hb:attributeBase (.Name x p) f X.env (eval (.Name x p) X.env)=eval (.Name x p) X.env:=by rfl):DP X (FR X.K od) (.Attribute (.Name x p) f pos) (mPk (od.n+j)) :=
 ⟨_,TK (GV hN hv hd hcd) hb,A25 k.cl (k.no f (B2 hj)) hj⟩
theorem b9 (j : Nat) (k : Klass X.K od.C od.names) (hN : X.N[od.s]? = some x := by rfl) (hv : Vis X.env.scope x := by first | exact E5 rfl | exact CL (E5 rfl) | exact CL (CL rfl)) (hj : od.names[j]? = some f := by rfl) (hd : (x == ("__debug__" : Str)) = false := by decide) (hcd : (x == ("__classdict__" : Str)) = false := by decide)
 (hb:attributeBase (.Name x p) f X.env (eval (.Name x p) X.env)=eval (.Name x p) X.env:=by rfl):DE X (FR X.K od) (.Attribute (.Name x p) f pos) (mVar (od.n+j)) :=
 ⟨_,TK (GV hN hv hd hcd) hb,yK k.cl (k.no f (B2 hj)) hj⟩
theorem TB (j : Nat) {pos' : Pos} (k : Klass X.K od.C od.names) (h : DE X (FR X.K od) e fe) (hN : X.N[od.s]? = some x := by rfl) (hv : Vis X.env.scope x := by first | exact E5 rfl | exact CL (E5 rfl) | exact CL (CL rfl)) (hj : od.names[j]? = some f := by rfl) (hd : (x == ("__debug__" : Str)) = false := by decide) (hcd : (x == ("__classdict__" : Str)) = false := by decide)
 (hs:swapsWith e (some (.Attribute (.Name x p) f pos')) pos.line X.env=pure false:=by rfl) (hnd:od.names.Nodup:=by exact AE rfl) (hlt:od.names.length<1000:=by exact AE rfl):DS X (FR X.K od) (.Assign [.Attribute (.Name x p) f pos'] e pos) (mAsg (od.n+j) fe):=by
 obtain ⟨t,h1,h2⟩:=h;exact ⟨_,zC (GV hN hv hd hcd) h1 hs,wU k.cl (k.no f (B2 hj)) hj hnd hlt h2⟩
theorem tX (j : Nat) {p3 : Pos} (k : Klass X.K od.C od.names) (h : DE X (FR X.K od) e fe) (hN : X.N[od.s]? = some x := by rfl) (hv : Vis X.env.scope x := by first | exact E5 rfl | exact CL (E5 rfl) | exact CL (CL rfl)) (hj : od.names[j]? = some f := by rfl) (hd : (x == ("__debug__" : Str)) = false := by decide) (hcd : (x == ("__classdict__" : Str)) = false := by decide)
 (hb:attributeBase (.Name x p) f X.env (eval (.Name x p) X.env)=eval (.Name x p) X.env:=by rfl)
 (hst:starEach [e] X.env=(false,eval e X.env)::starEach [] X.env:=by rfl) (hbase:attributeBase (.Attribute (.Name x p) f p3) "append" X.env (eval (.Attribute (.Name x p) f p3) X.env)=eval (.Attribute (.Name x p) f p3) X.env:=by rfl)
 (hfew:((backTo cpos (starEach [e] X.env)).all (fun x=> !x.1) && (backToKw cpos (keywordEach [] X.env)).all (fun x=>x.1.isSome) && decide ([e].length+([]:List Keyword).length+(if ([]:List Keyword).isEmpty then 0 else 1)<30))=true:=by rfl)
 (hline:(apos.endLine==cpos.line)=true:=by rfl) (hplain:(backTo cpos (starEach [] X.env)).any (·.1)=false:=by rfl)
 (hs:swapsWith (.Call (.Attribute (.Attribute (.Name x p) f p3) "append" apos) [e] [] cpos) none pos.line X.env=pure false:=by rfl):DS X (FR X.K od) (.Expr (.Call (.Attribute (.Attribute (.Name x p) f p3) "append" apos) [e] [] cpos) pos) (mApp (od.n+j) fe):=by
 obtain ⟨t,h1,h2⟩:=h;exact ⟨_,QX (mS OE KF pR V5 (TK (GV hN hv hd hcd) hb) (K3 h1 NW hst) hbase hfew hline hst hplain) hs,pU k.cl (k.no f (B2 hj)) hj h2⟩
theorem bT (j : Nat) {p3 ps : Pos} (k : Klass X.K od.C od.names) (h : DE X (FR X.K od) e fe) (hi : DP X (FR X.K od) a fa) (hN : X.N[od.s]? = some x := by rfl) (hv : Vis X.env.scope x := by first | exact E5 rfl | exact CL (E5 rfl) | exact CL (CL rfl)) (hj : od.names[j]? = some f := by rfl) (hd : (x == ("__debug__" : Str)) = false := by decide) (hcd : (x == ("__classdict__" : Str)) = false := by decide)
 (hb:attributeBase (.Name x p) f X.env (eval (.Name x p) X.env)=eval (.Name x p) X.env:=by rfl)
 (ha:∀v,assign (.Subscript (.Attribute (.Name x p) f p3) a ps) X.env v=(do
  let ov <-holding [v] (eval (.Attribute (.Name x p) f p3) X.env)
  let iv <-holding [v,ov] (eval a X.env)
  standAt ps
  holding [v,ov,iv] (setItem ov iv v)
  release [v,ov,iv] []):=by intro _;rfl)
 (hs:swapsWithSole [.Subscript (.Attribute (.Name x p) f p3) a ps] e pos.line X.env=pure false:=by rfl) (hw:swappedStores [.Subscript (.Attribute (.Name x p) f p3) a ps] e X.env=pure none:=by rfl) (h1:(assignEach [.Subscript (.Attribute (.Name x p) f p3) a ps] X.env).map (·.2) = [assign (.Subscript (.Attribute (.Name x p) f p3) a ps) X.env]:=by rfl) :
 DS X (FR X.K od) (.Assign [.Subscript (.Attribute (.Name x p) f p3) a ps] e pos) (mSet (od.n+j) fa fe):=by
 obtain ⟨t,a1,a2⟩:=h;obtain ⟨u,b1,b2⟩:=hi;exact ⟨_,bK a1 (jL (TK (GV hN hv hd hcd) hb) b1 XR ha) hs hw h1,uB k.cl (k.no f (B2 hj)) hj a2 b2⟩
variable {ps:List Str} {kk jj:Nat} {F:En->List PyData->Option (En×PyData)}
theorem Y7 {pl : Sem Bool} (M : MDef X.prog X.w X.K X.mg X.base jj od.C m ps (spM X.K od.C od.names F)) (k : Klass X.K od.C od.names) (hr : Room kk X.A) (h : DA X (FR X.K od) (e :: es) fs) (hjj : jj <= kk := by decide) (hm : m ∉ od.names := by exact AE rfl) (hND : iO F := by exact XA) (hN : X.N[od.s]? = some x := by rfl) (hv : Vis X.env.scope x := by first | exact E5 rfl | exact CL (E5 rfl) | exact CL (CL rfl)) (hd : (x == ("__debug__" : Str)) = false := by decide) (hcd : (x == ("__classdict__" : Str)) = false := by decide)
 (hst:starEach (e::es) X.env=(false,eval e X.env)::starEach es X.env:=by rfl) (hpl:(backTo cpos (starEach es X.env)).any (·.1)=false:=by rfl)
 (ht:eval (.Call (.Attribute (.Name x p) m apos) (e::es) [] cpos) X.env=(do
  let ov <-eval (.Name x p) X.env
  standAt apos.atName
  let (f,first) <-holding [ov] (getMethod ov m pl)
  callWith cpos f first (backTo cpos (starEach (e::es) X.env)) (backToKw cpos (keywordEach [] X.env))):=by rfl)
 (hs:swapsWith (.Call (.Attribute (.Name x p) m apos) (e::es) [] cpos) none pos.line X.env=pure false:=by rfl):DS X (FR X.K od) (.Expr (.Call (.Attribute (.Name x p) m apos) (e::es) [] cpos) pos) (K5 od.n F fs fun ρ _=>some (.nx ρ)):=by
 obtain ⟨t,h1,h2⟩:=h;obtain ⟨f,fd,F1,M1,b1⟩:=M.ex;exact ⟨_,QX (VS (pl:=pl) (GV hN hv hd hcd) k.cl M1 F1 (hr.mono hjj) b1 .nil Z7 h1 hst hpl ht) hs,nB hm hND h2⟩
theorem nR (i : Nat) {pl : Sem Bool} {y : Str} {pos' : Pos} (M : MDef X.prog X.w X.K X.mg X.base jj od.C m ps (spM X.K od.C od.names F)) (k : Klass X.K od.C od.names) (hr : Room kk X.A) (h : DA X (FR X.K od) (e :: es) fs) (hnd : X.N.Nodup) (hjj : jj <= kk := by decide) (hm : m ∉ od.names := by exact AE rfl) (hND : iO F := by exact XA) (hN : X.N[od.s]? = some x := by rfl) (hv : Vis X.env.scope x := by first | exact E5 rfl | exact CL (E5 rfl) | exact CL (CL rfl)) (hd : (x == ("__debug__" : Str)) = false := by decide) (hcd : (x == ("__classdict__" : Str)) = false := by decide)
 (hst:starEach (e::es) X.env=(false,eval e X.env)::starEach es X.env:=by rfl) (hpl:(backTo cpos (starEach es X.env)).any (·.1)=false:=by rfl)
 (ht:eval (.Call (.Attribute (.Name x p) m apos) (e::es) [] cpos) X.env=(do
  let ov <-eval (.Name x p) X.env
  standAt apos.atName
  let (f,first) <-holding [ov] (getMethod ov m pl)
  callWith cpos f first (backTo cpos (starEach (e::es) X.env)) (backToKw cpos (keywordEach [] X.env))):=by rfl)
 (hi:X.N[i]? = some y:=by rfl) (hx:Loc X.env.scope y:=by first | exact E5 rfl | exact CL rfl) (hs:swapsWith (.Call (.Attribute (.Name x p) m apos) (e::es) [] cpos) (some (.Name y pos')) pos.line X.env=pure false:=by rfl) (hf:X.fn y=true\/X.env.scope.names.lookup y=some .local:=by first | exact .inl rfl | exact .inr rfl)
 (hsl:(FR X.K od).slot i:=by exact ⟨AE rfl,AE rfl⟩):DS X (FR X.K od) (.Assign [.Name y pos'] (.Call (.Attribute (.Name x p) m apos) (e::es) [] cpos) pos) (K5 od.n F fs fun ρ d=>some (.nx (ρ.set i (some (.val d))))):=by
 obtain ⟨t,h1,h2⟩:=h;obtain ⟨f,fd,F1,M1,b1⟩:=M.ex;exact ⟨_,b7 hnd hi hx (VS (pl:=pl) (GV hN hv hd hcd) k.cl M1 F1 (hr.mono hjj) b1 .nil Z7 h1 hst hpl ht) hs hf,mJ hsl hm hND h2⟩
theorem rL {l : Nat} (M : KDef X.prog X.w X.K X.mg X.base jj C x ps (spM X.K C names F)) (hr : Room kk X.A) (h : DA X R (e :: es) fs) (hl : l = names.length := by rfl) (hjj : jj + 1 <= kk := by decide) (hg : Gl X x := by rfl) (hdb : (x == ("__debug__" : Str)) = false := by decide) (he : starEach (e :: es) X.env = (false, eval e X.env) :: starEach es X.env := by rfl) (hpl : (backTo pos (starEach es X.env)).any (·.1) = false := by rfl) :
 DB X R C names (.Call (.Name x p) (e::es) [] pos) (YK l F fs):=by
 obtain ⟨t,h1,h2⟩:=h;obtain ⟨f,fd,F1,M1,m1,b1⟩:=M.ex;exact ⟨_,tF M1 F1 (hr.mono hjj) hg m1 b1 .nil Z7 h1 hdb he hpl,pX hl h2⟩
theorem qH {G : List PyData -> Option En} (D : Tf.Def X.prog X.w X.K X.mg X.base jj x ps (spO X.K C names G)) (hr : Room kk X.A) (h : DA X R (e :: es) fs) (hj : jj <= kk := by decide) (hg : Gl X x := by rfl)
 (hdb:(x==("__debug__" : Str))=false:=by decide) (he:starEach (e::es) X.env=(false,eval e X.env)::starEach es X.env:=by rfl) (hpl:(backTo pos (starEach es X.env)).any (·.1)=false:=by rfl):DB X R C names (.Call (.Name x p) (e::es) [] pos) (S8 G fs):=by
 obtain ⟨t,h1,h2⟩:=h;exact ⟨_,YB D hr h1 hj hg hdb he hpl,sQ h2⟩
theorem sX (s n : Nat) {fo : En -> Option En} {g : En -> Option Out} {GX : List Stmt} {pos' : Pos} (h : DB X (PR X.K) C names e fo) (hr : ∀ p : Addr, DSs X (FR X.K ⟨C, names, s, n, p⟩) GX g) (hnd : X.N.Nodup) (hsn : s < n := by decide) (hi : X.N[s]? = some x := by rfl) (hx : Loc X.env.scope x := by first | exact E5 rfl | exact CL rfl)
 (hs:swapsWith e (some (.Name x pos')) pos.line X.env=pure false:=by rfl) (hf:X.fn x=true\/X.env.scope.names.lookup x=some .local:=by first | exact .inl rfl | exact .inr rfl):DSs X (PR X.K) (.Assign [.Name x pos'] e pos::GX) (bG n s fo g):=by
 obtain ⟨t,h1,h2⟩:=h;refine ⟨_,YT (b7 hnd hi hx h1 hs hf) (u:=fun D σ H=>∃p,(hr p).choose D σ H) (fun pins s σ H D I ⟨p,hp⟩=>(hr p).choose_spec.1 pins s σ H D I hp),A43 h2 (fun p=> ?_) hsn⟩;exact fun HB S0 σ ρ H0 H x e o ho D d=>⟨p,(hr p).choose_spec.2 HB S0 σ ρ H0 H x e o ho D d⟩
end
end Dm
namespace Dm
open PySem PySem.Spec PyProof.Rows L2 Tf
def UpK(K J:PySem.W.Frag):Prop:=∀a o,K.lookup a=some o->o≠PySem.W.tabObj #[]->J.lookup a=some o
theorem MS{K:PySem.W.Frag}{h:Heap}{ts:List Addr}(KX:K.In h)(hT:∀p ∈ ts,h.get? p=some (PySem.W.tabObj #[])):UpK K (KN K ts):=fun _ _ e hne=>IF (OX KX hT e hne) e
section
variable {K J:PySem.W.Frag}
theorem UpK.ns(u:UpK K J){n:Addr}{x:Str}{v:Option Value}(h:PySem.W.nsIn K n x=some v):PySem.W.nsIn J n x=some v:=by
 unfold PySem.W.nsIn at h ⊢
 split at h
 . rename_i oc od es ep sl e;rw [u _ _ e (fun z=>by cases z)];exact h
 . cases h
theorem UpK.own(u:UpK K J){x:Str}{c:Value}{v:Option Value}(h:PySem.W.ownIn K x c=some v):PySem.W.ownIn J x c=some v:=by
 unfold PySem.W.ownIn at h ⊢
 split at h
 . exact h
 . split at h
   . rename_i oc od cd sl e
     try dsimp only
     rw [u _ _ e (fun z=>by cases z)];exact u.ns h
   . cases h
 . exact h
theorem UpK.along(u:UpK K J){x:Str}{v:Option Value}:∀ {cs:List Value},PySem.W.alongIn K x cs=some v->PySem.W.alongIn J x cs=some v
 | [],h=>h
 | c::r,h=>by
  rw [PySem.W.alongIn] at h ⊢
  split at h
  . rename_i w e;rw [u.own e];exact h
  . rename_i e;rw [u.own e];exact u.along h
  . cases h
theorem UpK.find(u:UpK K J){t:Value}{x:Str}{v:Option Value}(h:PySem.W.findIn K t x=some v):PySem.W.findIn J t x=some v:=by
 unfold PySem.W.findIn at h ⊢
 split at h
 . exact h
 . split at h
   . rename_i oc od cd sl e
     try dsimp only
     rw [u _ _ e (fun z=>by cases z)];exact u.along h
   . cases h
 . cases h
theorem UpK.cls(u:UpK K J){C:Addr}{cd:ClassData}(h:PySem.W.clsIn K C=some cd):PySem.W.clsIn J C=some cd:=by
 unfold PySem.W.clsIn at h ⊢
 split at h
 . rename_i oc od c sl e;rw [u _ _ e (fun z=>by cases z)];exact h
 . cases h
theorem UpK.type(u:UpK K J){v t:Value}(h:PySem.W.typeIn K v=some t)(hne:t ≠ .none\/∀a,v ≠ .ref a):PySem.W.typeIn J v=some t:=by
 unfold PySem.W.typeIn at h ⊢
 split at h
 . rename_i a;obtain ⟨o,e,rfl⟩:=B0.mp h;rcases hne with hne | hne
   . try dsimp only
     rw [u _ _ e (fun z=>by rw [z] at hne;exact hne rfl)];rfl
   . exact absurd rfl (hne a)
 . exact h
 . exact h
 . exact h
theorem UpK.special(u:UpK K J){w:Value}{x:Str}{v:Option Value}(h:PySem.W.specialIn K w x=some v):PySem.W.specialIn J w x=some v:=by
 unfold PySem.W.specialIn at h ⊢
 obtain ⟨t,ht,h⟩:=A0.mp h;rw [u.type ht (.inl fun z=>by subst z;cases h)];exact u.find h
theorem UpK.mro(u:UpK K J){C:Addr}{b:Value}{r:Bool}(h:PySem.W.mroIn K C b=some r):PySem.W.mroIn J C b=some r:=by
 unfold PySem.W.mroIn at h ⊢
 obtain ⟨cd,e,h⟩:=A0.mp h;rw [u.cls e];exact h
theorem UpK.inst(u:UpK K J){v b:Value}{r:Bool}(h:PySem.W.instIn K v b=some r):PySem.W.instIn J v b=some r:=by
 unfold PySem.W.instIn at h ⊢
 obtain ⟨t,ht,h⟩:=Option.bind_eq_some_iff.mp h;rw [u.type ht (.inl fun z=>by subst z;cases h)];show PySem.W.subIn J t b=some r;unfold PySem.W.subIn at h ⊢
 split at h
 . exact h
 . exact u.mro h
 . cases h
theorem UpK.isFn(u:UpK K J){v:Value}(h:PySem.W.isFn K v=true):PySem.W.isFn J v=true:=by
 unfold PySem.W.isFn at h ⊢
 rw [u.type (DY.mp h) (.inl fun z=>by cases z)];rfl
theorem UpK.keep(u:UpK K J){v:Value}(h:PySem.W.keepIn K v=true):PySem.W.keepIn J v=true:=by
 unfold PySem.W.keepIn at h ⊢
 split at h
 . split at h
   . rename_i oc od f sl e
     try dsimp only
     rw [u _ _ e (fun z=>by cases z)]
   . rename_i oc od c sl e
     try dsimp only
     rw [u _ _ e (fun z=>by cases z)]
     try dsimp only
     rw [u.special (DY.mp h)];rfl
   . cases h
 . cases h
theorem UpK.clas(u:UpK K J){C:Addr}(c:Cls K C):Cls J C:=by
 obtain ⟨h1,h2,h3,h4⟩:=c;refine ⟨?_,?_,?_,u.find h4⟩
 . unfold PySem.W.plainGet at h1 ⊢
   obtain ⟨a,b⟩:=A58.mp h1;rw [u.find (DY.mp a),u.find (DY.mp b)];rfl
 . unfold PySem.W.hasDictIn at h2 ⊢
   cases e:PySem.W.clsIn K C with
   | none=>rw [e] at h2;cases h2
   | some cd=>rw [e] at h2;rw [u.cls e];exact h2
 . unfold PySem.W.plainOver at h3 ⊢
   cases e:PySem.W.clsIn K C with
   | none=>rw [e] at h3;cases h3
   | some cd=>rw [e] at h3;rw [u.cls e];exact h3
theorem UpK.klass(u:UpK K J){C:Addr}{names:List Str}(k:Klass K C names):Klass J C names:=⟨u.clas k.cl,fun f hf=>u.find (k.no f hf)⟩
theorem UpK.meth(u:UpK K J){C f:Addr}{m:Str}(k:Meth K C m f):Meth J C m f:=⟨u.find k.at_,u.isFn k.fn,u.keep k.kp⟩
theorem UpK.mk(u:UpK K J){C f:Addr}(k:Mk K C f):Mk J C f:=by
 refine ⟨?_,u.find k.init,u.isFn k.fn,u.keep k.kp⟩;have h:=k.makes;unfold PySem.W.makesIn at h ⊢
 split at h
 . rename_i oc od cd sl e;rw [u _ _ e (fun z=>by cases z)]
   try dsimp only
   simp only [FG] at h ⊢
   obtain ⟨⟨h1,h2⟩,h3⟩:=h;exact ⟨⟨h1,by rw [u.special (DY.mp h2)];rfl⟩,by rw [u.inst (DY.mp h3)];rfl⟩
 . cases h
end
end Dm
namespace Dm
open PySem PySem.Spec L2 Tf
def Wp(g:En->Option Out)(ρ:En)(Z:Out->Prop):Prop:=∃o,g ρ=some o/\Z o
def Nx(P:En->Prop):Out->Prop
 | .nx ρ=>P ρ
 | _=>False
def Rt(r:Sl):Out->Prop
 | .rt r' _=>r'=r
 | _=>False
def Lp(N:En->Prop)(Z:Out->Prop):Out->Prop
 | .nx ρ=>N ρ
 | .ct ρ=>N ρ
 | .bk ρ=>Z (.nx ρ)
 | .rt r ρ=>Z (.rt r ρ)
section
variable {f g:En->Option Out} {ρ:En} {Z:Out->Prop}
theorem QE{o:Out}(h:g ρ=some o)(z:Z o):Wp g ρ Z:=⟨o,h,z⟩
theorem Wp.imp{Y:Out->Prop}(h:Wp g ρ Y)(k:∀o,Y o->Z o):Wp g ρ Z:=by
 obtain ⟨o,h1,h2⟩:=h;exact ⟨o,h1,k o h2⟩
theorem JA(h:Wp f ρ (fun o=>match o with | .nx ρ'=>Wp g ρ' Z | o=>Z o)):Wp (mSeq f g) ρ Z:=by
 obtain ⟨o,h1,h2⟩:=h
 cases o with
 | nx ρ' =>
  obtain ⟨o2,h3,h4⟩:=h2
  exact ⟨o2,by unfold mSeq;rw [h1];exact h3,h4⟩
 | rt r ρ'=>exact ⟨_,by unfold mSeq;rw [h1];rfl,h2⟩
 | bk ρ'=>exact ⟨_,by unfold mSeq;rw [h1];rfl,h2⟩
 | ct ρ'=>exact ⟨_,by unfold mSeq;rw [h1];rfl,h2⟩
theorem GC{P:En->Prop}(h:Wp f ρ (Nx P))(k:∀ρ',P ρ'->Wp g ρ' Z):Wp (mSeq f g) ρ Z:=by
 refine JA (h.imp fun o ho=> ?_)
 cases o with
 | nx ρ'=>exact k ρ' ho
 | _=>exact ho.elim
theorem GS{ρ':En}(h:f ρ=some (.nx ρ'))(k:Wp g ρ' Z):Wp (mSeq f g) ρ Z:=by
 obtain ⟨o,h1,h2⟩:=k;exact ⟨o,FM h h1,h2⟩
variable {i:Nat} {fe:En->Option Sl} {r:Sl} {c:En->Option Bool} {b:Bool}
theorem K9(h:fe ρ=some r)(k:Z (.nx (ρ.set i (some r)))):Wp (mAsg i fe) ρ Z:=⟨_,EL h,k⟩
theorem C5(h:fe ρ=some r)(k:Wp g (ρ.set i (some r)) Z):Wp (mSeq (mAsg i fe) g) ρ Z:=GS (EL h) k
theorem FW(h:Wp g (frz1 i ρ) Z):Wp (mFrz i g) ρ Z:=h
theorem CW(h:fe ρ=some r)(k:Z (.rt r ρ)):Wp (mRet fe) ρ Z:=⟨_,mP h,k⟩
theorem UJ(h:c ρ=some b)(k:Wp (if b then f else g) ρ Z):Wp (mIf c f g) ρ Z:=by
 obtain ⟨o,h1,h2⟩:=k;refine ⟨o,P9 h ?_,h2⟩
 cases b <;> exact h1
theorem L5(h:c ρ=some true)(k:Wp f ρ Z):Wp (mIf c f g) ρ Z:=UJ (b:=true) h k
theorem lU(h:c ρ=some false)(k:Wp g ρ Z):Wp (mIf c f g) ρ Z:=UJ (b:=false) h k
theorem MR(k:Z (.nx ρ)):Wp mNext ρ Z:=⟨_,rfl,k⟩
theorem JY{h:En->Option Out}(hc:c ρ=some false)(k:Wp h ρ Z):Wp (mSeq (mIf c f mNext) h) ρ Z:=GS (P9 hc rfl) k
variable {fi:En->Option (List PyData)} {fg:PyData->En->Option En} {ds:List PyData}
theorem aR(P:Nat->En->Prop)(hi:fi ρ=some ds)(h0:P 0 ρ)(hs:∀(j:Nat) d ρ,ds[j]? = some d->P j ρ->∃ρ1,fg d ρ=some ρ1/\Wp g ρ1 (Lp (P (j+1)) Z))(k:∀ρ',P ds.length ρ'->Z (.nx ρ')):Wp (IB fi fg g) ρ Z:=by
 have gen:∀(n j:Nat) ρ,j+n=ds.length->P j ρ->∃o,LX fg g (ds.drop j) ρ=some o/\Z o:=by
  intro n
  induction n with
  | zero=>
   intro j ρ hj hp;have:j=ds.length:=by omega
   subst this;rw [F7 (A8 _)]
   exact ⟨_,rfl,k ρ hp⟩
  | succ n ih=>
   intro j ρ hj hp;have hd:ds[j]? = some ds[j]:=AD (by omega);obtain ⟨ρ1,h1,o,h2,h3⟩:=hs j ds[j] ρ hd hp;rw [QA hd,h1];simp only [BV,h2]
   cases o with
   | nx ρ2=>exact ih (j+1) ρ2 (by omega) h3
   | ct ρ2=>exact ih (j+1) ρ2 (by omega) h3
   | bk ρ2=>exact ⟨_,rfl,h3⟩
   | rt r ρ2=>exact ⟨_,rfl,h3⟩
 obtain ⟨o,h1,h2⟩:=gen ds.length 0 ρ (by omega) h0;refine ⟨o,Q4 hi ?_,h2⟩;simpa using h1
theorem cK(P:Nat->En->Prop){lo:Int}{n:Nat}(hi:fi ρ=some (G5 lo n))(h0:P 0 ρ)(hs:∀(j:Nat) ρ,j<n->P j ρ->∃ρ1,fg (.int (lo+(j:Nat))) ρ=some ρ1/\Wp g ρ1 (Lp (P (j+1)) Z))(k:∀ρ',P n ρ'->Z (.nx ρ')):Wp (IB fi fg g) ρ Z:=by
 refine aR P hi h0 (fun j d ρ hd hp=> ?_) (by simpa [G5] using k);rw [OV] at hd
 split at hd
 . rename_i hlt
   cases hd
   exact hs j ρ hlt hp
 . cases hd
theorem OF(P:Nat->En->Prop){n:Nat}(hi:fi ρ=some (G5 0 n))(h0:P 0 ρ)(hs:∀(j:Nat) ρ,j<n->P j ρ->∃ρ1,fg (.int (j:Nat)) ρ=some ρ1/\Wp g ρ1 (Lp (P (j+1)) Z))(k:∀ρ',P n ρ'->Z (.nx ρ')):Wp (IB fi fg g) ρ Z:=
 cK P hi h0 (fun j ρ hj hp=>by rw [LM];exact hs j ρ hj hp) k
theorem JB{α:Type}{en:α->PyData}{xs:List α}(P:Nat->En->Prop)(hi:fi ρ=some (xs.map en))(h0:P 0 ρ)(hs:∀(j:Nat) x ρ,xs[j]? = some x->P j ρ->∃ρ1,fg (en x) ρ=some ρ1/\Wp g ρ1 (Lp (P (j+1)) Z))(k:∀ρ',P xs.length ρ'->Z (.nx ρ')):Wp (IB fi fg g) ρ Z:=by
 refine aR P hi h0 (fun j d ρ hd hp=> ?_) (by simpa using k);rw [B3] at hd
 obtain ⟨x,hx,rfl⟩:=B0.mp hd;exact hs j x ρ hx hp
theorem oR(P:En->Prop)(μ:En->Nat)(h0:P ρ)(hs:∀ρ,P ρ->(c ρ=some false/\Z (.nx ρ))\/(c ρ=some true/\Wp g ρ (Lp (fun ρ'=>P ρ'/\μ ρ'<μ ρ) Z))):Wp (K8 c g) ρ Z:=by
 have gen:∀(n:Nat) ρ,μ ρ<n->P ρ->∃o,FC c g n ρ=some o/\Z o:=by
  intro n
  induction n with
  | zero=>intro ρ h;omega
  | succ n ih=>
   intro ρ hm hp;rcases hs ρ hp with ⟨h,z⟩ | ⟨h,o,h1,h2⟩
   . exact ⟨.nx ρ,by simp [FC,h],z⟩
   . cases o with
     | nx ρ2=>
      obtain ⟨o,h4,h5⟩:=ih ρ2 (by have:=h2.2;omega) h2.1
      exact ⟨o,by simp [FC,h,h1,h4],h5⟩
     | ct ρ2=>
      obtain ⟨o,h4,h5⟩:=ih ρ2 (by have:=h2.2;omega) h2.1
      exact ⟨o,by simp [FC,h,h1,h4],h5⟩
     | bk ρ2=>exact ⟨_,by simp [FC,h,h1],h2⟩
     | rt r ρ2=>exact ⟨_,by simp [FC,h,h1],h2⟩
 obtain ⟨o,h1,h2⟩:=gen (μ ρ+1) ρ (by omega) h0;exact ⟨o,V1 h1,h2⟩
theorem DV{n k:Nat}{ds:List PyData}(hl:ds.length=k)(e:ds.map (fun d=>some (Sl.val d))++List.replicate (n - ds.length) none=ρ)(h:Wp g ρ (Rt r)):EU n g k ds=some r:=by
 obtain ⟨o,h1,h2⟩:=h
 cases o with
 | rt r' ρ'=>cases h2;exact IL hl e ⟨ρ',h1⟩
 | _=>exact h2.elim
end
theorem jB{a b:En->Option Bool}{ρ:En}{k l:Bool}(h1:a ρ=some k)(h2:b ρ=some l):mAnd a b ρ=some (k && l):=by
 unfold mAnd;rw [h1]
 cases k
 . rfl
 . exact h2
theorem kE{a b:En->Option Bool}{ρ:En}{k l:Bool}(h1:a ρ=some k)(h2:b ρ=some l):mOr a b ρ=some (k || l):=by
 unfold mOr;rw [h1]
 cases k
 . exact h2
 . rfl
theorem A08{a:En->Option Bool}{ρ:En}{k:Bool}(h1:a ρ=some k):mNot a ρ=some (!k):=by
 unfold mNot;rw [h1];rfl
theorem NV{fa fb:En->Option Sl}{ρ:En}{i j:Int}(ha:fa ρ=some (.val (.int i)))(hb:fb ρ=some (.val (.int j))):mTest (mBin deq fa fb) ρ=some (decide (i=j)):=by
 unfold mTest mBin;rw [ha,Option.bind_some,hb,Option.bind_some];show Option.bind ((eqD (.int i) (.int j)).map _) _=_;rw [eqD_int];rfl
theorem W2{fa fb:En->Option Sl}{ρ:En}{a b:Sl}(ha:fa ρ=some a)(hb:fb ρ=some b)(h:a.dat=b.dat)(h1:b.dat.canLay0=true)(h2:b.dat.depth<=60):mBin deq fa fb ρ=some (.val (.bool true)):=by
 unfold mBin;rw [ha,Option.bind_some,hb,Option.bind_some];show (eqD a.dat b.dat).map _=_;rw [h,lA h1 h2];rfl
def il(l:List Int):List PyData:=l.map .int
def nl(l:List Nat):List PyData:=l.map fun n:Nat=>PyData.int (n:Int)
theorem oE(l:List Int):(il l).length=l.length:=A4 ..
theorem GZ(l:List Nat):(nl l).length=l.length:=A4 ..
theorem WE(a b:List Nat):nl (a++b)=nl a++nl b:=D0 ..
theorem yE(a b:List Int):il (a++b)=il a++il b:=D0 ..
theorem atI_nat{α:Type}{xs:List α}{j:Nat}{x:α}(h:xs[j]? = some x):atI xs (j:Int)=some x:=by
 obtain ⟨hj,e⟩:=List.getElem?_eq_some_iff.mp h;unfold atI ixN;rw [if_pos (by omega),if_pos (by omega)];simpa using h
theorem J9{s:Sl}{ds:List PyData}{j:Nat}{d:PyData}(hs:s.dat = .list ds\/s.dat = .tuple ds)(h:ds[j]? = some d):dix s (.val (.int (j:Int)))=some (.val d):=by
 unfold dix;rcases hs with hs | hs <;> simp only [hs,atI_nat h,Option.map_some]
theorem iA(l:List Int):HW (il l)=some l:=by
 induction l with
 | nil=>rfl
 | cons a l ih=>simp only [il,BN,HW] at ih ⊢;rw [ih];rfl
end Dm
namespace Tf
open PySem PySem.Spec PyProof.Rows L2
def Itv(K:PySem.W.Frag)(a:Addr)(n:Nat):It:=
 ⟨fun i H=>∃xs x,xs.length=n/\SqL K H a xs/\xs.reverse[i]? = some x,fun i H v H'=>H'=H/\∀xs,SqL K H a xs->xs.reverse[i]? = some v,fun i H=>n<=i⟩
theorem zO{α:Type}{xs:List α}{i:Nat}{x:α}(h:xs.reverse[i]? = some x):i<xs.length/\xs[xs.length - 1 - i]? = some x:=by
 have hi:i<xs.length:=by
  obtain ⟨q,_⟩:=AX.mp h;simpa using q
 rw [QM hi] at h
 exact ⟨hi,h⟩
theorem nJ{P:Program}{w:World}{K:PySem.W.Frag}{tg:Expr}(a it:Addr)(n:Nat):Turn P w K tg (Itv K a n) [it] it (fun i h=>i<=n/\h.IsRevIter it a ((n:Int) - 1 - (i:Nat))) where
 mem:=AJ.mpr rfl
 obj:=fun i h st b hb=>by
  cases AJ.mp hb
  obtain ⟨_,o,e,_,d⟩:=st;refine ⟨o,e,fun v z=> ?_⟩;rw [d] at z
  cases z
 keep:=fun i h h' st k=>⟨st.1,st.2.at fun o e=>k it (AJ.mpr rfl) o e⟩
 item:=by
  intro X hP hw hK hc i pins s σ H E I hf st hg;subst hP hw hK;obtain ⟨xs,x,hn,hq,hx⟩:=hg;obtain ⟨hi,hx'⟩:=zO hx;obtain ⟨its,rv,p,hz⟩:=I.list hq;obtain ⟨u,hu,ru⟩:=rv.get hx';obtain ⟨f0,f1,f2,f3,f4,f5⟩:=hf it (AJ.mpr rfl);have e1:((n:Int) - 1 - (i:Nat))=((xs.length - 1 - i:Nat):Int):=by omega
  have hit:=st.2;rw [e1] at hit
  refine wpAny_pyNext_rev_item hit p.isList (x:=u) (by simpa using hu) fun h' st' sb=> ?_;have I1:Inv X pins σ H {s with heap:=h' }:=I.turned (t':=s.toks) (fun b o hb e=>(sb.2 b hb).trans e) f0 f1 f3 f4 f5;have e2:((xs.length - 1 - i:Nat):Int) - 1=(n:Int) - 1 - ((i+1:Nat):Int):=by omega
  rw [e2] at st'
  obtain ⟨o,e,c,d⟩:=id st';refine ⟨u,rfl,XI (s:={s with heap:=h' }) e c d (by decide) ⟨x,H,I1,ru,⟨rfl,fun ys hy=> ?_⟩,⟨by omega,st'⟩,fun b hb=>(hf b hb).1⟩⟩;rw [I.list_inj hy hq];exact hx
 done:=by
  intro X hP hw hK hc i pins s σ H E I hf st hg;subst hP hw hK;obtain ⟨f0,f1,f2,f3,f4,f5⟩:=hf it (AJ.mpr rfl);have hn:n<=i:=hg;have e1:((n:Int) - 1 - (i:Nat)) = -1:=by have:=st.1;omega
  have hit:=st.2;rw [e1] at hit
  exact wpAny_pyNext_rev_end (I.ok.hd hc) hit fun h' eb=>⟨rfl,I.turned (t':=s.toks) (fun b o hb e=>eb b o hb e) f0 f1 f3 f4 f5⟩
 self:=fun _ _ _ _ _ st h=>AH6 st.2 h
section
variable {X:Cx}
def AB2(K:PySem.W.Frag)(ta:TA):TI:=fun σ H R=>ta σ H fun vs H1=>∃l xs,vs = [.ref l]/\SqL K H1 l xs/\R (Itv K l xs.length) H1
theorem Q2{h:Heap}{l:Addr}{i:Int}:(h.push (revObj l i)).IsRevIter h.objs.size l i:=⟨_,AW _ rfl,rfl,rfl⟩
theorem A23 {tg a:Expr} {ta:TA} {p pos:Pos} (hg:Gl X "reversed") (hm:X.mg "reversed" = none) (ha:PA X [a] ta) (hs:starEach [a] X.env = [(false,eval a X.env)]:=by rfl):PI X tg (.Call (.Name "reversed" p) [a] [] pos) (AB2 X.K ta):=by
 intro pins s σ H R I h;refine Call_ (HS I hg hm QI (BD (thn (ha pos pins s σ H _ I h) fun us s1 ⟨vs,H1,I1,r1,q1⟩ => ?_) hs rfl));obtain ⟨l,xs,e,hq,q⟩:=q1;subst e;obtain ⟨u,rfl,ru⟩:=LD r1
 cases (show u=Value.ref l from ru)
 obtain ⟨its,rv,p1,hz⟩:=I1.list hq;have hl:=rv.length;refine call_reversed_list p1.isList ?_;refine AH6 Q2 ?_;refine ⟨s1.heap.objs.size,[s1.heap.objs.size],_,_,H1,rfl,I1.kept (t':=s1.toks) fun b o e=>A3 _ e,nJ l _ xs.length,⟨DF _,?_⟩,fun b hb=> ?_,q⟩
 . have e:((its.toArray.size:Nat):Int) - 1=(xs.length:Int) - 1 - ((0:Nat):Int):=by simp;omega
   rw [<-e];exact Q2
 . cases AJ.mp hb
   exact I1.fpOk (A8 _) (I1.hok.fresh (A8 _))
end
theorem iE:typeLookup (.type "list_reverseiterator") "__len__" = pure none:=by rw [typeLookup_type,AH1];kernel_rfl
theorem mI:typeLookup (.type "list_reverseiterator") "__length_hint__" = pure (some (.builtin "list_reverseiterator.__length_hint__")):=by rw [typeLookup_type,AH1];kernel_rfl
section
variable {prog:Program} {w:World} {A:Around} {E:Value->Shared->Prop} {s:Shared} {it:Addr} {F W:List Addr} {G:Array GenState->Array GenState->Prop} {n:Nat} {P:Nat->Value->Prop} {St:Nat->Shared->Prop}
theorem uO {Q : List Value -> Shared -> Prop} (V : WalksS prog w A.in1 it F W G n P St) (ty : ∀ i s, St i s -> s.TypeIs (.ref it) "list_reverseiterator") (st : St 0 s) (lt : ∀ b ∈ F, b < s.heap.objs.size) (mem : it ∈ F)
 (q:∀s' acc,Moved W G s s'->ItemsOf P acc n->Q acc.toList s') (hn:n<=sizeLine):wpAny (model prog w) A (collect (.ref it)) Q E s:=by
 have out:s.heap.objs.size ∉ F:=fun z=>Nat.lt_irrefl _ (lt _ z);have ne:s.heap.objs.size≠it:=fun z=>out (z ▸ mem);unfold collect;refine wpAny_bind (wpAny_runValue (codeAny_builtin PySem.F.entry_proto_collect ?_));rw [Around.under_plainId PySem.F.plain_proto_collect _];show wpAny _ A.in1 (newList [] >>= fun z=>again (.builtin "list.__iadd__" ⟨[z, .ref it],[]⟩)) _ _ s;refine wpAny_bind (wpAny_newObj_type ?_);refine wpAny_pure ⟨plainId_quiet PySem.F.plain_list_iadd _,codeAny_builtin PySem.F.entry_list_iadd ?_⟩;rw [Around.under_plainId PySem.F.plain_list_iadd _];have st1:=V.frame 0 s (s.heap.push {cls:= .type "list",data:= .seq ([]:List Value).toArray}) s.toks st (Nat.le_refl _) fun b _ o z=>Heap.get?_push_of_some _ z;have new:(s.heap.push {cls:= .type "list",data:= .seq ([]:List Value).toArray}).get? s.heap.objs.size=some {cls:= .type "list",data:= .seq ([]:List Value).toArray}:=Heap.get?_push_size _ rfl;have un:Builtin.List.listSameRef (.ref s.heap.objs.size) (.ref it)=false:=by simp [Builtin.List.listSameRef,ne]
 show wpAny _ A.in1 (Builtin.List.listExtendWith (.ref s.heap.objs.size) (.ref it) (.ref s.heap.objs.size)) _ _ _;unfold Builtin.List.listExtendWith;refine wpAny_bind (wpAny_typeOf (ty 0 _ st1) ?_);rw [if_neg (by rw [un];decide)];refine wpAny_bind (V.self 0 _ _ _ st1 ?_);refine wpAny_bind (wpAny_holding ?_);unfold Builtin.List.listLengthHint;refine wpAny_bind (wpAny_specialOf (ty 0 _ st1) iE ?_);show wpAny _ A.in1 (specialOf (Value.ref it) (Str.ofString "__length_hint__") >>= _) _ _ _;refine wpAny_bind (wpAny_specialOf (ty 0 _ st1) mI ?_)
 (generalize hid:("list_reverseiterator.__length_hint__" : String)=id0;(fail_if_success (clear hid id0));wp_delta;rw [show splitId id0=some ("list_reverseiterator","__length_hint__") from by subst hid;decide +kernel];subst hid)
 refine A7 (wpAny_isInstance (b:=true) (ty 0 _ st1) (by rw [isSubtype_type];kernel_rfl) ?_);refine AS ?_;rw [AR (by decide)];refine AS ⟨plainId_quiet PySem.F.plain_extend_loop _,codeAny_extend_loopS V hn _ out _ n 0 _ _ _ rfl (DF _) st1 new (ItemsOf.nil P) fun s' acc' c' mv got all=> ?_⟩;show wpAny _ A (load s.heap.objs.size >>= _) _ _ s';refine A7 (wpAny_load got ?_);exact AS (q s' acc' (Moved.drop_new (o:={cls:= .type "list",data:= .seq ([]:List Value).toArray}) (tk:=s.toks) mv (A8 _)) all)
theorem U5 {Q₁ : Value -> Shared -> Prop} (V : WalksS prog w A.in1.in1 it F W G n P St) (ty : ∀ i s, St i s -> s.TypeIs (.ref it) "list_reverseiterator") (st : St 0 s) (lt : ∀ b ∈ F, b < s.heap.objs.size) (mem : it ∈ F)
 (q:∀s' acc,Moved W G s s'->ItemsOf P acc n->Q₁ (.ref s'.heap.objs.size) {s' with heap:=s'.heap.push {cls:= .type "tuple",data:= .seq acc} }) (hn:n<=sizeLine) :
 codeAny (model prog w) A (.call (.builtin "tuple.__new__") ⟨[.type "tuple", .ref it],[]⟩) (wants Q₁ E) s:=by
 refine codeAny_of_tree ?_;show wpAny _ A.in1 (do checkBuiltinCall "tuple.__new__" ⟨[.type "tuple", .ref it],[]⟩;again (.builtin "tuple.__new__" ⟨[.type "tuple", .ref it],[]⟩)) _ _ s;refine A7 (wpAny_of_eq (PySem.F.newCall_tuple_1 _) (AS ⟨plainId_quiet uQ _,codeAny_builtin PySem.F.entry_tuple_new ?_⟩));rw [Around.under_plainId uQ _];have hsub:=sub_tuple_self;have hinit:=init_tuple_lookup;have hmh:=madeHere_tuple;have ty0:=ty 0 s st
 wp_walk using wpAny_typeOf ty0,uO (hn:=hn) V ty st lt mem
 intro s' acc mv all;show wpAny _ _ (Builtin.Tuple.tupleExact acc.toList.toArray >>= fun z=>ret z) _ _ _;unfold Builtin.Tuple.tupleExact;refine wpAny_bind (wpAny_newObj_type ?_ (by show acc.toList.toArray.size<=sizeLine;simp only [Array.toArray_toList];rw [all.1];exact hn));refine wpAny_pure ?_;have e:acc.toList.toArray=acc:=by simp
 rw [e];exact q s' acc mv all
theorem TY {Q : Value -> Shared -> Prop} (V : WalksS prog w A.in1.in1.in1 it F W G n P St) (ty : ∀ i s, St i s -> s.TypeIs (.ref it) "list_reverseiterator") (st : St 0 s) (lt : ∀ b ∈ F, b < s.heap.objs.size) (mem : it ∈ F)
 (q:∀s' acc,Moved W G s s'->ItemsOf P acc n->Q (.ref s'.heap.objs.size) {s' with heap:=s'.heap.push {cls:= .type "tuple",data:= .seq acc} }) (hn:n<=sizeLine) :
 wpAny (model prog w) A (call (.type "tuple") [.ref it]) Q E s:=by
 refine callType_codes (Q₁:=fun obj t=>t.TypeIs obj "tuple" /\ Q obj t) RD (PySem.F.typeCall_tuple_1 _) PySem.F.entry_object_init
  (U5 (hn:=hn) V ty st lt mem fun s' acc mv all=>⟨⟨_,AW _ rfl,rfl⟩,q s' acc mv all⟩) fun obj t ht=> ?_
 exact ⟨ht.1,PySem.F.args_object_init_2 obj _,object_init_meets RD.init.lookup RD.made (by decide) prog w A.in1 _ t ⟨ht.1,rfl,ht.2⟩⟩
end
section
variable {X:Cx}
def dJ(K:PySem.W.Frag)(ta:TA):TE:=fun σ H Q=>ta σ H fun vs H1=>∃l xs,vs = [.ref l]/\SqL K H1 l xs/\∀p,H1 p=none->Q (.ref p) (upd H1 p (.tup xs.reverse))
theorem iX {a : Expr} {ta : TA} {p p2 pos pos2 : Pos} (hc : X.calm = true) (hg : Gl X "reversed") (hm : X.mg "reversed" = none) (hg2 : Gl X "tuple") (hm2 : X.mg "tuple" = none) (ha : PA X [a] ta) (hs : starEach [a] X.env = [(false, eval a X.env)] := by rfl)
 (hs2:starEach [.Call (.Name "reversed" p) [a] [] pos] X.env = [(false,eval (.Call (.Name "reversed" p) [a] [] pos) X.env)]:=by rfl):PE X (.Call (.Name "tuple" p2) [.Call (.Name "reversed" p) [a] [] pos] [] pos2) (dJ X.K ta):=by
 intro pins s σ H Q I h;refine HH (HS I hg2 hm2 IP ?_);refine BD ?_ hs2 rfl;rw [hs2];show wpAny _ _ (spliced ((false,eval (.Call (.Name "reversed" p) [a] [] pos) X.env) :: [])) _ _ s;refine O8 ?_;refine HH (HS I hg hm QI ?_);refine BD (thn (ha pos pins s σ H _ I h) fun us s1 ⟨vs,H1,I1,r1,q1⟩ => ?_) hs rfl;obtain ⟨l,xs,e,hq,q⟩:=q1;subst e;obtain ⟨u,rfl,ru⟩:=LD r1
 cases (show u=Value.ref l from ru)
 obtain ⟨its,rv,p1,hz⟩:=I1.list hq;have hl:=rv.length;refine call_reversed_list p1.isList ?_;refine QD ?_;have I2:Inv X pins σ H1 {s1 with heap:=s1.heap.push (revObj l ((its.toArray.size:Int) - 1))}:=I1.kept (t':=s1.toks) fun b o e=>A3 _ e;have lt1:l<s1.heap.objs.size:=by obtain ⟨o,n,e,_⟩:=p1;exact AV e
 have hd:X.A.handled=none:=I1.ok.hd hc;have V:=(Walks.listRev (prog:=X.prog) (w:=X.w) (A:=X.A.in1.in1.in1) hd s1.heap.objs.size l (D2 lt1) its.toArray).toS;obtain ⟨f0,f1,f2,f3,f4,f5⟩:=I1.fpOk (b:=s1.heap.objs.size) (A8 _) (I1.hok.fresh (A8 _));have hz':its.toArray.size<=sizeLine:=by simp only [AF];omega
 refine TY (s:={s1 with heap:=s1.heap.push (revObj l ((its.toArray.size:Int) - 1))}) V (fun i t st=>st.2.1.typeIs) ⟨DF _,?_,?_⟩ (fun b hb=> ?_) (B5 ..) (fun s' acc mv all=> ?_) hz'
 . have e:((its.toArray.size:Int) - 1 - ((0:Nat):Int))=(its.toArray.size:Int) - 1:=by omega
   rw [e];exact Q2
 . exact p1.isList.push _
 . show b<(s1.heap.push _).objs.size;rw [D4];simp only [B7,BO,FJ] at hb
   rcases hb with rfl | rfl
   . exact O6 _
   . exact WS lt1
 . obtain ⟨h',g',d',tk',os'⟩:=s';obtain ⟨mh,mg,md,mo,mt⟩:=mv;have e1:g'=s1.gens:=mg;have e2:d'=s1.drawn:=md;have e3:os'=s1.os:=mo;subst e1 e2 e3;have I3:Inv X pins σ H1 {s1 with heap:=h',toks:=tk' }:=I2.turned (fun b o hb e=>mh b o (by simpa using hb) e) f0 f1 f3 f4 f5
   have ra:∃ys:List Value,acc=ys.toArray/\ys=its.reverse:=by
    refine ⟨acc.toList,by simp,?_⟩;refine NA fun i=> ?_;have hsz:acc.size=its.length:=by simpa using all.1
    by_cases hi:i<its.length
    . have hlt:i<acc.size:=by omega
      have h1:=all.2 i acc[i] (by simp [hlt]);rw [QM hi];simp only [QN];rw [Array.getElem?_eq_getElem hlt, <-h1];simp
    . rw [BX (by simp;omega),BX (by simp;omega)]
   obtain ⟨ys,rfl,rfl⟩:=ra;have rr:Vals xs.reverse its.reverse:=rv.reverse
   have I4:Inv X pins σ (upd H1 h'.objs.size (.tup xs.reverse)) {s1 with heap:=h'.push {cls:= .type "tuple",data:= .seq its.reverse.toArray},toks:=tk' } :=
    I3.laid (t':=tk') (fun b o e=>A3 _ e) (A8 _) (show ObjOk X.prog X.w _ _ _ (.tup xs.reverse) from ⟨by rw [List.length_reverse];exact hz,its.reverse,rr,IsTup.new _ _⟩)
   exact ⟨.ref h'.objs.size,_,I4,rfl,q _ (I3.hok.fresh (A8 _))⟩
def AA1(K:PySem.W.Frag)(tl:TE):TI:=fun σ H R=>tl σ H fun x H1=>∃a,x = .ref a/\(((∃xs,SqL K H1 a xs)/\R (Itl K a) H1)\/((∃xs,SqT K H1 a xs)/\R (Itt K a) H1))
theorem A44{tg l:Expr}{tl:TE}(hl:PE X l tl):PI X tg l (AA1 X.K tl):=by
 intro pins s σ H R I h;refine thn (hl pins s σ H _ I h) fun v s1 ⟨x,H1,I1,r1,q1⟩ => ?_;obtain ⟨a,e,⟨⟨xs,hq⟩,q⟩ | ⟨⟨xs,hq⟩,q⟩⟩:=q1
 . subst e
   cases r1
   obtain ⟨its,rv,p,hz⟩:=I1.list hq;refine iZ p.isList ?_;refine ⟨s1.heap.objs.size,[s1.heap.objs.size],_,_,H1,rfl,I1.kept (t':=s1.toks) fun b o e=>A3 _ e,UV a _,⟨_,AW _ rfl,rfl,rfl⟩,fun b hb=> ?_,q⟩
   cases AJ.mp hb
   exact I1.fpOk (A8 _) (I1.hok.fresh (A8 _))
 . subst e
   cases r1
   obtain ⟨its,rv,p,hz⟩:=I1.tuple hq;refine fQ (show s1.heap.IsTuple a its.toArray from p) ?_;refine ⟨s1.heap.objs.size,[s1.heap.objs.size],_,_,H1,rfl,I1.kept (t':=s1.toks) fun b o e=>A3 _ e,bH a _,⟨_,AW _ rfl,rfl,rfl⟩,fun b hb=> ?_,q⟩
   cases AJ.mp hb
   exact I1.fpOk (A8 _) (I1.hok.fresh (A8 _))
end
end Tf
namespace Dm
open PySem PySem.Spec PyProof.Rows L2 Tf
section
variable {K:PySem.W.Frag} {R:Rl} [RelOk K R]
theorem Reps.rev{H:Hp}:∀ {vs:List V} {ds:List PyData},Reps K H vs ds->Reps K H vs.reverse ds.reverse
 | _,_, .nil=> .nil
 | _,_, .cons a t=>by
  rw [JF,JF];exact Reps.append (Reps.rev t) (.cons a .nil)
theorem yB{H0:Hp}{a:Addr}{vs:List V}{ds:List PyData}(h:SqL K H0 a vs)(r:Reps K H0 vs ds):ItR K H0 (Itv K a vs.length) ds.reverse:=fun H0' H' s s' i=>by
 have h':=s'.seq (s.seq h);refine ⟨fun d hd=> ?_,fun hi=>show vs.length<=i by rw [r.length];simpa using hi⟩;obtain ⟨v,e1,e2⟩:=Tf.Reps.get (Reps.rev r) hd;refine ⟨⟨vs,v,rfl,h',e1⟩,fun x H2 y=> ?_⟩;obtain ⟨rfl,y⟩:=y;have:=y vs h';rw [e1] at this
 cases this
 exact ⟨H0',Ext.refl s',Rep.same s e2⟩
def m3(f:En->Option (List PyData)):En->Option (List PyData):=fun ρ=>(f ρ).bind fun a=>match a with
 | [.list xs]=>some xs.reverse
 | _=>none
theorem zJ{ta:TA}{f:En->Option (List PyData)}(h:RA K R ta f):RI K R (AB2 K ta) (m3 f):=fun HB σ ρ H0 H s e ds hd R q=>by
 obtain ⟨a,ha,hd⟩:=A0.mp hd
 split at hd
 . cases hd
   refine h HB σ ρ H0 H s e _ ha _ fun vs H1 J1 x1 p1=> ?_
   cases p1 with | cons p1 t=>
    cases t
    cases p1 with | list a1 a2=>
     exact ⟨_,_,rfl,x1.s1.seq a1,q _ _ _ x1 (yB a1 a2)⟩
 . cases hd
def R6:List Sl->Option Sl
 | [a]=>match a.dat with
  | .list ds=>some (.val (.tuple ds.reverse))
  | _=>none
 | _=>none
theorem gG{ta:TA}{f:En->Option (List Sl)}(h:RQ K R ta f):RE K R (dJ K ta) (mCallP R6 f):=fun HB σ ρ H0 H s e z hz Q q=>by
 obtain ⟨ss,hd,hz⟩:=Option.bind_eq_some_iff.mp hz;refine h HB σ ρ H0 H s e ss hd _ fun vs H1 J1 x1 p1=> ?_;unfold R6 at hz
 split at hz
 . obtain ⟨v,rfl,pa⟩:=HY p1
   split at hz
   . rename_i ds hds
     cases hz
     obtain ⟨a,vs,rfl,h1,h2⟩:=pa.lst x1.s1 hds;exact ⟨a,vs,rfl,h1,fun p hp=>q _ _ _ (x1.trans (Ext.allocF x1.s1 hp _)) (.tuple (SqT.of C9) (Reps.same (Same.upd (x1.s1.free hp) _) (Reps.rev h2)))⟩
   . cases hz
 . cases hz
def EN(f:En->Option Sl):En->Option (List PyData):=fun ρ=>(f ρ).bind fun a=>match a.dat with
 | .list ds=>some ds
 | .tuple ds=>some ds
 | _=>none
theorem yW{te:TE}{f:En->Option Sl}(h:RE K R te f):RI K R (AA1 K te) (EN f):=fun HB σ ρ H0 H s e ds hd R q=>by
 obtain ⟨a,ha,hd⟩:=A0.mp hd
 split at hd
 . rename_i es he
   cases hd
   refine h.rv HB σ ρ H0 H s e a.dat (by unfold mDat;rw [ha];rfl) _ fun v H1 J1 x1 p1=> ?_;rw [he] at p1
   cases p1 with
   | list h1 h2=>exact ⟨_,rfl, .inl ⟨⟨_,x1.s1.seq h1⟩,q _ _ _ x1 (cU h1 h2)⟩⟩
 . rename_i es he
   cases hd
   refine h.rv HB σ ρ H0 H s e a.dat (by unfold mDat;rw [ha];rfl) _ fun v H1 J1 x1 p1=> ?_;rw [he] at p1
   cases p1 with
   | tuple h1 h2=>exact ⟨_,rfl, .inr ⟨⟨_,x1.s1.seqT h1⟩,q _ _ _ x1 (y7 h1 h2)⟩⟩
 . cases hd
def aA(i:Nat)(f:En->Option Sl):En->Option Out:=fun ρ=>match (ρ[i]?).join with
 | some (.own ds)=>(f ρ).bind fun r=>match r with
  | .own es=>if ds.length+es.length<=sizeLine then some (.nx (ρ.set i (some (.own (ds++es))))) else none
  | _=>none
 | _=>none
theorem A00{te:TE}{f:En->Option Sl}{i:Nat}(hsl:R.slot i)(h:RE K R te f):RS K R (ZK (tBM K "list" rExtend (MY i) (UB te tNil))) (aA i f):=fun HB S0 σ ρ H0 H x e o ho D d=>by
 unfold aA at ho
 split at ho
 . rename_i ds hj;obtain ⟨r,hr,ho⟩:=A0.mp ho
   split at ho
   . rename_i es
     split at ho
     . rename_i hl
       cases ho
       obtain ⟨a,vs,hi,hs,g1,g2,g3,g4⟩:=bE (K:=K) e hsl hj;refine ⟨.ref a,hs, .inl ⟨rfl,vs,SqL.of g3⟩,?_⟩;refine h HB σ ρ H0 H x.s1 e _ hr _ fun v H1 J1 x1 p1=> ?_;obtain ⟨a',vs',rfl,n1,n2,n3,n4⟩:=p1;have l0:=x1.own a _ g3 E4 g2;refine ⟨a,a',vs,vs',rfl,rfl,x1.s _ _ g3,n3,by rw [g4.length,n4.length];exact hl,?_⟩;exact d σ H1 _ ((x.chain x1).write g1 l0 _) ⟨RelOk.write (K:=K) (e.ext (K:=K) x1).r hsl hi hs g1 l0 (x1.s _ _ g3) (Reps.append (Reps.same x1.s0 g4) n4)⟩
     . cases ho
   . cases ho
 . cases ho
def AE8(K:PySem.W.Frag)(i:Nat)(a:Addr)(ds:List PyData):Rl:=⟨fun HB H0 H σ ρ=>ER K HB H0 H σ ρ/\σ[i]? = some (some (.ref a))/\ρ[i]? = some (some (.own ds)),fun k=>k≠i/\(0:Nat)=0⟩
instance relOk_Pin {i:Nat} {a:Addr} {ds:List PyData}:RelOk K (AE8 K i a ds) where
 ext:=fun x e=>⟨ER.ext x e.1,e.2⟩
 get:=fun e _ h=>ER.get e.1 _ _ h
 set:=fun {_ _ _ _ _ _ _ k _ _} e hs x s h=>⟨(relOk_PR (K:=K)).set e.1 trivial x s h,by rw [AT hs.1];exact e.2.1,by rw [AT hs.1];exact e.2.2⟩
 write:=fun e hs h1 h2 h3 h4 h5 h6=>⟨(relOk_PR (K:=K)).write e.1 trivial h1 h2 h3 h4 h5 h6,e.2.1,by rw [AT hs.1];exact e.2.2⟩
 frz:=fun e hs h x=>by
  obtain ⟨H0',h1,h2⟩:=(relOk_PR (K:=K)).frz e.1 trivial h x;exact ⟨H0',h1,h2,e.2.1,by rw [AT hs.1];exact e.2.2⟩
end
section
variable {X:Cx} {R R':Rl} [RelOk X.K R] [RelOk X.K R'] {a b c e:Expr} {pos p p2 pos2:Pos} {f g fa fb fc:En->Option Sl} {fs:En->Option (List PyData)} {fq:En->Option (List Sl)} {tg:Expr} {x:Str}
theorem yV (hm:X.mg "reversed" = none) (h:DA X R [a] fs) (hg:Gl X "reversed" :=by rfl) (hs:starEach [a] X.env = [(false,eval a X.env)]:=by rfl):DI X R tg (.Call (.Name "reversed" p) [a] [] pos) (m3 fs):=by
 obtain ⟨t,h1,h2⟩:=h;exact ⟨_,A23 hg hm h1 hs,zJ h2⟩
theorem GL(h:DE X R e f):DI X R tg e (EN f):=by
 obtain ⟨t,h1,h2⟩:=h;exact ⟨_,A44 h1,yW h2⟩
theorem gJ (hm : X.mg "reversed" = none) (hm2 : X.mg "tuple" = none) (h : DQ X R [a] fq) (hc : X.calm = true := by rfl) (hg : Gl X "reversed" := by rfl) (hg2 : Gl X "tuple" := by rfl) (hs : starEach [a] X.env = [(false, eval a X.env)] := by rfl)
 (hs2:starEach [.Call (.Name "reversed" p) [a] [] pos] X.env = [(false,eval (.Call (.Name "reversed" p) [a] [] pos) X.env)]:=by rfl):DE X R (.Call (.Name "tuple" p2) [.Call (.Name "reversed" p) [a] [] pos] [] pos2) (mCallP R6 fq):=by
 obtain ⟨t,h1,h2⟩:=h;exact ⟨_,iX hc hg hm hg2 hm2 h1 hs hs2,gG h2⟩
theorem mQ (i : Nat) {apos cpos : Pos} (h : DE X R e f) (hN : X.N[i]? = some x := by rfl) (hv : Vis X.env.scope x := by first | exact E5 rfl | exact CL (E5 rfl) | exact CL (CL rfl)) (hd : (x == ("__debug__" : Str)) = false := by decide) (hcd : (x == ("__classdict__" : Str)) = false := by decide)
 (hst:starEach [e] X.env=(false,eval e X.env)::starEach [] X.env:=by rfl) (hbase:attributeBase (.Name x p) "extend" X.env (eval (.Name x p) X.env)=eval (.Name x p) X.env:=by rfl)
 (hfew:((backTo cpos (starEach [e] X.env)).all (fun x=> !x.1) && (backToKw cpos (keywordEach [] X.env)).all (fun x=>x.1.isSome) && decide ([e].length+([]:List Keyword).length+(if ([]:List Keyword).isEmpty then 0 else 1)<30))=true:=by rfl)
 (hline:(apos.endLine==cpos.line)=true:=by rfl) (hplain:(backTo cpos (starEach [] X.env)).any (·.1)=false:=by rfl)
 (hs:swapsWith (.Call (.Attribute (.Name x p) "extend" apos) [e] [] cpos) none pos.line X.env=pure false:=by rfl) (hsl:R.slot i:=by first | exact E4 | exact ⟨AE rfl,AE rfl⟩):DS X R (.Expr (.Call (.Attribute (.Name x p) "extend" apos) [e] [] cpos) pos) (aA i f):=by
 obtain ⟨t,h1,h2⟩:=h;exact ⟨_,QX (mS OE PySem.F.slot_list_extend PySem.F.type_list_extend iP (GV hN hv hd hcd) (K3 h1 NW hst) hbase hfew hline hst hplain) hs,A00 hsl h2⟩
end
theorem nS{i:Nat}{f:En->Option Sl}{ρ:En}{ds es:List PyData}(h:f ρ=some (.own es))(ho:(ρ[i]?).join=some (.own ds))(hl:ds.length+es.length<=sizeLine):aA i f ρ=some (.nx (ρ.set i (some (.own (ds++es))))):=by
 unfold aA;rw [ho];show Option.bind (f ρ) _=_;rw [h];show (if ds.length+es.length<=sizeLine then _ else _)=_;rw [if_pos hl]
end Dm
namespace Tf
open PySem PySem.Spec PyProof.Rows L2
section
variable {prog:Program} {w:World} {A:Around} {E:Value->Shared->Prop} {s:Shared}
theorem WF {j t : Addr} {n : Nat} {us} {u : Value} {Q : Value -> Shared -> Prop} (st : s.heap.IsTupleIter j t n) (tu : s.heap.IsTuple t us) (hu : us[n]? = some u)
 (q:∀h',h'.IsTupleIter j t (n+1)->Heap.SameBut j s.heap h'->Q u {s with heap:=h' }):wpAny (model prog w) A (Builtin.SmallTypes.nextOf (.ref j)) Q E s:=by
 obtain ⟨o1,g1,c1,d1⟩:=id st;obtain ⟨o2,g2,_,n2,d2⟩:=tu;unfold Builtin.SmallTypes.nextOf
 refine A7 (GN (name:=Str.ofString "__next__") st.typeIs G2
  (IU G2 st.typeIs WN ?_ (V9 _)))
 show wpAny _ _ (field (.ref j) 0 >>= _) _ _ s;refine A7 (uR g1 d1 (x:= .ref t) rfl ?_);show wpAny _ _ (if (Value.ref t==Value.none)=true then _ else _) _ _ s;rw [AR (show ¬((Value.ref t==Value.none)=true) from EO)];show wpAny _ _ (field (.ref j) 1 >>= _) _ _ s;refine A7 (uR g1 d1 (x:= .int n 0) rfl ?_);show wpAny _ _ (seqItems? (.ref t) >>= _) _ _ s;refine A7 (KG g2 d2 ?_);simp only [FZ,hu];refine A7 (wpAny_setField g1 d1 (by simp) (AS ⟨u,rfl,AS (q _ ?_ (Heap.SameBut.update ..))⟩));exact ⟨_,AH0 _ g1 (Obj.isFreed_of_fields (Obj.data_mapFields d1 _)),(Obj.cls_mapFields ..).trans c1,by rw [Obj.data_mapFields d1];simp [rawInt]⟩
theorem SV {j t : Addr} {n : Nat} {us} {Q : Value -> Shared -> Prop} (hh : A.handled = none) (st : s.heap.IsTupleIter j t n) (tu : s.heap.IsTuple t us) (hu : us[n]? = none)
 (q:∀h' e,Heap.ExtBut j s.heap h'->(∃o,h'.get? e=some o/\o.cls = .type "StopIteration")->E (.ref e) {s with heap:=h' }):wpAny (model prog w) A (Builtin.SmallTypes.nextOf (.ref j)) Q E s:=by
 obtain ⟨o1,g1,c1,d1⟩:=id st;obtain ⟨o2,g2,_,n2,d2⟩:=tu;unfold Builtin.SmallTypes.nextOf
 refine A7 (GN (name:=Str.ofString "__next__") st.typeIs G2
  (IU G2 st.typeIs WN ?_ (V9 _)))
 show wpAny _ _ (field (.ref j) 0 >>= _) _ _ s;refine A7 (uR g1 d1 (x:= .ref t) rfl ?_);show wpAny _ _ (if (Value.ref t==Value.none)=true then _ else _) _ _ s;rw [AR (show ¬((Value.ref t==Value.none)=true) from EO)];show wpAny _ _ (field (.ref j) 1 >>= _) _ _ s;refine A7 (uR g1 d1 (x:= .int n 0) rfl ?_);show wpAny _ _ (seqItems? (.ref t) >>= _) _ _ s;refine A7 (KG g2 d2 ?_);simp only [FZ,hu];refine A7 (A59 (A7 (wpAny_setField g1 d1 (by simp) ?_)));show wpAny _ _ (newExc (.type "StopIteration") [] >>= _) _ _ _;refine A7 ?_;simp only [newExc,newTuple];refine A7 (FD ?_ (by size_fits));refine A7 (m:=firstArgMember _ _) (wpAny_of_eq (a:=Value.none) (by first | rfl | (simp only [firstArgMember];rfl)) ?_);refine FD ?_ (by size_fits);simp only [raiseNew];refine A7 (wpAny_handled ?_)
 first | rw [show A.in1.handled=none from hh] | rw [hh]
 refine A7 (AS (wpAny_throw ?_));exact q _ _ (((Heap.SameBut.update ..).extBut.push _).push _) ⟨_,AW _ rfl,rfl⟩
theorem E3{h h':Heap}{j t b:Addr}{n:Nat}(st:h.IsTupleIter j t n)(k:∀c o,c≠b->h.get? c=some o->h'.get? c=some o)(hb:j≠b):h'.IsTupleIter j t n:=st.at fun o e=>k j o hb e
theorem JC{h h':Heap}{t b:Addr}{us}(st:h.IsTuple t us)(k:∀c o,c≠b->h.get? c=some o->h'.get? c=some o)(hb:t≠b):h'.IsTuple t us:=by
 obtain ⟨o,e,r⟩:=st;exact ⟨o,k t o hb e,r⟩
theorem iV {z TI TO j1 j2 t1 t2 : Addr} {n1 n2 : Nat} {xs ys : Array Value} {x y a b : Value} {Q : Value -> Shared -> Prop} (D : ZipApart z TI TO j1 j2 t1 t2)
 (hz:IsZip s.heap z TI TO .none) (hI:IsPair s.heap TI (.ref j1) (.ref j2)) (hO:IsPair s.heap TO a b)
 (s1:s.heap.IsTupleIter j1 t1 n1) (s2:s.heap.IsTupleIter j2 t2 n2) (l1:s.heap.IsTuple t1 xs) (l2:s.heap.IsTuple t2 ys) (hx:xs[n1]? = some x) (hy:ys[n2]? = some y)
 (q:∀h',IsZip h' z TI TO (rawInt s.heap.objs.size)->IsPair h' TO x y->h'.IsTupleIter j1 t1 (n1+1)->h'.IsTupleIter j2 t2 (n2+1)->IsPair h' s.heap.objs.size x y->h'.objs.size=s.heap.objs.size+1 ->
  (∀c o,c≠z->c≠TO->c≠j1->c≠j2->s.heap.get? c=some o->h'.get? c=some o)->Q (.ref s.heap.objs.size) {s with heap:=h' }) :
 wpAny (model prog w) A (Builtin.«zip.__next__» ⟨[.ref z], []⟩) (fun fin s' => ∃ v, fin = .done (.ret v) /\ Q v s') E s := by
 show wpAny _ _ (field (.ref z) 2 >>= _) _ _ _;refine wpAny_bind (wpAny_field hz rfl (x:= .bool false) rfl ?_);show wpAny _ _ (field (.ref z) 3 >>= _) _ _ _;refine wpAny_bind (wpAny_field hz rfl (x:= .ref TI) rfl ?_);refine wpAny_bind (wpAny_seqItems hI rfl ?_);show wpAny _ _ (Builtin.SmallTypes.ownedTupleIsFree (.ref z) >>= _) _ _ _;refine wpAny_bind ?_;unfold Builtin.SmallTypes.ownedTupleIsFree;refine wpAny_bind (wpAny_field hz rfl (x:= .none) rfl (wpAny_pure ?_));simp only [if_true];refine wpAny_bind (wpAny_rule ?_);refine wpAny_bind (wpAny_field hz rfl (x:= .ref TO) rfl ?_);refine wpAny_bind (wpAny_setField_rec hz (by simp) fun H1 z1 k1=> ?_)
 replace z1:IsZip H1 z TI TO .ellipsis:=z1
 refine A7 ?_;simp only [List.zipIdx_cons,List.zipIdx_nil,AH2,R9];refine A7 (A7 (bM ?_));show wpAny _ _ (Builtin.SmallTypes.nextOf (.ref j1) >>= _) _ _ _;refine A7 (WF (E3 s1 k1.extBut D.i1z) (JC l1 k1.extBut D.l1z) hx fun H2 i2 k2=>AS ?_);have O2:IsPair H2 TO a b:=k2.extBut _ _ D.TOi1 (k1.extBut _ _ D.TOz hO);refine A7 (KG O2 rfl ?_);refine A7 (WT O2 fun H3 O3 k3=> ?_)
 replace O3:IsPair H3 TO x b:=O3
 refine A7 (AH7 (AS ?_));refine A7 (A7 (bM ?_));show wpAny _ _ (Builtin.SmallTypes.nextOf (.ref j2) >>= _) _ _ _;refine A7 (WF (E3 (E3 (E3 s2 k1.extBut D.i2z) k2.extBut D.i12.symm) k3.extBut D.TOi2.symm) (JC (JC (JC l2 k1.extBut D.l2z) k2.extBut D.l2i1) k3.extBut D.l2TO) hy fun H4 i4 k4=>AS ?_);have O4:IsPair H4 TO x b:=k4.extBut _ _ D.TOi2 O3;refine A7 (KG O4 rfl ?_);refine A7 (WT O4 fun H5 O5 k5=> ?_)
 replace O5:IsPair H5 TO x y:=O5
 refine A7 (AH7 (AS (AS ?_)));refine A7 (KG O5 rfl ?_);refine A7 (wpAny_newTuple ?_);have sz:H5.objs.size=s.heap.objs.size:=by rw [k5.1,k4.1,k3.1,k2.1,k1.1]
 have z5:IsZip H5 z TI TO .ellipsis:=k5.extBut _ _ D.TOz.symm (k4.extBut _ _ D.i2z.symm (k3.extBut _ _ D.TOz.symm (k2.extBut _ _ D.i1z.symm z1)))
 have keep:∀c o,c≠z->c≠TO->c≠j1->c≠j2->s.heap.get? c=some o->H5.get? c=some o:=fun c o c1 c2 c3 c4 e=>
  k5.extBut _ _ c2 (k4.extBut _ _ c4 (k3.extBut _ _ c2 (k2.extBut _ _ c3 (k1.extBut _ _ c1 e))))
 have i5:H5.IsTupleIter j1 t1 (n1+1):=E3 (E3 (E3 i2 k3.extBut D.TOi1.symm) k4.extBut D.i12) k5.extBut D.TOi1.symm;have i5':H5.IsTupleIter j2 t2 (n2+1):=E3 i4 k5.extBut D.TOi2.symm;have zlt:z<H5.objs.size:=Heap.lt_size z5;show wpAny _ _ (Builtin.SmallTypes.ownedTupleHandOut (.ref z) (.ref H5.objs.size) >>= _) _ _ _;refine wpAny_bind ?_;unfold Builtin.SmallTypes.ownedTupleHandOut;have z6:IsZip (H5.push {cls:= .type "tuple",data:= .seq #[x,y]}) z TI TO .ellipsis:=Heap.get?_push_of_some _ z5;refine wpAny_bind (wpAny_setField_rec z6 (by simp) fun H7 z7 k7=> ?_)
 replace z7:IsZip H7 z TI TO (rawInt H5.objs.size):=z7
 refine fR z7 (by simp) fun H8 z8 k8=> ?_
 replace z8:IsZip H8 z TI TO (rawInt H5.objs.size):=z8
 have up:∀c o,c≠z->H5.get? c=some o->H8.get? c=some o:=fun c o c1 e=>k8.extBut _ _ c1 (k7.extBut _ _ c1 (A3 _ e));have T8:IsPair H8 H5.objs.size x y:=k8.extBut _ _ (wB zlt) (k7.extBut _ _ (wB zlt) (AW _ rfl));have n8:H8.objs.size=H5.objs.size+1:=by rw [k8.1,k7.1,D4]
 rw [sz] at z8 T8 n8
 refine AS ⟨_,rfl,?_⟩;show Q (.ref H5.objs.size) _;rw [sz];exact q H8 z8 (up _ _ D.TOz O5) (i5.at fun o e=>up _ o D.i1z e) (i5'.at fun o e=>up _ o D.i2z e) T8 n8 fun c o c1 c2 c3 c4 e=>up c o c1 (keep c o c1 c2 c3 c4 e)
theorem kB {z TI TO j1 j2 t1 t2 : Addr} {n1 n2 : Nat} {xs ys : Array Value} {a b : Value} {Q : Fin -> Shared -> Prop} (hh : A.handled = none) (D : ZipApart z TI TO j1 j2 t1 t2)
 (hz:IsZip s.heap z TI TO .none) (hI:IsPair s.heap TI (.ref j1) (.ref j2)) (hO:IsPair s.heap TO a b)
 (s1:s.heap.IsTupleIter j1 t1 n1) (s2:s.heap.IsTupleIter j2 t2 n2) (l1:s.heap.IsTuple t1 xs) (l2:s.heap.IsTuple t2 ys) (fin:xs[n1]? = none\/ys[n2]? = none)
 (q:∀h' e,(∀c o,c≠z->c≠TO->c≠j1->c≠j2->s.heap.get? c=some o->h'.get? c=some o)->(∃o,h'.get? e=some o/\o.cls = .type "StopIteration")->E (.ref e) {s with heap:=h' }) :
 wpAny (model prog w) A (Builtin.«zip.__next__» ⟨[.ref z], []⟩) Q E s := by
 show wpAny _ _ (field (.ref z) 2 >>= _) _ _ _;refine wpAny_bind (wpAny_field hz rfl (x:= .bool false) rfl ?_);show wpAny _ _ (field (.ref z) 3 >>= _) _ _ _;refine wpAny_bind (wpAny_field hz rfl (x:= .ref TI) rfl ?_);refine wpAny_bind (wpAny_seqItems hI rfl ?_);show wpAny _ _ (Builtin.SmallTypes.ownedTupleIsFree (.ref z) >>= _) _ _ _;refine wpAny_bind ?_;unfold Builtin.SmallTypes.ownedTupleIsFree;refine wpAny_bind (wpAny_field hz rfl (x:= .none) rfl (wpAny_pure ?_));simp only [if_true];refine wpAny_bind (wpAny_rule ?_);refine wpAny_bind (wpAny_field hz rfl (x:= .ref TO) rfl ?_);refine wpAny_bind (wpAny_setField_rec hz (by simp) fun H1 z1 k1=> ?_)
 replace z1:IsZip H1 z TI TO .ellipsis:=z1
 refine A7 ?_;simp only [List.zipIdx_cons,List.zipIdx_nil,AH2,R9];refine A7 (A7 (bM ?_));show wpAny _ _ (Builtin.SmallTypes.nextOf (.ref j1) >>= _) _ _ _
 cases hx:xs[n1]? with
 | none=>
  refine A7 (SV hh (E3 s1 k1.extBut D.i1z) (JC l1 k1.extBut D.l1z) hx fun H2 e k2 st=> ?_);obtain ⟨oe,ge,ce⟩:=st;have z2:IsZip H2 z TI TO .ellipsis:=k2 _ _ D.i1z.symm z1;have ez:e≠z:=fun x=>by subst x;rw [z2] at ge;cases ge;simp at ce
  refine fR z2 (by simp) fun H3 _ k3=>q H3 e (fun c o c1 _ c3 _ x=>k3.extBut _ _ c1 (k2 _ _ c3 (k1.extBut _ _ c1 x))) ⟨oe,k3.extBut _ _ ez ge,ce⟩
 | some x=>
  have hy:ys[n2]? = none:=by rcases fin with h | h;rw [hx] at h;cases h;exact h
  refine A7 (WF (E3 s1 k1.extBut D.i1z) (JC l1 k1.extBut D.l1z) hx fun H2 i2 k2=>AS ?_);have O2:IsPair H2 TO a b:=k2.extBut _ _ D.TOi1 (k1.extBut _ _ D.TOz hO);refine A7 (KG O2 rfl ?_);refine A7 (WT O2 fun H3 O3 k3=> ?_);refine A7 (AH7 (AS ?_));refine A7 (A7 (bM ?_));show wpAny _ _ (Builtin.SmallTypes.nextOf (.ref j2) >>= _) _ _ _;refine A7 (SV hh (E3 (E3 (E3 s2 k1.extBut D.i2z) k2.extBut D.i12.symm) k3.extBut D.TOi2.symm) (JC (JC (JC l2 k1.extBut D.l2z) k2.extBut D.l2i1) k3.extBut D.l2TO) hy fun H4 e k4 st=> ?_);obtain ⟨oe,ge,ce⟩:=st;have z4:IsZip H4 z TI TO .ellipsis:=k4 _ _ D.i2z.symm (k3.extBut _ _ D.TOz.symm (k2.extBut _ _ D.i1z.symm z1));have ez:e≠z:=fun x=>by subst x;rw [z4] at ge;cases ge;simp at ce
  refine fR z4 (by simp) fun H5 _ k5=>q H5 e (fun c o c1 c2 c3 c4 x=>k5.extBut _ _ c1 (k4 _ _ c4 (k3.extBut _ _ c2 (k2.extBut _ _ c3 (k1.extBut _ _ c1 x))))) ⟨oe,k5.extBut _ _ ez ge,ce⟩
theorem bA {z TI TO j1 j2 t1 t2 : Addr} {n1 n2 : Nat} {xs ys : Array Value} {x y a b : Value} {Q : Option Value -> Shared -> Prop} (D : ZipApart z TI TO j1 j2 t1 t2)
 (hz:IsZip s.heap z TI TO .none) (hI:IsPair s.heap TI (.ref j1) (.ref j2)) (hO:IsPair s.heap TO a b)
 (s1:s.heap.IsTupleIter j1 t1 n1) (s2:s.heap.IsTupleIter j2 t2 n2) (l1:s.heap.IsTuple t1 xs) (l2:s.heap.IsTuple t2 ys) (hx:xs[n1]? = some x) (hy:ys[n2]? = some y)
 (q:∀h',IsZip h' z TI TO (rawInt s.heap.objs.size)->IsPair h' TO x y->h'.IsTupleIter j1 t1 (n1+1)->h'.IsTupleIter j2 t2 (n2+1)->IsPair h' s.heap.objs.size x y->h'.objs.size=s.heap.objs.size+1 ->
  (∀c o,c≠z->c≠TO->c≠j1->c≠j2->s.heap.get? c=some o->h'.get? c=some o)->Q (some (.ref s.heap.objs.size)) {s with heap:=h' }) :
 wpAny (model prog w) A (pyNext (.ref z)) Q E s:=by
 have ty:s.TypeIs (.ref z) "zip" :=⟨_,hz,rfl⟩;unfold pyNext
 exact A7 (AE1 (GN (name:=Str.ofString "__next__") ty JQ
  (IU JQ ty wF
   (iV D hz hI hO s1 s2 l1 l2 hx hy fun h' a1 a2 a3 a4 a5 a6 a7=>AS (q h' a1 a2 a3 a4 a5 a6 a7)) (uS _))))
theorem i6 {z TI TO j1 j2 t1 t2 : Addr} {n1 n2 : Nat} {xs ys : Array Value} {a b : Value} {Q : Option Value -> Shared -> Prop} (hh : A.handled = none) (D : ZipApart z TI TO j1 j2 t1 t2)
 (hz:IsZip s.heap z TI TO .none) (hI:IsPair s.heap TI (.ref j1) (.ref j2)) (hO:IsPair s.heap TO a b)
 (s1:s.heap.IsTupleIter j1 t1 n1) (s2:s.heap.IsTupleIter j2 t2 n2) (l1:s.heap.IsTuple t1 xs) (l2:s.heap.IsTuple t2 ys) (fin:xs[n1]? = none\/ys[n2]? = none)
 (q:∀h',(∀c o,c≠z->c≠TO->c≠j1->c≠j2->s.heap.get? c=some o->h'.get? c=some o)->Q none {s with heap:=h' }):wpAny (model prog w) A (pyNext (.ref z)) Q E s:=by
 have ty:s.TypeIs (.ref z) "zip" :=⟨_,hz,rfl⟩;unfold pyNext
 refine A7 (AE1 (GN (name:=Str.ofString "__next__") ty JQ
  (IU JQ ty wF (kB hh D hz hI hO s1 s2 l1 l2 fin fun h' e k st=> ?_) (uS _))))
 obtain ⟨o,g,c⟩:=st;refine A7 (wpAny_isInstance (T:= "StopIteration") (b:=true) ⟨o,g,c⟩ isSubtype_stop ?_);exact AS (q _ k)
end
abbrev zt1 (h:Heap) (a:Addr):Heap:=h.push {cls:= .type "tuple_iterator",data:= .fields #[.ref a, .int 0 0]}
abbrev zt2 (h:Heap) (a b:Addr):Heap:=(zt1 h a).push {cls:= .type "tuple_iterator",data:= .fields #[.ref b, .int 0 0]}
abbrev zt3 (h:Heap) (a b:Addr):Heap:=(zt2 h a b).push {cls:= .type "tuple",data:= .seq #[.ref h.objs.size, .ref (zt1 h a).objs.size]}
abbrev zt4 (h:Heap) (a b:Addr):Heap:=(zt3 h a b).push {cls:= .type "tuple",data:= .seq #[.none, .none]}
abbrev zt5 (h:Heap) (a b:Addr):Heap:=(zt4 h a b).push {cls:= .type "zip",data:= .fields #[.none, .bool false, .bool false, .ref (zt2 h a b).objs.size, .ref (zt3 h a b).objs.size]}
theorem ZX{h:Heap}{t:Addr}{us}{o:Obj}(x:h.IsTuple t us):(h.push o).IsTuple t us:=by
 obtain ⟨o',e,r⟩:=x;exact ⟨o',A3 _ e,r⟩
theorem ZS (a b : Addr) (xs ys : Array Value) :
 Meets (Builtin.«zip.__new__» ⟨[.type "zip", .ref a, .ref b], []⟩) (fun _ R s => s.heap.IsTuple a xs /\ s.heap.IsTuple b ys /\ R (.ok (.ret (.ref (zt4 s.heap a b).objs.size))) { s with heap := zt5 s.heap a b }) :=
 .of_wp fun prog w A R s h=>by
  obtain ⟨hp,g,d,tk,os⟩:=s;obtain ⟨x1,x2,h⟩:=h;have hsub:=sub_zip;have y1:Heap.IsTuple (Shared.heap ⟨hp,g,d,tk,os⟩) a xs:=x1;have y2:Heap.IsTuple (Shared.heap ⟨hp.push {cls:= .type "tuple_iterator",data:= .fields #[.ref a, .int 0 0]},g,d,tk,os⟩) b ys:=ZX x2
  wp_walk using fQ y1,fQ y2
  exact ⟨_,rfl,h⟩
section
variable {prog:Program} {w:World} {A:Around} {E:Value->Shared->Prop} {s:Shared}
theorem gE {a b : Addr} {xs ys : Array Value} {Q : Value -> Shared -> Prop} (x1 : s.heap.IsTuple a xs) (x2 : s.heap.IsTuple b ys)
 (q:∀h',IsZip h' (s.heap.objs.size+4) (s.heap.objs.size+2) (s.heap.objs.size+3) .none->IsPair h' (s.heap.objs.size+2) (.ref s.heap.objs.size) (.ref (s.heap.objs.size+1)) ->
  IsPair h' (s.heap.objs.size+3) .none .none->h'.IsTupleIter s.heap.objs.size a 0->h'.IsTupleIter (s.heap.objs.size+1) b 0->(∀c o,s.heap.get? c=some o->h'.get? c=some o)->Q (.ref (s.heap.objs.size+4)) {s with heap:=h' }) :
 wpAny (model prog w) A (call (.type "zip") [.ref a, .ref b]) Q E s:=by
 refine callType_new PySem.F.called_zip (by decide) (PySem.F.typeCall_zip_2 _ _) (PySem.F.newCall_zip_2 _ _) (fun obj=>PySem.F.args_object_init_3 obj _ _) PySem.F.entry_zip_new (ZS a b xs ys) ⟨x1,x2,?_⟩;have e1:(zt1 s.heap a).objs.size=s.heap.objs.size+1:=D4 ..;have e2:(zt2 s.heap a b).objs.size=s.heap.objs.size+2:=by rw [D4,e1]
 have e3:(zt3 s.heap a b).objs.size=s.heap.objs.size+3:=by rw [D4,e2]
 have e4:(zt4 s.heap a b).objs.size=s.heap.objs.size+4:=by rw [D4,e3]
 have g5:(zt5 s.heap a b).get? (zt4 s.heap a b).objs.size=some _:=AW _ rfl;have g4:(zt5 s.heap a b).get? (zt3 s.heap a b).objs.size=some _:=A3 _ (AW _ rfl);have g3:(zt5 s.heap a b).get? (zt2 s.heap a b).objs.size=some _:=A3 _ (A3 _ (AW _ rfl));have g2:(zt5 s.heap a b).get? (zt1 s.heap a).objs.size=some _:=A3 _ (A3 _ (A3 _ (AW _ rfl)));have g1:(zt5 s.heap a b).get? s.heap.objs.size=some _:=A3 _ (A3 _ (A3 _ (A3 _ (AW _ rfl))));show _/\_;rw [e2,e3,e4] at g5
 rw [e1,e2] at g3
 rw [e3] at g4
 rw [e1] at g2
 rw [e4];refine ⟨⟨_,g5,rfl⟩,q _ g5 g3 g4 ⟨_,g1,rfl,rfl⟩ ⟨_,g2,rfl,rfl⟩ fun c o e=> ?_⟩;exact A3 _ (A3 _ (A3 _ (A3 _ (A3 _ e))))
end
def Ity(K:PySem.W.Frag)(a b:Addr):It:=
 ⟨fun i H=>∃xs ys x y,SqT K H a xs/\SqT K H b ys/\xs[i]? = some x/\ys[i]? = some y,
  fun i H v H'=>∃p x y,H p=none/\v = .ref p/\H'=upd H p (.tup [x,y])/\(∀xs,SqT K H a xs->xs[i]? = some x)/\(∀ys,SqT K H b ys->ys[i]? = some y),
  fun i H=>∃xs ys,SqT K H a xs/\SqT K H b ys/\(xs.length<=i\/ys.length<=i)⟩
def A18(z TI TO i1 i2 l1 l2:Addr)(i:Nat)(h:Heap):Prop:=IsZip h z TI TO .none/\IsPair h TI (.ref i1) (.ref i2)/\(∃a b,IsPair h TO a b)/\h.IsTupleIter i1 l1 i/\h.IsTupleIter i2 l2 i
theorem gW {P : Program} {w : World} {K : PySem.W.Frag} {elts : List Expr} {k : Nat} {pos : Pos} {z TI TO i1 i2 l1 l2 : Addr} (D : ZipApart z TI TO i1 i2 l1 l2) :
 Turn P w K (.Tuple elts k pos) (Ity K l1 l2) [z,TI,TO,i1,i2] z (A18 z TI TO i1 i2 l1 l2) where
 mem:=by simp
 obj:=fun i h st b hb=>by
  obtain ⟨h1,h2,⟨a,c,h3⟩,⟨o4,h4,_,d4⟩,⟨o5,h5,_,d5⟩⟩:=st;simp only [B7,BO,FJ] at hb
  rcases hb with rfl | rfl | rfl | rfl | rfl
  . exact ⟨_,h1,fun v e=>(nomatch e)⟩
  . exact ⟨_,h2,fun v e=>(nomatch e)⟩
  . exact ⟨_,h3,fun v e=>(nomatch e)⟩
  . exact ⟨_,h4,fun v e=>by rw [d4] at e;cases e⟩
  . exact ⟨_,h5,fun v e=>by rw [d5] at e;cases e⟩
 keep:=fun i h h' st kk=>by
  obtain ⟨h1,h2,⟨a,c,h3⟩,h4,h5⟩:=st;exact ⟨kk z (by simp) _ h1,kk TI (by simp) _ h2,⟨a,c,kk TO (by simp) _ h3⟩,h4.at fun o e=>kk i1 (by simp) o e,h5.at fun o e=>kk i2 (by simp) o e⟩
 item:=by
  intro X hP hw hK hc i pins s σ H E I hf st hg;subst hP hw hK;obtain ⟨h1,h2,⟨a,c,h3⟩,h4,h5⟩:=st;obtain ⟨xs,ys,x,y,q1,q2,hx,hy⟩:=hg;obtain ⟨its,rv,p,hz⟩:=I.tuple q1;obtain ⟨jts,rw',p',hz'⟩:=I.tuple q2;obtain ⟨u,hu,ru⟩:=rv.get hx;obtain ⟨u',hu',ru'⟩:=rw'.get hy;have ltS:∀ {h:Heap} {b:Addr} {o:Obj},h.get? b=some o -> @LT.lt Nat _ b h.objs.size:=fun e=>AV e;refine bA D h1 h2 h3 h4 h5 p p' (x:=u) (y:=u') (by simpa using hu) (by simpa using hu') fun h' a1 a2 a3 a4 a5 a6 hk=> ?_;refine ⟨_,rfl,AD2 a1 fun h'' a1' sb=> ?_⟩;have ch:∀b ∈ [z,TI,TO,i1,i2],H b=none:=fun b hb=>(hf b hb).1
  have kk:∀b o,b ∉ [z,TO,i1,i2]->s.heap.get? b=some o->h''.get? b=some o:=fun b o hb e=>by
   simp only [B7,BO,FJ,not_or] at hb
   exact sb.extBut b o hb.1 (hk b o hb.1 hb.2.1 hb.2.2.1 hb.2.2.2 e)
  have eT:h''.get? s.heap.objs.size=some {cls:= .type "tuple",data:= .seq #[u,u']}:=sb.extBut _ _ (fun e=>by have l:=ltS h1;rw [<-e] at l;omega) a5
  have sub:∀b,b ∈ [z,TO,i1,i2]->b ∈ [z,TI,TO,i1,i2]:=fun b hb=>by
   simp only [B7,BO,FJ] at hb ⊢
   rcases hb with r | r | r | r
   . exact .inl r
   . exact .inr (.inr (.inl r))
   . exact .inr (.inr (.inr (.inl r)))
   . exact .inr (.inr (.inr (.inr r)))
  have nT:H s.heap.objs.size=none:=I.hok.fresh (A8 _)
  have hok1 : HOk X.prog X.w H h'' := fun b o e => (I.hok b o e).stay (fun d v hd q => kk d v (fun hm => by
   have n:=ch d (sub d hm);rcases hd with hd | hd
   . rw [hd,e] at n;cases n
   . rw [hd] at n;cases n) q) (fun _ q=>q) fun _ _ q=>q
  have hok2:HOk X.prog X.w (upd H s.heap.objs.size (.tup [x,y])) h'':=VE hok1 nT ⟨by show 2<=sizeLine;decide,[u,u'], .cons ru (.cons ru' .nil),⟨_,eT,rfl,_,rfl⟩⟩
  have un:Un (frs X.stack) [z,TO,i1,i2] H (upd H s.heap.objs.size (.tup [x,y])) s.heap h'':=by
   refine ⟨fun b o e _ _ hx=>kk b o hx e,fun b o e _ _ hx=>⟨o.slots,kk b o hx e⟩,fun b o e n _=> ?_,fun b o e hx=>⟨o,kk b o hx e⟩,fun b zs e=> ?_,fun b o v e=> ?_,fun b ps e=>⟨#[],?_⟩⟩
   . have l:=ltS e;rw [BQ (by intro q;subst q;omega)];exact n
   . rw [BQ (BY e nT)];exact e
   . rw [BQ (BY e nT)];exact e
   . rw [BQ (BY e nT)];simpa using e
  have I2:Inv X pins σ (upd H s.heap.objs.size (.tup [x,y])) {s with heap:=h'' }:=I.call' rfl un hok2 I.bare fun b hb=>by
   obtain ⟨f0,f1,f2,f3,f4,f5⟩:=hf b (sub b hb);exact ⟨f3,f1,f4,f5⟩
  refine ⟨.ref s.heap.objs.size,_,I2,rfl,⟨s.heap.objs.size,x,y,nT,rfl,rfl,fun zs hq=> ?_,fun zs hq=> ?_⟩,⟨a1',?_,⟨_,_,sb.extBut _ _ D.TOz a2⟩,a3.extBut sb.extBut D.i1z,a4.extBut sb.extBut D.i2z⟩,fun b hb=> ?_⟩
  . rw [I.tuple_inj hq q1];exact hx
  . rw [I.tuple_inj hq q2];exact hy
  . exact sb.extBut _ _ D.TIz (hk TI _ D.TIz D.TITO D.TIi1 D.TIi2 h2)
  . have n:=ch b hb
    obtain ⟨o,e⟩:∃o,s.heap.get? b=some o:=by
     simp only [B7,BO,FJ] at hb
     rcases hb with rfl | rfl | rfl | rfl | rfl
     . exact ⟨_,h1⟩
     . exact ⟨_,h2⟩
     . exact ⟨_,h3⟩
     . obtain ⟨o,e,_⟩:=h4;exact ⟨o,e⟩
     . obtain ⟨o,e,_⟩:=h5;exact ⟨o,e⟩
    have l:=ltS e;rw [BQ (by intro q;subst q;omega)];exact n
 done:=by
  intro X hP hw hK hc i pins s σ H E I hf st hg;subst hP hw hK;obtain ⟨h1,h2,⟨a,c,h3⟩,h4,h5⟩:=st;obtain ⟨xs,ys,q1,q2,he⟩:=hg;obtain ⟨its,rv,p,hz⟩:=I.tuple q1;obtain ⟨jts,rw',p',hz'⟩:=I.tuple q2;have l1:=rv.length;have l2:=rw'.length;refine i6 (I.ok.hd hc) D h1 h2 h3 h4 h5 p p' (by rcases he with e | e;exact .inl (by simp;omega);exact .inr (by simp;omega)) fun h' hk=>⟨rfl,?_⟩;have ch:∀b ∈ [z,TI,TO,i1,i2],H b=none:=fun b hb=>(hf b hb).1
  have sub:∀b,b ∈ [z,TO,i1,i2]->b ∈ [z,TI,TO,i1,i2]:=fun b hb=>by
   simp only [B7,BO,FJ] at hb ⊢
   rcases hb with r | r | r | r
   . exact .inl r
   . exact .inr (.inr (.inl r))
   . exact .inr (.inr (.inr (.inl r)))
   . exact .inr (.inr (.inr (.inr r)))
  have kk:∀b o,b ∉ [z,TO,i1,i2]->s.heap.get? b=some o->h'.get? b=some o:=fun b o hb e=>by
   simp only [B7,BO,FJ,not_or] at hb
   exact hk b o hb.1 hb.2.1 hb.2.2.1 hb.2.2.2 e
  have hok1 : HOk X.prog X.w H h' := fun b o e => (I.hok b o e).stay (fun d v hd q => kk d v (fun hm => by
   have n:=ch d (sub d hm);rcases hd with hd | hd
   . rw [hd,e] at n;cases n
   . rw [hd] at n;cases n) q) (fun _ q=>q) fun _ _ q=>q
  have un:Un (frs X.stack) [z,TO,i1,i2] H H s.heap h' :=
   ⟨fun b o e _ _ hx=>kk b o hx e,fun b o e _ _ hx=>⟨o.slots,kk b o hx e⟩,fun b o e n _=>n,fun b o e hx=>⟨o,kk b o hx e⟩,fun b zs e=>e,fun b o v e=>e,fun b ps e=>⟨#[],by simpa using e⟩⟩
  exact I.call' rfl un hok1 I.bare fun b hb=>by
   obtain ⟨f0,f1,f2,f3,f4,f5⟩:=hf b (sub b hb);exact ⟨f3,f1,f4,f5⟩
 self:=fun _ _ _ _ _ st h=>LL st.1 h
section
variable {X:Cx}
def vE(K:PySem.W.Frag)(ta:TA):TI:=fun σ H R=>ta σ H fun vs H1=>∃l1 l2,vs = [.ref l1, .ref l2]/\(((∃xs,SqL K H1 l1 xs)/\(∃ys,SqL K H1 l2 ys)/\R (Itz K l1 l2) H1)\/((∃xs,SqT K H1 l1 xs)/\(∃ys,SqT K H1 l2 ys)/\R (Ity K l1 l2) H1))
theorem r0{n b:Nat}(hb:b ∈ [n+4,n+2,n+3,n,n+1]):n<=b:=by
 simp only [B7,BO,FJ] at hb
 omega
theorem sB {a b : Expr} {ta : TA} {elts : List Expr} {k : Nat} {tp p pos : Pos} (hg : Gl X "zip") (hm : X.mg "zip" = none) (ha : PA X [a, b] ta) (hs : starEach [a, b] X.env = [(false, eval a X.env), (false, eval b X.env)] := by rfl) (hs2 : starEach [b] X.env = [(false, eval b X.env)] := by rfl) :
 PI X (.Tuple elts k tp) (.Call (.Name "zip" p) [a,b] [] pos) (vE X.K ta):=by
 intro pins s σ H R I h;refine Call_ (HS I hg hm kS (BD (thn (ha pos pins s σ H _ I h) fun us s1 ⟨vs,H1,I1,r1,q1⟩ => ?_) (by rw [hs,hs2]) (by rw [hs2];rfl)));obtain ⟨l1,l2,e,q1⟩:=q1;subst e;obtain ⟨u,w',rfl,ru,rw'⟩:=w6 r1
 cases (show u=Value.ref l1 from ru)
 cases (show w'=Value.ref l2 from rw')
 rcases q1 with ⟨⟨xs,q1⟩,⟨ys,q2⟩,q⟩ | ⟨⟨xs,q1⟩,⟨ys,q2⟩,q⟩
 . obtain ⟨its,rv,p1,hz⟩:=I1.list q1;obtain ⟨jts,rv',p2,hz'⟩:=I1.list q2;have lt1:l1<s1.heap.objs.size:=by obtain ⟨o,n,e,_⟩:=p1;exact AV e
   have lt2:l2<s1.heap.objs.size:=by obtain ⟨o,n,e,_⟩:=p2;exact AV e
   refine call_zip_2 p1.isList p2.isList fun h' a1 a2 a3 a4 a5 a6 hk=> ?_;refine LL (s:={s1 with heap:=h' }) a1 ?_;exact ⟨_,[s1.heap.objs.size+4,s1.heap.objs.size+2,s1.heap.objs.size+3,s1.heap.objs.size,s1.heap.objs.size+1],_,_,H1,rfl,I1.kept (t':=s1.toks) hk,ZJ (zipApart_new lt1 lt2),⟨a1,a2,⟨_,_,a3⟩,a4,a5⟩,fun b hb=>I1.fpOk (r0 hb) (I1.hok.fresh (r0 hb)),q⟩
 . obtain ⟨its,rv,p1,hz⟩:=I1.tuple q1;obtain ⟨jts,rv',p2,hz'⟩:=I1.tuple q2;have lt1:l1<s1.heap.objs.size:=by obtain ⟨o,e,_⟩:=p1;exact AV e
   have lt2:l2<s1.heap.objs.size:=by obtain ⟨o,e,_⟩:=p2;exact AV e
   refine gE p1 p2 fun h' a1 a2 a3 a4 a5 hk=> ?_;refine LL (s:={s1 with heap:=h' }) a1 ?_;exact ⟨_,[s1.heap.objs.size+4,s1.heap.objs.size+2,s1.heap.objs.size+3,s1.heap.objs.size,s1.heap.objs.size+1],_,_,H1,rfl,I1.kept (t':=s1.toks) hk,gW (zipApart_new lt1 lt2),⟨a1,a2,⟨_,_,a3⟩,a4,a5⟩,fun b hb=>I1.fpOk (r0 hb) (I1.hok.fresh (r0 hb)),q⟩
end
end Tf
namespace Dm
open PySem PySem.Spec PyProof.Rows L2 Tf
section
variable {K:PySem.W.Frag} {R:Rl} [RelOk K R]
theorem rK{H0:Hp}{a b:Addr}{vs ws:List V}{ds es:List PyData}(h:SqT K H0 a vs)(r:Reps K H0 vs ds)(h2:SqT K H0 b ws)(r2:Reps K H0 ws es):ItR K H0 (Ity K a b) (JK ds es):=fun H0' H' s s' i=>by
 have h':=s'.seqT (s.seqT h);have h2':=s'.seqT (s.seqT h2);refine ⟨fun d hd=> ?_,fun hi=>⟨vs,ws,h',h2',?_⟩⟩
 . unfold JK at hd
   rw [A55] at hd
   cases e1:ds[i]? with
   | none=>rw [e1] at hd;cases hd
   | some x=>
    cases e2:es[i]? with
    | none=>rw [e1,e2] at hd;cases hd
    | some y=>
     rw [e1,e2] at hd
     cases hd
     obtain ⟨v,q1,q2⟩:=Tf.Reps.get r e1;obtain ⟨w,q3,q4⟩:=Tf.Reps.get r2 e2;refine ⟨⟨vs,ws,v,w,h',h2',q1,q3⟩,fun z H2 yl=> ?_⟩;obtain ⟨p,x',y',hp,rfl,rfl,hx,hy⟩:=yl;have:=hx vs h';rw [q1] at this
     cases this
     have:=hy ws h2';rw [q3] at this
     cases this
     refine ⟨_,Ext.allocF s' hp _, .tuple (SqT.of C9) ?_⟩;have s2:=s.trans (Same.upd (s'.free hp) (.tup [v,w]));exact .cons (Rep.same s2 q2) (.cons (Rep.same s2 q4) .nil)
 . rw [r.length,r2.length];unfold JK at hi
   rw [AD3] at hi
   omega
def GQ(f:En->Option (List PyData)):En->Option (List PyData):=fun ρ=>(f ρ).bind fun a=>match a with
 | [.list xs, .list ys]=>some (JK xs ys)
 | [.tuple xs, .tuple ys]=>some (JK xs ys)
 | _=>none
theorem uA{ta:TA}{f:En->Option (List PyData)}(h:RA K R ta f):RI K R (vE K ta) (GQ f):=fun HB σ ρ H0 H s e ds hd R q=>by
 obtain ⟨a,ha,hd⟩:=A0.mp hd
 split at hd
 . cases hd
   refine h HB σ ρ H0 H s e _ ha _ fun vs H1 J1 x1 p1=> ?_
   cases p1 with | cons p1 t=>cases t with | cons p2 t=>
    cases t
    cases p1 with | list a1 a2=>cases p2 with | list b1 b2=>
     exact ⟨_,_,rfl, .inl ⟨⟨_,x1.s1.seq a1⟩,⟨_,x1.s1.seq b1⟩,q _ _ _ x1 (lZ a1 a2 b1 b2)⟩⟩
 . cases hd
   refine h HB σ ρ H0 H s e _ ha _ fun vs H1 J1 x1 p1=> ?_
   cases p1 with | cons p1 t=>cases t with | cons p2 t=>
    cases t
    cases p1 with | tuple a1 a2=>cases p2 with | tuple b1 b2=>
     exact ⟨_,_,rfl, .inr ⟨⟨_,x1.s1.seqT a1⟩,⟨_,x1.s1.seqT b1⟩,q _ _ _ x1 (rK a1 a2 b1 b2)⟩⟩
 . cases hd
end
section
variable {X:Cx} {R:Rl} [RelOk X.K R] {a b:Expr} {pos p:Pos} {fs:En->Option (List PyData)}
theorem LC {elts:List Expr} {k} {tp:Pos} (hm:X.mg "zip" = none) (h:DA X R [a,b] fs) (hg:Gl X "zip" :=by rfl) (hs:starEach [a,b] X.env = [(false,eval a X.env),(false,eval b X.env)]:=by rfl) (hs2:starEach [b] X.env = [(false,eval b X.env)]:=by rfl):DI X R (.Tuple elts k tp) (.Call (.Name "zip" p) [a,b] [] pos) (GQ fs):=by
 obtain ⟨t,h1,h2⟩:=h;exact ⟨_,sB hg hm h1 hs hs2,uA h2⟩
end
end Dm
namespace Dm
open PySem PySem.Spec PyProof.Rows L2 Tf
theorem QS{n m k:Nat}{g:En->Option Out}{φ:En}{ds:List PyData}{ρ ρ':En}{d:PyData}(hl:ds.length+1=m)(hk:φ.length=k)(e:(none::ds.map (fun d=>some (Sl.val d)))++List.replicate (n - (ds.length+1)) none++φ=ρ)(h:g ρ=some (.rt (.val d) ρ'))(hnd:noD φ=true:=by rfl):PY n m k g φ ds=some (ρ'.drop n,d):=by
 unfold PY;rw [if_pos ⟨⟨hl,hk⟩,hnd⟩,e,h];rfl
theorem WA{n m k:Nat}{g:En->Option Out}{φ:En}{ds:List PyData}{ρ ρ':En}(hl:ds.length+1=m)(hk:φ.length=k)(e:(none::ds.map (fun d=>some (Sl.val d)))++List.replicate (n - (ds.length+1)) none++φ=ρ)(h:g ρ=some (.nx ρ'))(hnd:noD φ=true:=by rfl):PY n m k g φ ds=some (ρ'.drop n, .none):=by
 unfold PY;rw [if_pos ⟨⟨hl,hk⟩,hnd⟩,e,h];rfl
end Dm
namespace Ts
open PySem PyProof.Rows
def iG(prog:Program)(w:World)(A:Around)(E:Value->Shared->Prop)(s:Shared)(kd:SortKind)(D:Keyed->Prop)(κ:Keyed->Int):Prop:=∀(x y:Keyed) (st:SortSt) (Q:Option Bool->SortSt->Prop),kindOf st=kd->D x->D y->Q (some (decide (κ x<κ y))) st->wpS (model prog w) A E s (lt' x y) Q st
section
variable {prog:Program} {w:World} {A:Around} {E:Value->Shared->Prop} {s:Shared} {kd:SortKind} {D:Keyed->Prop} {κ:Keyed->Int}
theorem X0{arr:Array Keyed}{i:Nat}{p:Keyed}{Q:Keyed->SortSt->Prop}{st:SortSt}(h:arr[i]? = some p)(q:Q p st):wpS (model prog w) A E s (elem' arr i) Q st:=by
 rw [elem'_eq,h];exact DU q
end
end Ts
namespace Ts
open PySem PyProof.Rows
def Srt(κ:Keyed->Int)(l:List Keyed):Prop:=l.Pairwise fun x y=>κ x<=κ y
structure MI (κ:Keyed->Int) (al bl ol:List Keyed) (i j:Nat):Prop where
 hi:i<=al.length
 hj:j<=bl.length
 perm:ol.Perm (al.take i++bl.take j)
 srt:Srt κ ol
 la:∀x ∈ ol,∀y ∈ al.drop i,κ x<=κ y
 lb:∀x ∈ ol,∀y ∈ bl.drop j,κ x<=κ y
section
variable {κ:Keyed->Int} {al bl ol:List Keyed} {i j k:Nat} {x:Keyed}
end
def Mia(κ:Keyed->Int)(a b out:Array Keyed)(i j:Nat):Prop:=MI κ a.toList b.toList out.toList i j
def Mr(κ:Keyed->Int)(a b r:Array Keyed):Prop:=r.toList.Perm (a.toList++b.toList)/\Srt κ r.toList
section
variable {κ:Keyed->Int} {a b out:Array Keyed} {i j k:Nat} {x:Keyed}
end
end Ts
namespace Ts
open PySem PyProof.Rows
section
variable {prog:Program} {w:World} {A:Around} {E:Value->Shared->Prop} {s:Shared} {kd:SortKind} {D:Keyed->Prop} {κ:Keyed->Int}
end
end Ts
namespace Ts
open PySem PyProof.Rows
def kk(κ:Keyed->Int)(xs:Array Keyed)(i:Nat):Int:=match xs[i]? with | some x=>κ x | none=>0
def Ou(xs ys:Array Keyed)(lo n:Nat):Prop:=∀k:Nat,(k<lo\/lo+n<=k)->ys[k]? = xs[k]?
def Sg(κ:Keyed->Int)(xs:Array Keyed)(lo n:Nat):Prop:=∀i j:Nat,lo<=i->i<=j->j<lo+n->kk κ xs i<=kk κ xs j
def Ni(κ:Keyed->Int)(xs:Array Keyed)(lo n:Nat):Prop:=∀i j:Nat,lo<=i->i<=j->j<lo+n->kk κ xs j<=kk κ xs i
structure SE (st0 st:SortSt) (lo n:Nat):Prop where
 kind:kindOf st=kindOf st0
 fail:failedOf st=failedOf st0
 pend:pendingOf st=pendingOf st0
 perm:(arrOf st).Perm (arrOf st0)
 out:Ou (arrOf st0) (arrOf st) lo n
section
variable {κ:Keyed->Int} {xs ys:Array Keyed} {i j lo n:Nat}
theorem QW{x:Keyed}(h:xs[i]? = some x):kk κ xs i=κ x:=by unfold kk;rw [h]
theorem M7(h:xs[i]? = ys[j]?):kk κ xs i=kk κ ys j:=by unfold kk;rw [h]
theorem V4{src d:Nat}(hs:src<xs.size)(hd:d<=src)(k:Nat):kk κ (bubble xs src d) k=if k=src - d then kk κ xs src else if src - d<k/\k<=src then kk κ xs (k - 1) else kk κ xs k:=by
 have e:=getElem?_bubble hs d hd k
 split
 . rw [AU (by assumption)] at e;exact M7 e
 . rw [AR (by assumption)] at e
   split
   . rw [AU (by assumption)] at e;exact M7 e
   . rw [AR (by assumption)] at e;exact M7 e
theorem GG(hj:j<=xs.size)(k:Nat):kk κ (mirror xs i j ((j - i) / 2)) k=if i<=k/\k<j then kk κ xs (i+j - 1 - k) else kk κ xs k:=by
 have e:=getElem?_mirror_all (i:=i) hj k
 split
 . rw [AU (by assumption)] at e;exact M7 e
 . rw [AR (by assumption)] at e;exact M7 e
theorem F6(hj:j<=xs.size)(he:∀k,i<=k->k<j->kk κ xs k=kk κ xs (j - 1))(k:Nat):kk κ (mirror xs i j ((j - i) / 2)) k=kk κ xs k:=by
 rw [GG hj]
 split
 . rw [he _ (by omega) (by omega),he k (by omega) (by omega)]
 . rfl
theorem GF(hj:j<=xs.size)(h1:lo<=i)(h2:j<=lo+n):Ou xs (mirror xs i j ((j - i) / 2)) lo n:=fun k hk=>by
 rw [getElem?_mirror_all hj,AR (by omega)]
theorem gA{src d:Nat}(hs:src<xs.size)(hd:d<=src)(h1:lo<=src - d)(h2:src<lo+n):Ou xs (bubble xs src d) lo n:=fun k hk=>by
 rw [getElem?_bubble hs d hd,AR (by omega),AR (by omega)]
theorem SE.rfl'{st:SortSt}:SE st st lo n:=⟨rfl,rfl,rfl,fS _,fun _ _=>rfl⟩
theorem SE.set{st0 st:SortSt}(h:SE st0 st lo n)(hp:xs.Perm (arrOf st))(ho:Ou (arrOf st) xs lo n):SE st0 (setArr st xs) lo n:=⟨h.kind,h.fail,h.pend,hp.trans h.perm,fun k hk=>(ho k hk).trans (h.out k hk)⟩
theorem SE.size{st0 st:SortSt}(h:SE st0 st lo n):(arrOf st).size=(arrOf st0).size:=h.perm.size_eq
end
section
variable {prog:Program} {w:World} {A:Around} {E:Value->Shared->Prop} {s:Shared} {kd:SortKind} {D:Keyed->Prop} {κ:Keyed->Int} {st0:SortSt}
theorem SE.dom{st:SortSt}{lo n:Nat}(h:SE st0 st lo n)(hD:∀x ∈ (arrOf st0).toList,D x){i:Nat}(hi:i<(arrOf st0).size):∃x,(arrOf st)[i]? = some x/\D x:=by
 have hi':i<(arrOf st).size:=by rw [h.size];exact hi
 exact ⟨_,getElem?_pos _ i hi',hD _ ((FK.mp h.perm).mem_iff.mp (by simp))⟩
theorem L1(H:iG prog w A E s kd D κ){st:SortSt}{lo n i j:Nat}{Q:Option Bool->SortSt->Prop}(h:SE st0 st lo n)(hk:kindOf st0=kd)(hD:∀x ∈ (arrOf st0).toList,D x)(hi:i<(arrOf st0).size)(hj:j<(arrOf st0).size)(q:Q (some (decide (kk κ (arrOf st) i<kk κ (arrOf st) j))) st):wpS (model prog w) A E s (ltAt' i j) Q st:=by
 obtain ⟨x,ex,dx⟩:=h.dom hD hi;obtain ⟨y,ey,dy⟩:=h.dom hD hj;rw [QW ex,QW ey] at q
 rw [ltAt'_eq];exact BT (AH8 (BT (X0 ex (BT (X0 ey (H _ _ _ _ (h.kind.trans hk) dx dy q))))))
theorem tM (H : iG prog w A E s kd D κ) {st : SortSt} {lo n ok : Nat} {Q : Bool -> SortSt -> Prop} (hk : kindOf st0 = kd) (hD : ∀ x ∈ (arrOf st0).toList, D x) (hn : lo + n <= (arrOf st0).size) (hok : ok <= n) (hS : SE st0 st lo n) (hs : Sg κ (arrOf st) lo ok)
 (q:∀st',SE st0 st' lo n->Sg κ (arrOf st') lo n->Q true st'):wpS (model prog w) A E s (binarySort' lo n ok) Q st:=by
 refine BT (MD (ME (I:=fun k c st'=>c=(none,())/\SE st0 st' lo n/\Sg κ (arrOf st') lo (min k n))
  (Q:=fun c st'=>c=(none,())/\SE st0 st' lo n/\Sg κ (arrOf st') lo n) ?s1 ?f1 ?i1) ?p1)
 case p1=>
  rintro c st' ⟨rfl,h1,h2⟩;exact DU (q st' h1 h2)
 case i1=>
  refine ⟨rfl,hS,fun i j h1 h2 h3=> ?_⟩
  by_cases h0:ok=0
  . have:i=j:=by omega
    subst this;exact G3 _
  . exact hs i j h1 h2 (by omega)
 case f1=>
  rintro c st' ⟨hc,h1,h2⟩;refine ⟨hc,h1,?_⟩
  rwa [show min (max (max ok 1) n) n=n by omega] at h2
 case s1=>
  rintro k c st1 hk1 hkn ⟨rfl,h1,h2⟩;rw [show min k n=k by omega] at h2
  dsimp only
  refine BT (MD (ME (I := fun x c st' => st' = st1 /\ ∃ l r, c = (none, l, r) /\ l <= r /\ r <= k /\ r - l <= k - x /\
   (∀i,lo<=i->i<lo+l->kk κ (arrOf st1) i<=kk κ (arrOf st1) (lo+k))/\(∀i,lo+r<=i->i<lo+k->kk κ (arrOf st1) (lo+k)<kk κ (arrOf st1) i))
   (Q:=fun c st'=>st'=st1/\∃l,c=(none,l,l)/\l<=k /\
    (∀i,lo<=i->i<lo+l->kk κ (arrOf st1) i<=kk κ (arrOf st1) (lo+k))/\(∀i,lo+l<=i->i<lo+k->kk κ (arrOf st1) (lo+k)<kk κ (arrOf st1) i)) ?s2 ?f2 ?i2) ?p2)
  case i2=>exact ⟨rfl,0,k,rfl,by omega,by omega,by omega,fun i _ hi=>by omega,fun i h1 h2=>by omega⟩
  case f2=>
   rintro c st' ⟨rfl,l,r,rfl,g1,g2,g3,g4,g5⟩;have:l=r:=by omega
   subst this;exact ⟨rfl,l,rfl,g2,g4,g5⟩
  case s2=>
   rintro x c st' _ hx ⟨rfl,l,r,rfl,g1,g2,g3,g4,g5⟩
   dsimp only
   by_cases hge:l≥r
   . rw [AU hge];have:l=r:=by omega
     subst this;exact DU ⟨rfl,l,rfl,g2,g4,g5⟩
   . rw [AR hge];refine BT (L1 H h1 hk hD (by omega) (by omega) ?_)
     by_cases hlt:kk κ (arrOf st') (lo+k)<kk κ (arrOf st') (lo+(l+r) / 2)
     . rw [BG hlt]
       dsimp only
       rw [AU rfl];refine DU ⟨rfl,l,(l+r) / 2,rfl,by omega,by omega,by omega,g4,fun i h6 h7=> ?_⟩;have:=h2 (lo+(l+r) / 2) i (by omega) h6 h7;omega
     . rw [B8 hlt]
       dsimp only
       rw [AR (by simp)];refine DU ⟨rfl,(l+r) / 2+1,r,rfl,by omega,by omega,by omega,fun i h6 h7=> ?_,g5⟩;have:=h2 i (lo+(l+r) / 2) h6 (by omega) (by omega);omega
  case p2=>
   rintro c st' ⟨rfl,l,rfl,g2,g4,g5⟩
   dsimp only
   have hsz:lo+k<(arrOf st').size:=by rw [h1.size];omega
   refine BT (m:=moveDown' (lo+k) (lo+l)) ?_;rw [moveDown'_eq];refine wpS_modify (DU ⟨rfl,h1.set (bubble_perm _ _ _) (gA hsz (by omega) (by omega) (by omega)),?_⟩);rw [show min (k+1) n=k+1 by omega];intro i j h6 h7 h8;show kk κ (bubble (arrOf st') (lo+k) (lo+k - (lo+l))) i<=kk κ (bubble (arrOf st') (lo+k) (lo+k - (lo+l))) j;rw [V4 hsz (by omega),V4 hsz (by omega),show lo+k - (lo+k - (lo+l))=lo+l by omega]
   repeat' split
   all_goals first
    | (exfalso;omega)
    | exact G3 _
    | exact g4 _ (by omega) (by omega)
    | exact LK (g5 _ (by omega) (by omega))
    | exact h2 _ _ (by omega) (by omega) (by omega)
end
end Ts
namespace Ts
open PySem PyProof.Rows
section
variable {prog:Program} {w:World} {A:Around} {E:Value->Shared->Prop} {s:Shared} {kd:SortKind} {D:Keyed->Prop} {κ:Keyed->Int} {st0:SortSt}
theorem OS (H : iG prog w A E s kd D κ) {st : SortSt} {lo nrem a : Nat} (hk : kindOf st0 = kd) (hD : ∀ x ∈ (arrOf st0).toList, D x) (hn : lo + nrem <= (arrOf st0).size) (h1 : 1 <= a) (h2 : a <= nrem) (hS : SE st0 st lo nrem) (hs : Sg κ (arrOf st) lo a) :
 wpS (model prog w) A E s (forIn [a:nrem] ((none,a):Option (Option Nat)×Nat) fun _ c=>do
  let o <-ltAt' (lo+c.2) (lo+c.2 - 1)
  match o with
  | some b=>if b=true then pure (ForInStep.done (none,c.2)) else pure (ForInStep.yield (none,c.2+1))
  | _=>pure (ForInStep.done (some none,c.2))) (fun c st'=>st'=st/\∃n,c=(none,n)/\a<=n/\n<=nrem/\Sg κ (arrOf st) lo n/\(n=nrem\/kk κ (arrOf st) (lo+n)<kk κ (arrOf st) (lo+n - 1))) st:=by
 refine ME (I:=fun y c st'=>st'=st/\c=(none,y)/\Sg κ (arrOf st) lo y) ?s1 ?f1 ⟨rfl,rfl,hs⟩
 case f1=>
  rintro c st' ⟨rfl,rfl,g⟩;rw [show max a nrem=nrem by omega] at g ⊢
  exact ⟨rfl,nrem,rfl,h2,A8 _,g, .inl rfl⟩
 case s1=>
  rintro x c st' hx1 hx2 ⟨rfl,rfl,g⟩
  dsimp only
  refine BT (L1 H hS hk hD (by omega) (by omega) ?_)
  by_cases hlt:kk κ (arrOf st') (lo+x)<kk κ (arrOf st') (lo+x - 1)
  . rw [BG hlt]
    dsimp only
    rw [AU rfl];exact DU ⟨rfl,x,rfl,hx1,by omega,g, .inr hlt⟩
  . rw [B8 hlt]
    dsimp only
    rw [AR (by simp)];refine DU ⟨rfl,rfl,fun i j h3 h4 h5=> ?_⟩
    by_cases hj:j<lo+x
    . exact g i j h3 h4 hj
    . have hj':j=lo+x:=by omega
      subst hj'
      by_cases hi':i=lo+x
      . subst hi';exact G3 _
      . have:=g i (lo+x - 1) h3 (by omega) (by omega);omega
theorem qT (H : iG prog w A E s kd D κ) {st : SortSt} {lo nrem : Nat} {Q : Option Nat -> SortSt -> Prop} (hk : kindOf st0 = kd) (hD : ∀ x ∈ (arrOf st0).toList, D x) (hn : lo + nrem <= (arrOf st0).size) (h1 : 1 <= nrem) (hS : SE st0 st lo nrem)
 (q:∀m st',SE st0 st' lo nrem->1<=m->m<=nrem->Sg κ (arrOf st') lo m->Q (some m) st'):wpS (model prog w) A E s (countRun' lo nrem) Q st:=by
 refine BT (MD (OS H hk hD hn (A8 1) h1 hS (fun i j g1 g2 g3=>by have:i=j:=(by omega);subst this;exact G3 _)) ?p1);rintro c st' ⟨rfl,n,rfl,n1,n2,hG0,hor⟩
 dsimp only
 by_cases e1:n=nrem
 . rw [AU (by simpa using e1)];exact DU (q n st' hS n1 n2 hG0)
 rw [AR (by simpa using e1)];have hlt:kk κ (arrOf st') (lo+n)<kk κ (arrOf st') (lo+n - 1):=hor.resolve_left e1
 by_cases e2:n>1
 . rw [AU     e2];refine BT (L1 H hS hk hD (by omega) (by omega) ?_)
   by_cases hr:kk κ (arrOf st') lo<kk κ (arrOf st') (lo+n - 1)
   . rw [BG hr]
     dsimp only
     rw [AU rfl];exact DU (q n st' hS n1 n2 hG0)
   . rw [B8 hr]
     dsimp only
     rw [AR (by simp)];have hzz:lo+n<=(arrOf st').size:=by rw [hS.size];omega
     have hall:∀k,lo<=k->k<lo+n->kk κ (arrOf st') k=kk κ (arrOf st') (lo+n - 1):=fun k h3 h4=>by
      have a1:=hG0 lo k (by omega) h3 h4;have a2:=hG0 k (lo+n - 1) h3 (by omega) (by omega);omega
     refine BT (JN ?_);have hS2:=hS.set (JO (arrOf st') lo (lo+n) ((lo+n - lo) / 2)) (GF hzz (A8 _) (by omega))
     have hN:Ni κ (arrOf (setArr st' (mirror (arrOf st') lo (lo+n) ((lo+n - lo) / 2)))) lo (n+1):=fun i j h3 h4 h5=>by
      show kk κ (mirror (arrOf st') _ _ _) j<=kk κ (mirror (arrOf st') _ _ _) i;rw [F6 hzz hall,F6 hzz hall]
      by_cases hj:j<lo+n
      . rw [hall i h3 (by omega),hall j (by omega) hj];exact G3 _
      . have hj':j=lo+n:=by omega
        subst hj'
        by_cases hi':i=lo+n
        . subst hi';exact G3 _
        . rw [hall i h3 (by omega)];omega
     clear hall hlt hr hG0 hor hzz;generalize setArr st' (mirror (arrOf st') lo (lo+n) ((lo+n - lo) / 2))=st2 at hS2 hN ⊢
     refine BT (wpS_lift (A59 ⟨rfl,?_⟩))
     refine BT (MD (ME (I:=fun x c st'=>∃nq,c=(none,x,nq)/\SE st0 st' lo nrem/\Ni κ (arrOf st') lo x/\nq+1<=x/\(∀i,lo+x - (nq+1)<=i->i<lo+x->kk κ (arrOf st') i=kk κ (arrOf st') (lo+x - 1)))
      (Q:=fun c st'=>∃m nq,c=(none,m,nq)/\SE st0 st' lo nrem/\1<=m/\m<=nrem/\Ni κ (arrOf st') lo m/\nq+1<=m/\(∀i,lo+m - (nq+1)<=i->i<lo+m->kk κ (arrOf st') i=kk κ (arrOf st') (lo+m - 1))) ?s2 ?f2 ?i2) ?p2)
     case i2=>exact ⟨0,rfl,hS2,hN,by omega,fun i h1 h2=>by congr 1;omega⟩
     case f2=>
      rintro c st' ⟨nq,rfl,g1,g2,g3,g4⟩;rw [show max (n+1) nrem=nrem by omega] at g2 g3 g4 ⊢
      exact ⟨nrem,nq,rfl,g1,h1,A8 _,g2,g3,g4⟩
     case s2=>
      rintro x c st' hx1 hx2 ⟨nq,rfl,g1,g2,g3,g4⟩
      dsimp only
      have hz:lo+x<=(arrOf st').size:=by rw [g1.size];omega
      refine BT (L1 H g1 hk hD (by omega) (by omega) ?_)
      by_cases hlt:kk κ (arrOf st') (lo+x)<kk κ (arrOf st') (lo+x - 1)
      . rw [BG hlt]
        dsimp only
        rw [AU rfl]
        have step:∀xs:Array Keyed,(∀k,kk κ xs k=kk κ (arrOf st') k)->Ni κ xs lo (x+1):=by
         intro xs hxs i j h1 h2 h3;rw [hxs,hxs]
         by_cases hj:j<lo+x
         . exact g2 i j h1 h2 hj
         . have hj':j=lo+x:=by omega
           subst hj'
           by_cases hi':i=lo+x
           . subst hi';exact G3 _
           . have:=g2 i (lo+x - 1) h1 (by omega) (by omega);omega
        by_cases hq:nq>0
        . rw [AU hq];refine BT (JN (DU ⟨0,rfl,g1.set (JO _ _ _ _) (GF hz (by omega) (by omega)),step _ (F6 hz g4),by omega,fun i h1 h2=>by congr 1;omega⟩))
        . rw [AR hq];exact DU ⟨0,rfl,g1,step _ (fun _=>rfl),by omega,fun i h1 h2=>by congr 1;omega⟩
      . rw [B8 hlt]
        dsimp only
        rw [AR (by simp)];refine BT (L1 H g1 hk hD (by omega) (by omega) ?_)
        by_cases hgt:kk κ (arrOf st') (lo+x - 1)<kk κ (arrOf st') (lo+x)
        . rw [BG hgt]
          dsimp only
          rw [AU rfl];exact DU ⟨x,nq,rfl,g1,by omega,by omega,g2,g3,g4⟩
        . rw [B8 hgt]
          dsimp only
          rw [AR (by simp)];have he:kk κ (arrOf st') (lo+x)=kk κ (arrOf st') (lo+x - 1):=by omega
          refine DU ⟨nq+1,rfl,g1,fun i j h1 h2 h3=> ?_,by omega,fun i h1 h2=> ?_⟩
          . by_cases hj:j<lo+x
            . exact g2 i j h1 h2 hj
            . have hj':j=lo+x:=by omega
              subst hj'
              by_cases hi':i=lo+x
              . subst hi';exact G3 _
              . rw [he];exact g2 i (lo+x - 1) h1 (by omega) (by omega)
          . rw [show lo+(x+1) - 1=lo+x by omega]
            by_cases hi':i=lo+x
            . subst hi';rfl
            . rw [he];exact g4 i (by omega) (by omega)
     case p2=>
      rintro c st3 ⟨m,nq,rfl,hS3,m1,m2,hN3,m4,m5⟩
      dsimp only
      have hz0:lo+m<=(arrOf st3).size:=by rw [hS3.size];omega
      by_cases hq:nq>0
      . rw [AU hq];refine BT (JN ?_)
        replace hS3:=hS3.set (JO (arrOf st3) (lo+m - (nq+1)) (lo+m) ((lo+m - (lo+m - (nq+1))) / 2)) (GF hz0 (by omega) (by omega))
        replace hN3:Ni κ (arrOf (setArr st3 (mirror (arrOf st3) (lo+m - (nq+1)) (lo+m) ((lo+m - (lo+m - (nq+1))) / 2)))) lo m:=fun i j h1 h2 h3=>by
         show kk κ (mirror (arrOf st3) _ _ _) j<=kk κ (mirror (arrOf st3) _ _ _) i;rw [F6 hz0 m5,F6 hz0 m5];exact hN3 i j h1 h2 h3
        clear hz0 m5;generalize setArr st3 (mirror (arrOf st3) (lo+m - (nq+1)) (lo+m) ((lo+m - (lo+m - (nq+1))) / 2))=st5 at hS3 hN3 ⊢
        have hz3:lo+m<=(arrOf st5).size:=by rw [hS3.size];omega
        refine BT (JN ?_);have hS4:=hS3.set (JO (arrOf st5) lo (lo+m) ((lo+m - lo) / 2)) (GF hz3 (A8 _) (by omega))
        have hG:Sg κ (mirror (arrOf st5) lo (lo+m) ((lo+m - lo) / 2)) lo m:=fun i j h1 h2 h3=>by
         rw [GG hz3,GG hz3,AU (by omega),AU (by omega)];exact hN3 _ _ (by omega) (by omega) (by omega)
        exact BT (MD (OS H hk hD hn (by omega) (by omega) hS4 hG) fun c st' hc=>by
         obtain ⟨rfl,n',rfl,g1,g2,g3,_⟩:=hc;exact DU (q n' _ hS4 (by omega) g2 g3))
      . rw [AR hq];have hz3:lo+m<=(arrOf st3).size:=by rw [hS3.size];omega
        refine BT (JN ?_);have hS4:=hS3.set (JO (arrOf st3) lo (lo+m) ((lo+m - lo) / 2)) (GF hz3 (A8 _) (by omega))
        have hG:Sg κ (mirror (arrOf st3) lo (lo+m) ((lo+m - lo) / 2)) lo m:=fun i j h1 h2 h3=>by
         rw [GG hz3,GG hz3,AU (by omega),AU (by omega)];exact hN3 _ _ (by omega) (by omega) (by omega)
        exact BT (MD (OS H hk hD hn (by omega) (by omega) hS4 hG) fun c st' hc=>by
         obtain ⟨rfl,n',rfl,g1,g2,g3,_⟩:=hc;exact DU (q n' _ hS4 (by omega) g2 g3))
 . rw [AR e2];have hn1:n=1:=by omega
   have hS2:=hS
   have hN:Ni κ (arrOf st') lo (n+1):=fun i j h3 h4 h5=>by
    by_cases hi':i=j
    . subst hi';exact G3 _
    . have hi0:i=lo:=by omega
      have hj1:j=lo+1:=by omega
      subst hi0;subst hj1;subst hn1;have:i+1 - 1=i:=by omega
      rw [this] at hlt
      omega
   clear hlt hG0 hor;refine BT (wpS_lift (A59 ⟨rfl,?_⟩))
   refine BT (MD (ME (I:=fun x c st'=>∃nq,c=(none,x,nq)/\SE st0 st' lo nrem/\Ni κ (arrOf st') lo x/\nq+1<=x/\(∀i,lo+x - (nq+1)<=i->i<lo+x->kk κ (arrOf st') i=kk κ (arrOf st') (lo+x - 1)))
    (Q:=fun c st'=>∃m nq,c=(none,m,nq)/\SE st0 st' lo nrem/\1<=m/\m<=nrem/\Ni κ (arrOf st') lo m/\nq+1<=m/\(∀i,lo+m - (nq+1)<=i->i<lo+m->kk κ (arrOf st') i=kk κ (arrOf st') (lo+m - 1))) ?s2 ?f2 ?i2) ?p2)
   case i2=>exact ⟨0,rfl,hS2,hN,by omega,fun i h1 h2=>by congr 1;omega⟩
   case f2=>
    rintro c st' ⟨nq,rfl,g1,g2,g3,g4⟩;rw [show max (n+1) nrem=nrem by omega] at g2 g3 g4 ⊢
    exact ⟨nrem,nq,rfl,g1,h1,A8 _,g2,g3,g4⟩
   case s2=>
    rintro x c st' hx1 hx2 ⟨nq,rfl,g1,g2,g3,g4⟩
    dsimp only
    have hz:lo+x<=(arrOf st').size:=by rw [g1.size];omega
    refine BT (L1 H g1 hk hD (by omega) (by omega) ?_)
    by_cases hlt:kk κ (arrOf st') (lo+x)<kk κ (arrOf st') (lo+x - 1)
    . rw [BG hlt]
      dsimp only
      rw [AU rfl]
      have step:∀xs:Array Keyed,(∀k,kk κ xs k=kk κ (arrOf st') k)->Ni κ xs lo (x+1):=by
       intro xs hxs i j h1 h2 h3;rw [hxs,hxs]
       by_cases hj:j<lo+x
       . exact g2 i j h1 h2 hj
       . have hj':j=lo+x:=by omega
         subst hj'
         by_cases hi':i=lo+x
         . subst hi';exact G3 _
         . have:=g2 i (lo+x - 1) h1 (by omega) (by omega);omega
      by_cases hq:nq>0
      . rw [AU hq];refine BT (JN (DU ⟨0,rfl,g1.set (JO _ _ _ _) (GF hz (by omega) (by omega)),step _ (F6 hz g4),by omega,fun i h1 h2=>by congr 1;omega⟩))
      . rw [AR hq];exact DU ⟨0,rfl,g1,step _ (fun _=>rfl),by omega,fun i h1 h2=>by congr 1;omega⟩
    . rw [B8 hlt]
      dsimp only
      rw [AR (by simp)];refine BT (L1 H g1 hk hD (by omega) (by omega) ?_)
      by_cases hgt:kk κ (arrOf st') (lo+x - 1)<kk κ (arrOf st') (lo+x)
      . rw [BG hgt]
        dsimp only
        rw [AU rfl];exact DU ⟨x,nq,rfl,g1,by omega,by omega,g2,g3,g4⟩
      . rw [B8 hgt]
        dsimp only
        rw [AR (by simp)];have he:kk κ (arrOf st') (lo+x)=kk κ (arrOf st') (lo+x - 1):=by omega
        refine DU ⟨nq+1,rfl,g1,fun i j h1 h2 h3=> ?_,by omega,fun i h1 h2=> ?_⟩
        . by_cases hj:j<lo+x
          . exact g2 i j h1 h2 hj
          . have hj':j=lo+x:=by omega
            subst hj'
            by_cases hi':i=lo+x
            . subst hi';exact G3 _
            . rw [he];exact g2 i (lo+x - 1) h1 (by omega) (by omega)
        . rw [show lo+(x+1) - 1=lo+x by omega]
          by_cases hi':i=lo+x
          . subst hi';rfl
          . rw [he];exact g4 i (by omega) (by omega)
   case p2=>
    rintro c st3 ⟨m,nq,rfl,hS3,m1,m2,hN3,m4,m5⟩
    dsimp only
    have hz0:lo+m<=(arrOf st3).size:=by rw [hS3.size];omega
    by_cases hq:nq>0
    . rw [AU hq];refine BT (JN ?_)
      replace hS3:=hS3.set (JO (arrOf st3) (lo+m - (nq+1)) (lo+m) ((lo+m - (lo+m - (nq+1))) / 2)) (GF hz0 (by omega) (by omega))
      replace hN3:Ni κ (arrOf (setArr st3 (mirror (arrOf st3) (lo+m - (nq+1)) (lo+m) ((lo+m - (lo+m - (nq+1))) / 2)))) lo m:=fun i j h1 h2 h3=>by
       show kk κ (mirror (arrOf st3) _ _ _) j<=kk κ (mirror (arrOf st3) _ _ _) i;rw [F6 hz0 m5,F6 hz0 m5];exact hN3 i j h1 h2 h3
      clear hz0 m5;generalize setArr st3 (mirror (arrOf st3) (lo+m - (nq+1)) (lo+m) ((lo+m - (lo+m - (nq+1))) / 2))=st5 at hS3 hN3 ⊢
      have hz3:lo+m<=(arrOf st5).size:=by rw [hS3.size];omega
      refine BT (JN ?_);have hS4:=hS3.set (JO (arrOf st5) lo (lo+m) ((lo+m - lo) / 2)) (GF hz3 (A8 _) (by omega))
      have hG:Sg κ (mirror (arrOf st5) lo (lo+m) ((lo+m - lo) / 2)) lo m:=fun i j h1 h2 h3=>by
       rw [GG hz3,GG hz3,AU (by omega),AU (by omega)];exact hN3 _ _ (by omega) (by omega) (by omega)
      exact BT (MD (OS H hk hD hn (by omega) (by omega) hS4 hG) fun c st' hc=>by
       obtain ⟨rfl,n',rfl,g1,g2,g3,_⟩:=hc;exact DU (q n' _ hS4 (by omega) g2 g3))
    . rw [AR hq];have hz3:lo+m<=(arrOf st3).size:=by rw [hS3.size];omega
      refine BT (JN ?_);have hS4:=hS3.set (JO (arrOf st3) lo (lo+m) ((lo+m - lo) / 2)) (GF hz3 (A8 _) (by omega))
      have hG:Sg κ (mirror (arrOf st3) lo (lo+m) ((lo+m - lo) / 2)) lo m:=fun i j h1 h2 h3=>by
       rw [GG hz3,GG hz3,AU (by omega),AU (by omega)];exact hN3 _ _ (by omega) (by omega) (by omega)
      exact BT (MD (OS H hk hD hn (by omega) (by omega) hS4 hG) fun c st' hc=>by
       obtain ⟨rfl,n',rfl,g1,g2,g3,_⟩:=hc;exact DU (q n' _ hS4 (by omega) g2 g3))
end
end Ts
namespace Ts
open PySem PyProof.Rows
theorem ZQ{n:Nat}(h:1<=n)(h':n<64):minRun' n n 0=n:=by
 obtain ⟨f,rfl⟩:∃f,n=f+1:=⟨n - 1,by omega⟩;rw [minRun'_succ]
 split
 . omega
 . omega
section
variable {κ:Keyed->Int} {arr:Array Keyed} {i j lo n m:Nat}
theorem AC4(h:Sg κ arr lo n){x y:Keyed}(h1:lo<=i)(h2:i<=j)(h3:j<lo+n)(hx:arr[i]? = some x)(hy:arr[j]? = some y):κ x<=κ y:=by
 have:=h i j h1 h2 h3
 rwa [QW hx,QW hy] at this
theorem yT{l:List Keyed}(h:∀(i j:Nat) x y,i<=j->l[i]? = some x->l[j]? = some y->κ x<=κ y):Srt κ l:=by
 refine List.pairwise_iff_getElem.mpr fun i j hi hj hij=>h i j _ _ (by omega) (AD hi) (AD hj)
theorem rR(h:Sg κ arr 0 arr.size):Srt κ arr.toList:=yT fun a b x y hab hx hy=>by
 rw [QN] at hx hy
 exact AC4 h (by omega) hab (by have:=(Array.getElem?_eq_some_iff.mp hy).1;omega) hx hy
end
section
variable {prog:Program} {w:World} {A:Around} {E:Value->Shared->Prop} {s:Shared} {kd:SortKind} {D:Keyed->Prop} {κ:Keyed->Int} {a₀:Array Keyed}
structure SX (kd:SortKind) (a₀:Array Keyed) (st:SortSt):Prop where
 kind:kindOf st=kd
 fail:failedOf st=none
 perm:(arrOf st).Perm a₀
theorem SX.se{st st':SortSt}{lo n:Nat}(h:SX kd a₀ st)(h':SE st st' lo n):SX kd a₀ st':=⟨h'.kind.trans h.kind,h'.fail.trans h.fail,h'.perm.trans h.perm⟩
theorem SX.size{st:SortSt}(h:SX kd a₀ st):(arrOf st).size=a₀.size:=h.perm.size_eq
theorem SX.dom{st:SortSt}(h:SX kd a₀ st)(hD:∀x ∈ a₀.toList,D x):∀x ∈ (arrOf st).toList,D x:=fun x hx=>hD x ((FK.mp h.perm).mem_iff.mp hx)
theorem kW (H : iG prog w A E s kd D κ) {st : SortSt} {Q : Unit -> SortSt -> Prop} (hD : ∀ x ∈ a₀.toList, D x) (hX : SX kd a₀ st) (hp : pendingOf st = #[]) (h2 : 2 <= a₀.size) (h64 : a₀.size < 64)
 (q:∀st',(arrOf st').Perm a₀->failedOf st'=none->Srt κ (arrOf st').toList->Q () st'):wpS (model prog w) A E s sortRuns' Q st:=by
 have r1:=ZQ (n:=a₀.size) (by omega) h64;rw [sortRuns'_eq];refine BT (AH8 ?_)
 dsimp only
 rw [hX.size,r1]
 refine BT (MD (ME
  (I:=fun x c st'=>SX kd a₀ st'/\((x=0/\c=(none,0)/\pendingOf st' = #[])\/(1<=x/\c=(none,a₀.size)/\pendingOf st' = #[(0,a₀.size,0)]/\Sg κ (arrOf st') 0 a₀.size)))
  (Q:=fun c st'=>SX kd a₀ st'/\c=(none,a₀.size)/\pendingOf st' = #[(0,a₀.size,0)]/\Sg κ (arrOf st') 0 a₀.size) ?s1 ?f1 ?i1) ?p1)
 case i1=>exact ⟨hX, .inl ⟨rfl,rfl,hp⟩⟩
 case f1=>
  rintro c st' ⟨hX',(⟨h,_⟩ | ⟨_,rfl,h6,h7⟩)⟩
  . omega
  . exact ⟨hX',rfl,h6,h7⟩
 case p1=>
  rintro c st1 ⟨hX1,rfl,hc1,hc2⟩
  dsimp only
  refine BT (MD (ME
   (I:=fun x c st'=>c=(none,())/\st'=st1)
   (Q:=fun c st'=>c=(none,())/\st'=st1) ?s2 ?f2 ⟨rfl,rfl⟩) ?p2)
  case f2=>exact fun c st' h=>h
  case p2=>
   rintro c st' ⟨rfl,rfl⟩;rw [<-hX1.size] at hc2
   exact DU (q _ hX1.perm hX1.fail (rR hc2))
  case s2=>
   rintro x c st' _ hx ⟨rfl,rfl⟩;refine BT (AH8 ?_);rw [hc1];rw [AU (show #[(0,a₀.size,0)].size<=1 from A8 1)];exact DU ⟨rfl,rfl⟩
 case s1=>
  rintro x c st1 _ hx ⟨hX1,(⟨rfl,rfl,hp1⟩ | ⟨x1,rfl,m5,m6⟩)⟩
  . dsimp only
    rw [AR (by omega)];refine BT (qT H hX1.kind (hX1.dom hD) (by rw [hX1.size];omega) (by omega) SE.rfl' fun m st2 c1 c2 c3 c4=> ?_)
    dsimp only
    have X2:=hX1.se c1;have P2:pendingOf st2 = #[]:=c1.pend.trans hp1
    by_cases hlt:m<a₀.size
    . rw [AU hlt];refine BT (wpS_lift (A59 ⟨rfl,?_⟩));refine BT (tM H X2.kind (X2.dom hD) (by rw [X2.size];omega) (show m<=min (a₀.size - 0) a₀.size by omega) SE.rfl' c4 fun st3 d1 d2=> ?_);have X3:=X2.se d1;have P3:pendingOf st3 = #[]:=d1.pend.trans P2;rw [AR (by simp)];refine BT (AH8 ?_);have hb:(pendingOf st3).back? = none:=by rw [P3];rfl
      rw [hb]
      dsimp only
      have e:min (a₀.size - 0) a₀.size=a₀.size:=by omega
      rw [e] at d2 ⊢
      exact BT (wpS_modify (DU ⟨⟨X3.kind,X3.fail,X3.perm⟩, .inr ⟨by omega,by rw [I9],by show (pendingOf st3).push _=_;rw [P3];rfl,d2⟩⟩))
    . rw [AR hlt];refine BT (AH8 ?_);have hb:(pendingOf st2).back? = none:=by rw [P2];rfl
      rw [hb]
      dsimp only
      have e:m=a₀.size:=by omega
      subst e;exact BT (wpS_modify (DU ⟨⟨X2.kind,X2.fail,X2.perm⟩, .inr ⟨by omega,by rw [I9],by show (pendingOf st2).push _=_;rw [P2];rfl,c4⟩⟩))
  . dsimp only
    rw [AU (A8 _)];exact DU ⟨hX1,rfl,m5,m6⟩
end
end Ts
namespace Ts
open PySem PySem.W PyProof.Rows
theorem UM{α:Type}{p q:α->Bool}:∀ {l:List α},(∀z,p z=true->q z=true)->(∃a ∈ l,q a=true/\p a=false)->l.countP p<l.countP q
 | [],_,⟨a,h,_⟩=>by cases h
 | b::l,h,⟨a,ha,h1,h2⟩=>by
  rw [List.countP_cons,List.countP_cons];have mono:l.countP p<=l.countP q:=A56 fun x _ hx=>h x hx;rcases B7.mp ha with rfl | ha
  . rw [h1,h2];simp;omega
  . have ih:=UM h ⟨a,ha,h1,h2⟩
    by_cases hb:p b=true
    . rw [hb,h b hb];simp;omega
    . rw [AR hb];split <;> omega
def rk(L:List (List Int))(x:List Int):Int:=((L.countP fun z=>decide (z<x):Nat):Int)
theorem vM{L:List (List Int)}{x y:List Int}(hx:x ∈ L)(hy:y ∈ L):decide (rk L x<rk L y)=decide (x<y):=by
 by_cases h:x<y
 . rw [decide_eq_true h];refine decide_eq_true ?_;unfold rk;have:=UM (l:=L) (p:=fun z=>decide (z<x)) (q:=fun z=>decide (z<y)) (fun z hz=>decide_eq_true (List.lt_trans (of_decide_eq_true hz) h)) ⟨x,hx,decide_eq_true h,decide_eq_false (List.lt_irrefl x)⟩;omega
 . rw [decide_eq_false h];refine decide_eq_false ?_;unfold rk
   have:=A56 (l:=L) (p:=fun z=>decide (z<y)) (q:=fun z=>decide (z<x)) fun z _ hz=>by
    have hz:=AE hz;refine BG ?_;exact Decidable.byContradiction fun c=>h (List.lt_of_le_of_lt (List.not_lt.mp c) hz)
   omega
theorem A76{L:List (List Int)}{x y:List Int}(hx:x ∈ L)(hy:y ∈ L)(h:rk L x<=rk L y):x<=y:=by
 have e:=vM hy hx;refine List.not_lt.mp fun c=> ?_;rw [BG c] at e
 have:=AE e;omega
theorem tO(x:Int)(xs:List Int):decide (x::xs<([]:List Int))=false:=B8 (List.not_lt_nil _)
theorem A02(x:Int)(xs ys:List Int):decide (x::xs<x::ys)=decide (xs<ys):=IA.mpr ⟨fun h=>(JR.mp h).elim (fun h=>absurd h (Int.lt_irrefl _)) fun h=>h.2,fun h=>JR.mpr (.inr ⟨rfl,h⟩)⟩
theorem A46{x y:Int}(he:x≠y)(xs ys:List Int):decide (x::xs<y::ys)=decide (x<y):=IA.mpr ⟨fun h=>(JR.mp h).elim (fun h=>h) fun h=>absurd h.1 he,fun h=>JR.mpr (.inl h)⟩
def Tup(h:Heap)(v:Value)(ns:List Int):Prop:=∃a o xs n,v = .ref a/\h.get? a=some o/\o.cls = .type "tuple" /\ o.data = .seq xs n/\IntsAre xs.toList ns
theorem oA:∀ {us:List Value} {ns ms:List Int},IntsAre us ns->IntsAre us ms->ns=ms:=fun h1 h2=>by rw [<-h1.nums, <-h2.nums]
theorem Tup.inj{h:Heap}{v:Value}{ns ms:List Int}(h1:Tup h v ns)(h2:Tup h v ms):ns=ms:=by
 obtain ⟨a,o,xs,n,rfl,e1,_,e2,e3⟩:=h1;obtain ⟨a',o',xs',n',e0,e1',_,e2',e3'⟩:=h2
 cases e0
 rw [e1] at e1'
 cases e1'
 rw [e2] at e2'
 cases e2'
 exact oA e3 e3'
section
variable {prog:Program} {w:World} {A:Around} {E:Value->Shared->Prop} {s:Shared}
theorem oW{Q:Bool->Shared->Prop}{fin:Bool}:∀ {us ws:List Value} {xs ys:List Int} (i:Nat),IntsAre us xs->IntsAre ws ys->fin=decide (xs.length<ys.length)->Q (decide (xs<ys)) s->KatLex prog w A true fin Q (us.zip ws) i s
 | _,_,_,_,i, .nil, .nil,hf,q=>by
  refine kat_nil ?_
  rw [hf];exact q
 | _,_,_,_,i, .nil, .cons y u r,hf,q=>by
  refine kat_nil ?_
  rw [hf];exact q
 | _,_,_,_,i, .cons x t r, .nil,hf,q=>by
  refine kat_nil ?_;rw [hf];rw [tO] at q
  exact q
 | _,_,_,_,i, .cons x t r, .cons y u r',hf,q=>by
  refine kat_cons (wpAny_eqBool_int (kat_go (fun he=>kat_yes ?_) fun he=>kat_no ?_))
  . have he:x=y:=by simpa using he
    subst he;refine oW (i+1) r r' (by rw [hf];simp) ?_;rw [A02] at q
    exact q
  . have he:x≠y:=by simpa using he
    rw [A46 he] at q
    cases hi:(true && i==0)
    . exact kat_one _ _ (PyProof.Rows.lt_int q)
    . exact oneLt_int q
end
end Ts
namespace Ts
open PySem PySem.W PyProof.Rows
open Classical in
noncomputable def nsOf(h:Heap)(v:Value):List Int:=if e:∃ns,Tup h v ns then e.choose else []
theorem nsOf_eq{h:Heap}{v:Value}{ns:List Int}(t:Tup h v ns):nsOf h v=ns:=by
 have e:∃ns,Tup h v ns:=⟨ns,t⟩;unfold nsOf;rw [dif_pos e];exact e.choose_spec.inj t
section
variable {prog:Program} {w:World} {A:Around} {E:Value->Shared->Prop} {s:Shared}
theorem kQ:∀ {l:List (List Int)},l.length<2->l.Pairwise (· <= ·)
 | [],_=>N8
 | [_],_=>IY _ _
 | _::_::_,h=>by simp only [B9] at h;omega
theorem lH(L:List (List Int)):iG prog w A E s (tuples' true) (fun x=>∃ns,Tup s.heap x.1 ns/\ns ∈ L) (fun x=>rk L (nsOf s.heap x.1)):=fun x y st Q hk dx dy q=>by
 obtain ⟨ns,tx,mx⟩:=dx;obtain ⟨ms,ty,my⟩:=dy;have q':Q (some (decide (rk L (nsOf s.heap x.1)<rk L (nsOf s.heap y.1)))) st:=q
 have e:decide (rk L (nsOf s.heap x.1)<rk L (nsOf s.heap y.1))=decide (ns<ms):=by
  have e1:=nsOf_eq tx;have e2:=nsOf_eq ty;rw [<-vM mx my, <-e1, <-e2]
 rw [e] at q'
 rw [lt'_eq];refine BT (AH8 ?_);rw [hk];obtain ⟨a,o,xs,n,ex,e1,_,e2,e3⟩:=tx;obtain ⟨a',o',xs',n',ey,e1',_,e2',e3'⟩:=ty;rw [ex,ey];have l1:xs.size=ns.length:=by rw [<-F4, <-e3.nums,A4]
 have l2:xs'.size=ms.length:=by rw [<-F4, <-e3'.nums,A4]
 refine BT (wpS_lift (AE1 (kat_lt e1 e2 e1' e2' (oW 0 e3 e3' (by rw [l1,l2]) ⟨rfl,?_⟩))));exact DU q'
theorem dL{h:Heap}:∀ {vs:List Value},(∀v ∈ vs,∃ns,Tup h v ns/\ns ≠ [])->∃fs,KatTups h vs fs/\fs.length=vs.length/\∀v ∈ fs,∃i t,v=Value.int i t
 | [],_=>⟨[],KatTups.nil,rfl,fun v hv=>by cases hv⟩
 | v::vs,r=>by
  obtain ⟨fs,h1,h2,h3⟩:=dL fun v hv=>r v (AN _ hv);obtain ⟨ns,t,hn⟩:=r v B5;obtain ⟨a,o,xs,n,rfl,e1,e0,e2,e3⟩:=t
  have:∃i u,xs[0]? = some (Value.int i u):=by
   rw [<-QN];generalize xs.toList=ys at e3
   cases e3 with
   | nil=>exact absurd rfl hn
   | cons i u _=>exact ⟨i,u,rfl⟩
  obtain ⟨i,u,e⟩:=this;refine ⟨.int i u::fs,KatTups.cons e1 e0 e2 e h1,by simp [h2],fun v hv=> ?_⟩;rcases B7.mp hv with rfl | hv
  . exact ⟨i,u,rfl⟩
  . exact h3 v hv
theorem j9{vs:List Value}(r:∀v ∈ vs,∃ns,Tup s.heap v ns/\ns ≠ [])(h0:0<vs.length){Q:SortKind->Shared->Prop}(q:Q (tuples' true) s):wpAny (model prog w) A (keyKind' vs.toArray) Q E s:=by
 obtain ⟨fs,h1,h2,h3⟩:=dL r;refine kat_kind (T:= .type "int") h1 (by omega) (fun v hv=> ?_) (by rfl) (by exact q);obtain ⟨i,t,rfl⟩:=h3 v hv;exact .now
theorem U3 {a : Addr} {vs : List Value} {n : Nat} {P : PySem.Fin -> Shared -> Prop} (ho : s.heap.get? a = some (seqObj "list" vs.toArray n))
 (r:∀v ∈ vs,∃ns,Tup s.heap v ns/\ns ≠ []) (hl:vs.length<64)
 (h:∀out:Array Value,out.toList.Perm vs->(out.toList.map (nsOf s.heap)).Pairwise (· <= ·)->P (.done (.ret .none)) {s with heap:=sortedHeap s.heap a vs out}) :
 wpAny (model prog w) A (Builtin.«list.sort» ⟨[.ref a], []⟩) P E s := by
 rw [list_sort_plain];have ha:a<s.heap.objs.size:=AV ho;refine A7 (listItems_at ho rfl ?_);refine A7 (listUpdate_at ho rfl ?_ (by rw [AF,QC];omega) (DF _));obtain ⟨e1,ho1⟩:∃e1,(s.heap.update a (Obj.mapSeq fun _=> #[])).get? a=some (seqObj "list" #[] e1):=⟨_,get?_update_seq ho (fun _=> #[])⟩;refine A7 (seqEpoch_at ho1 rfl ?_);refine A7 (wpAny_newTuple ?_ (by show vs.length<=_;rw [QC];omega));refine A7 (wpAny_newList ?_ (DF _));refine FT ?_;have ho6:(((s.heap.update a (Obj.mapSeq fun _=> #[])).push (seqObj "tuple" vs.toArray 0)).push (seqObj "list" #[] 0)).get? a=some (seqObj "list" #[] e1):=A3 _ (A3 _ ho1)
 have keep:∀v ns,Tup s.heap v ns->Tup (((s.heap.update a (Obj.mapSeq fun _=> #[])).push (seqObj "tuple" vs.toArray 0)).push (seqObj "list" #[] 0)) v ns:=fun v ns t=>by
  obtain ⟨b,o,xs,k,rfl,t1,t2,t3,t4⟩:=t
  have hb:b≠a:=fun e=>by
   subst e;rw [ho] at t1
   cases t1
   simp at t2
  exact ⟨b,o,xs,k,rfl,A3 _ (A3 _ (by rw [Heap.get?_update_ne _ _ _ _ hb];exact t1)),t2,t3,t4⟩
 show wpAny (model prog w) A _ P E {s with heap:=((s.heap.update a (Obj.mapSeq fun _=> #[])).push (seqObj "tuple" vs.toArray 0)).push (seqObj "list" #[] 0)}
 dsimp only
 have fin : ∀ st' : SortSt, (arrOf st').Perm (pairsOf vs) -> (((arrOf st').map (·.2)).toList.map (nsOf s.heap)).Pairwise (· <= ·) ->
  P (.done (.ret .none)) {s with heap:=sortedHeap s.heap a vs ((arrOf st').map (·.2))}:=fun st' hp hs=>by
  refine h _ ?_ hs;have:=((FK.mp hp).map (·.2));rw [pairsOf_toList] at this
  rw [Array.toList_map];refine this.trans (List.Perm.of_eq ?_);exact List.map_snd_zip (A8 _)
 by_cases h2:vs.toArray.size<2
 . rw [AU h2,AU h2];refine A7 (AS ?_);rw [StateT.run_pure];refine A7 (AS ?_)
   dsimp only
   refine A7 (seqEpoch_at ho6 rfl ?_);refine A7 (listUpdate_at ho6 rfl ?_ (DF _) (by rw [j4];show (pairsOf vs).size<=_;rw [bN,QC];omega));simp only [AF8,VA,HJ];refine AS (fin (SortSt.mk' general' (vs.toArray.zip vs.toArray) #[] 7 none) (fS _) ?_);have hz:vs.length<2:=by rwa [AF] at h2
   refine kQ ?_;rw [A4,F4,j4];show (pairsOf vs).size<2;rw [bN];exact hz
 . rw [AR h2,AR h2];have hz:2<=vs.length:=by rw [AF] at h2;omega
   refine A7 (j9 (fun v hv=>let ⟨ns,t,hn⟩:=r v hv;⟨ns,keep v ns t,hn⟩) (by omega) ?_);have hmem:∀x ∈ (pairsOf vs).toList,x.1=x.2/\x.1 ∈ vs:=fun x hx=>by rw [pairsOf_toList] at hx;exact mem_zip_self hx
   refine A7 (HF (kW (lH (vs.map (nsOf s.heap))) (a₀:=pairsOf vs) (st:=SortSt.mk' (tuples' true) (vs.toArray.zip vs.toArray) #[] 7 none)
    (Q:=fun _ st'=>(arrOf st').Perm (pairsOf vs)/\failedOf st'=none/\(((arrOf st').map (·.2)).toList.map (nsOf s.heap)).Pairwise (· <= ·))
    (fun x hx=>by
     obtain ⟨_,hv⟩:=hmem x hx;obtain ⟨ns,t,hn⟩:=r x.1 hv;exact ⟨ns,keep _ _ t,BK.mpr ⟨x.1,hv,nsOf_eq t⟩⟩)
    ⟨rfl,rfl,fS _⟩ rfl (by rw [bN];exact hz) (by rw [bN];exact hl) fun st' a1 a2 a3=>⟨a1,a2,?_⟩) ?_ fun _ _ e=>e)
   . rw [Array.toList_map,E1,WU];refine pS (fun {x y} hx hy hxy=> ?_) a3;obtain ⟨ex,vx⟩:=hmem x ((FK.mp a1).mem_iff.mp hx);obtain ⟨ey,vy⟩:=hmem y ((FK.mp a1).mem_iff.mp hy);obtain ⟨ns,tx,_⟩:=r x.1 vx;obtain ⟨ms,ty,_⟩:=r y.1 vy;show nsOf s.heap x.2<=nsOf s.heap y.2;rw [<-ex, <-ey];refine A76 (L:=vs.map (nsOf s.heap)) (BK.mpr ⟨_,vx,rfl⟩) (BK.mpr ⟨_,vy,rfl⟩) ?_;rw [nsOf_eq tx,nsOf_eq ty];have hxy':=hxy
     dsimp only at hxy'
     rwa [nsOf_eq (keep _ _ tx),nsOf_eq (keep _ _ ty)] at hxy'
   . rintro ⟨⟨⟩,st'⟩ s' ⟨rfl,hp,hf,hs⟩
     dsimp only
     refine A7 (seqEpoch_at ho6 rfl ?_);refine A7 (listUpdate_at ho6 rfl ?_ (DF _) (by refine AY (WP ((j4 ..).trans (hp.size_eq.trans (bN _)))) ?_;rw [QC];omega));rw [hf];simp only [AF8,VA,HJ];exact AS (fin st' hp hs)
theorem sorted_tup {l : Addr} {vs : List Value} {Q : Value -> Shared -> Prop} (hl : s.heap.IsList l vs.toArray) (r : ∀ v ∈ vs, ∃ ns, Tup s.heap v ns /\ ns ≠ []) (h64 : vs.length < 64)
 (h:∀out:Array Value,out.toList.Perm vs->(out.toList.map (nsOf s.heap)).Pairwise (· <= ·)->Q (.ref (s.heap.objs.size+1)) {s with heap:=sortedAll s.heap vs out}) :
 wpAny (model prog w) A (call (.builtin "sorted") [.ref l]) Q E s:=by
 refine Calls.call_function_entry kind_sorted plain_sorted entry_sorted (args_sorted1 _) ?_;unfold Builtin.«sorted»;refine wpAny_bind (m:=checkCount "sorted" 1 1 _) (wpAny_pure ?_);refine wpAny_bind (collect_list hl ?_ (by rw [sizeLine_eq];omega));refine wpAny_bind (wpAny_newList ?_ (by rw [sizeLine_eq];omega))
 have hsz:((s.heap.push (seqObj "list" #[] 0)).update s.heap.objs.size (Obj.mapSeq (· ++ vs.toArray))).objs.size=s.heap.objs.size+1:=by
  rw [Heap.size_update,size_push']
 have hoL:(((s.heap.push (seqObj "list" #[] 0)).update s.heap.objs.size (Obj.mapSeq (· ++ vs.toArray))).push (seqObj "list" vs.toArray 0)).get? (s.heap.objs.size+1)=some (seqObj "list" vs.toArray 0):=by
  rw [<-hsz];exact AW _ rfl
 have keep:∀b o,s.heap.get? b=some o->(((s.heap.push (seqObj "list" #[] 0)).update s.heap.objs.size (Obj.mapSeq (· ++ vs.toArray))).push (seqObj "list" vs.toArray 0)).get? b=some o:=fun b o q=>by
  have hlt:b<s.heap.objs.size:=AV q;rw [Heap.get?_push_ne _ _ _ (by rw [hsz];exact D2 (WS hlt)),Heap.get?_update_ne _ _ _ _ (D2 hlt),Heap.get?_push_ne _ _ _ (D2 hlt)];exact q
 have keepT:∀v ns,Tup s.heap v ns->Tup (((s.heap.push (seqObj "list" #[] 0)).update s.heap.objs.size (Obj.mapSeq (· ++ vs.toArray))).push (seqObj "list" vs.toArray 0)) v ns:=fun v ns t=>by
  obtain ⟨b,o,xs,k,rfl,t1,t2,t3,t4⟩:=t;exact ⟨b,o,xs,k,rfl,keep _ _ t1,t2,t3,t4⟩
 show wpAny _ _ _ _ _ {s with heap:=((s.heap.push (seqObj "list" #[] 0)).update s.heap.objs.size (Obj.mapSeq (· ++ vs.toArray))).push (seqObj "list" vs.toArray 0)};rw [hsz];refine A7 (FT (IU slot_list_sort ⟨_,hoL,rfl⟩ entry_list_sort (U3 hoL (fun v hv=>let ⟨ns,t,hn⟩:=r v hv;⟨ns,keepT v ns t,hn⟩) h64 fun out a1 a2=>⟨_,rfl,?_⟩) (args_list_sort _)));refine AS ⟨_,rfl,h out a1 ?_⟩
 have e:out.toList.map (nsOf s.heap)=out.toList.map (nsOf (((s.heap.push (seqObj "list" #[] 0)).update s.heap.objs.size (Obj.mapSeq (· ++ vs.toArray))).push (seqObj "list" vs.toArray 0))):=C7 fun v hv=>by
  obtain ⟨ns,t,_⟩:=r v (a1.mem_iff.mp hv);rw [nsOf_eq t,nsOf_eq (keepT v ns t)]
 rw [e];exact a2
end
end Ts
namespace Tf
open PySem PySem.Spec PyProof.Rows L2
def tI(ns:List Int):PyData:= .tuple (ns.map .int)
def unI:PyData->List Int
 | .tuple ds=>ds.map fun d=>match d with | .int i=>i | _=>0
 | _=> []
theorem A42(ns:List Int):unI (tI ns)=ns:=by
 show (ns.map PyData.int).map (fun d=>match d with | .int i=>i | _=>0)=ns;rw [E1];exact (C7 fun x _=>rfl).trans (A60 _)
def RL(nss:List (List Int)):List (List Int):=nss.mergeSort fun a b=>decide (a<=b)
theorem ML(ns:List (List Int)):(RL ns).Perm ns:=List.mergeSort_perm _ _
theorem i0(ns:List (List Int)):(RL ns).Pairwise (· <= ·):=by
 have:=List.pairwise_mergeSort (le:=fun a b:List Int=>decide (a<=b)) (fun a b c h1 h2=>BG (List.le_trans (AE h1) (AE h2))) (fun a b=>by
  rcases List.le_total a b with h | h
  . rw [BG h];rfl
  . rw [BG h,WW]) ns
 exact this.imp fun h=>AE h
theorem rB{ns ns':List (List Int)}(h:ns'.Perm ns)(p:ns'.Pairwise (· <= ·)):ns'=RL ns:=
 List.Perm.eq_of_pairwise (fun a b _ _ h1 h2=>List.le_antisymm h1 h2) p (i0 ns) (h.trans (ML ns).symm)
theorem AB0{K:PySem.W.Frag}{its out:List Value}(h:its.Perm out):∀ {vs:List V} {ds:List PyData},Vals vs its->ds.length=its.length->∃vs' ds',Vals vs' out/\ds'.Perm ds/\(∀H1,Reps K H1 vs ds->Reps K H1 vs' ds'):=by
 induction h with
 | nil=>
  intro vs ds r hl
  cases r
  exact ⟨[],ds, .nil,List.Perm.refl _,fun _ h=>h⟩
 | cons x _ ih=>
  intro vs ds r hl
  cases r with
  | cons r1 r2=>
   match ds,hl with
   | d::ds,hl=>
    obtain ⟨vs',ds',h1,h2,h3⟩:=ih r2 (by simpa using hl);refine ⟨_,d::ds', .cons r1 h1,h2.cons d,fun H1 h=> ?_⟩
    cases h with
    | cons g1 g2=>exact .cons g1 (h3 H1 g2)
 | swap x y l=>
  intro vs ds r hl
  cases r with
  | cons r1 r2=>cases r2 with
   | cons r2 r3=>
    match ds,hl with
    | d::e::ds,hl=>
     refine ⟨_,e::d::ds, .cons r2 (.cons r1 r3),List.Perm.swap _ _ _,fun H1 h=> ?_⟩
     cases h with
     | cons g1 g2=>cases g2 with
      | cons g2 g3=>exact .cons g2 (.cons g1 g3)
 | trans h1 _ ih1 ih2=>
  intro vs ds r hl;obtain ⟨vs1,ds1,a1,a2,a3⟩:=ih1 r hl;obtain ⟨vs2,ds2,b1,b2,b3⟩:=ih2 a1 (by rw [a2.length_eq,hl,h1.length_eq]);exact ⟨vs2,ds2,b1,b2.trans a2,fun H1 h=>b3 H1 (a3 H1 h)⟩
variable {X:Cx}
theorem TC{K:PySem.W.Frag}{H:Hp}:∀ {vs:List V} {ns:List Int},Reps K H vs (ns.map PyData.int)->vs=ns.map V.int
 | _,[], .nil=>rfl
 | _,n::ns, .cons h t=>by
  cases h
  rw [TC t];rfl
theorem kR{pins:List (Addr×Obj)}{s:Shared}{σ:L2.St}{H:Hp}{v:V}{u:Value}{ns:List Int}(I:Inv X pins σ H s)(h:Rep X.K H v (tI ns))(r:RelV v u):Ts.Tup s.heap u ns:=by
 unfold tI at h
 cases h with
 | tuple h1 h2=>
  rw [TC h2] at h1
  obtain ⟨its,rv,⟨o,e1,e2,n,e3⟩,_⟩:=I.tuple h1
  cases r
  exact ⟨_,o,_,n,rfl,e1,e2,e3,OL rv⟩
theorem eQ{pins:List (Addr×Obj)}{s:Shared}{σ:L2.St}{H:Hp}(I:Inv X pins σ H s):∀ {vs:List V} {us:List Value} {nss:List (List Int)},Reps X.K H vs (nss.map tI)->Vals vs us->(∀ns ∈ nss,ns ≠ [])->∀u ∈ us,∃ns,Ts.Tup s.heap u ns/\ns ≠ []
 | _,_,[], .nil, .nil,_,u,hu=>by cases hu
 | _,_,ns::nss, .cons h t, .cons r rs,hn,u,hu=>by
  rcases B7.mp hu with rfl | hu
  . exact ⟨ns,kR I h r,hn ns B5⟩
  . exact eQ I t rs (fun m hm=>hn m (AN _ hm)) u hu
theorem bX{pins:List (Addr×Obj)}{s:Shared}{σ:L2.St}{H:Hp}(I:Inv X pins σ H s):∀ {vs:List V} {us:List Value} {ds:List PyData},Reps X.K H vs ds->Vals vs us->(∀d ∈ ds,∃ns,d=tI ns)->ds=(us.map (Ts.nsOf s.heap)).map tI
 | _,_,_, .nil, .nil,_=>rfl
 | _,_,_, .cons h t, .cons r rs,hd=>by
  obtain ⟨ns,rfl⟩:=hd _ B5;rw [BN,BN,Ts.nsOf_eq (kR I h r), <-bX I t rs fun d hm=>hd d (AN _ hm)]
theorem LA:LF X (.builtin "sorted") (fun xs H Q=>∃a vs nss,xs = [V.ref a]/\SqL X.K H a vs/\Reps X.K H vs (nss.map tI)/\(∀ns ∈ nss,ns ≠ [])/\nss.length<64/\∀p,H p=none->∀vs',(∀H1,Reps X.K H1 vs (nss.map tI)->Reps X.K H1 vs' ((RL nss).map tI))->Q (.ref p) (upd H p (.lst vs'))):=by
 intro pins s σ H xs us Q I r h;obtain ⟨a,vs,nss,rfl,hq,hr,hn,hl,q⟩:=h;obtain ⟨u,rfl,ru⟩:=LD r
 cases ru
 obtain ⟨its,rv,p1,hz⟩:=I.list hq;have l:=rv.length;have l2:=hr.length;rw [A4] at l2
 refine Ts.sorted_tup p1.isList (eQ I hr rv hn) (by omega) fun out a1 a2=> ?_;obtain ⟨vs',ds',b1,b2,b3⟩:=AB0 (K:=X.K) a1.symm rv (ds:=nss.map tI) (by rw [A4];omega)
 have e1:ds'=(out.toList.map (Ts.nsOf s.heap)).map tI:=bX I (b3 H hr) b1 fun d hd=>by
  obtain ⟨ns,_,e⟩:=BK.mp (b2.mem_iff.mp hd);exact ⟨ns,e.symm⟩
 have e2:out.toList.map (Ts.nsOf s.heap)=RL nss:=by
  refine rB ?_ a2;have:=b2.map unI
  have un:∀l:List (List Int),(l.map tI).map unI=l:=fun l=>by
   rw [E1,show (unI ∘ tI)=id from funext A42,A60]
  rwa [e1,un,un] at this
 rw [e2] at e1
 subst e1;obtain ⟨e,he⟩:=sortedAll_at s.heap its out;refine ⟨.ref (s.heap.objs.size+1),_,I.laid (a:=s.heap.objs.size+1) (o:= .lst vs') (t':=s.toks) (fun b o z=>sortedAll_old z) (R8 _) ⟨?_,out.toList,e,b1,?_⟩,rfl,q _ (I.hok.fresh (R8 _)) vs' b3⟩
 . have:=(b3 H hr).length;rw [A4,(ML nss).length_eq] at this
   rw [this];exact GI (Nat.lt_trans hl (by decide))
 . rw [he]
end Tf
namespace Dm
open PySem PySem.Spec PyProof.Rows L2 Tf
def NU:List PyData->Option (List (List Int))
 | []=>some []
 | .tuple ds::r=>(HW ds).bind fun ns=>if ns = [] then none else (NU r).bind fun nss=>some (ns::nss)
 | _::_=>none
theorem UW:∀ {ds:List PyData} {nss:List (List Int)},NU ds=some nss->ds=nss.map tI/\∀ns ∈ nss,ns ≠ []
 | [],nss,h=>by cases h;exact ⟨rfl,fun _ h=>by cases h⟩
 | d::r,nss,h=>by
  cases d with
  | tuple ds=>
   unfold NU at h
   obtain ⟨ns,h1,h⟩:=A0.mp h
   split at h
   . cases h
   . rename_i hne;obtain ⟨ms,h2,h⟩:=A0.mp h
     cases h
     obtain ⟨e1,e2⟩:=UW h2;refine ⟨?_,fun m hm=> ?_⟩
     . rw [BN,e1,MQ h1];rfl
     . rcases B7.mp hm with rfl | hm
       . exact hne
       . exact e2 m hm
  | _=>cases h
theorem SL:∀ {nss:List (List Int)},(∀ns ∈ nss,ns ≠ [])->NU (nss.map tI)=some nss
 | [],_=>rfl
 | ns::nss,h=>by
  show ((HW (ns.map PyData.int)).bind fun ns=>if ns = [] then none else (NU (nss.map tI)).bind fun nss=>some (ns::nss))=_;rw [KZ,BV,AR (h ns B5),SL fun m hm=>h m (AN _ hm)];rfl
def dSortT:List Sl->Option Sl
 | [s]=>match s.dat with
  | .list ds=>(NU ds).bind fun nss=>if nss.length<64 then some (.own ((RL nss).map tI)) else none
  | _=>none
 | _=>none
section
variable {K:PySem.W.Frag}
theorem S4:LW K (fun xs H Q=>∃a vs nss,xs = [V.ref a]/\SqL K H a vs/\Reps K H vs (nss.map tI)/\(∀ns ∈ nss,ns ≠ [])/\nss.length<64/\∀p,H p=none->∀vs',(∀H1,Reps K H1 vs (nss.map tI)->Reps K H1 vs' ((RL nss).map tI))->Q (.ref p) (upd H p (.lst vs'))) dSortT:=fun H0 H vs ss z s p hz Q q=>by
 unfold dSortT at hz
 split at hz
 . obtain ⟨v,rfl,pa⟩:=HY p
   split at hz
   . rename_i ds hd;obtain ⟨nss,hn,hz⟩:=A0.mp hz
     split at hz
     . rename_i hl
       cases hz
       obtain ⟨a,vs,rfl,h1,h2⟩:=pa.lst s hd;obtain ⟨e1,e2⟩:=UW hn;rw [e1] at h2
       refine ⟨a,vs,nss,rfl,h1,Reps.same s h2,e2,hl,fun b hb vs' p1=> ?_⟩;exact q _ _ _ (Ext.alloc s hb _) ⟨b,_,rfl,hb,s.free hb,C9,p1 _ h2⟩
     . cases hz
   . cases hz
 . cases hz
end
end Dm
namespace Tf
open PySem PySem.Spec PyProof.Rows L2
theorem Q3:fillsNumberSlot (.type "tuple") "mul" = pure false:=
 PySem.fillsNumberSlot_seq (id:= "tuple.__mul__") (r:=some (.builtin "tuple.__rmul__")) PySem.F.slot_tuple_mul.lookup (by decide +kernel) PySem.F.slot_tuple_rmul.lookup (by decide +kernel)
theorem VY:seqRepeat? (.type "tuple")=pure (some (.builtin "tuple.__mul__")):=by
 unfold seqRepeat?;rw [PySem.seqSlot_of (T:= "tuple") (name:= "__mul__") (id:= "tuple.__mul__") PySem.F.slot_tuple_mul.lookup (by decide +kernel),PySem.seqSlot_of (T:= "tuple") (name:= "__rmul__") (id:= "tuple.__rmul__") PySem.F.slot_tuple_rmul.lookup (by decide +kernel)];rfl
theorem jK (a : Int) (t : Tok) (l : Addr) (items : Array Value) (n : Nat) (dd : Option Addr) (sl : Array (Option Value)) :
 Meets (Builtin.«int.__rmul__» ⟨[.int a t, .ref l], []⟩) (fun _ R s => s.heap.get? l = some { cls := .type "tuple", dict := dd, data := .seq items n, slots := sl } /\ R (.ok (.ret Value.notImplemented)) s) :=
 .of_wp fun prog w A R s h=>by obtain ⟨hp,g,d,tk,os⟩:=s;obtain ⟨hl,h⟩:=h;wp_walk;exact ⟨_,rfl,h⟩
theorem jC (l : Addr) (items : Array Value) (n : Nat) (dd : Option Addr) (sl : Array (Option Value)) (u : Tok) :
 Meets (Builtin.«tuple.__mul__» ⟨[.ref l, .int 1 u], []⟩) (fun _ R s => s.heap.get? l = some { cls := .type "tuple", dict := dd, data := .seq items n, slots := sl } /\ R (.ok (.ret (Value.ref l))) { s with heap := s.heap, toks := s.toks }) :=
 .of_wp fun prog w A R s h=>by
  obtain ⟨hp,g,d,tk,os⟩:=s;obtain ⟨hl,h⟩:=h;have f1:=AutoSeq1.idx_int
  wp_walk using wG hl
  exact ⟨_,rfl,h⟩
theorem pI (l : Addr) (items : Array Value) (n : Nat) (dd : Option Addr) (sl : Array (Option Value)) (k : Int) (u : Tok) (h0 : ¬ (decide (k < -(2 ^ 63)) || decide (k ≥ 2 ^ 63)) = true) (h1 : ¬ (items.isEmpty || k == 1) = true) (h2 : ¬ (decide (k <= 0) || items.isEmpty) = true) (h3 : ¬ ((items.size : Int) * k > (2 ^ 63 - 1) / 8)) (h4 : ¬ Builtin.Tuple.tupleTooMany ((items.size : Int) * k) = true) (h5 : ¬ (List.foldl (fun x1 x2 => x1 ++ x2) #[] (List.replicate k.toNat items)).size > sizeLine) :
 Meets (Builtin.«tuple.__mul__» ⟨[.ref l, .int k u], []⟩) (fun _ R s => s.heap.get? l = some { cls := .type "tuple", dict := dd, data := .seq items n, slots := sl } /\ R (.ok (.ret (Value.ref s.heap.objs.size))) { s with heap := s.heap.push { cls := Value.type "tuple", data := Data.seq (List.foldl (fun x1 x2 => x1 ++ x2) #[] (List.replicate k.toNat items)) }, toks := s.toks }) :=
 .of_wp fun prog w A R s h=>by
  obtain ⟨hp,g,d,tk,os⟩:=s;obtain ⟨hl,h⟩:=h;have f1:=AutoSeq1.idx_int
  wp_walk using wG hl
  rw [AR h0];refine A7 (wpAny_tupleItemsOf hl rfl ?_)
  dsimp only
  rw [AR h1,AR h2,AR h3,AR h4]
  wp_walk using wG hl
  exact ⟨_,rfl,h⟩
theorem UI{α:Type}(xs:List α):∀(k:Nat) (acc:Array α),List.foldl (fun x1 x2=>x1++x2) acc (List.replicate k xs.toArray)=(acc.toList++(List.replicate k xs).flatten).toArray
 | 0,acc=>by simp
 | k+1,acc=>by
  rw [C6,fP,UI xs k,C6,EI];simp
theorem YL{α:Type}(xs:List α)(k:Nat):(List.replicate k xs).flatten.length=xs.length*k:=by
 rw [cD,G1]
section
variable {prog:Program} {w:World} {A:Around} {E:Value->Shared->Prop} {s:Shared}
theorem tW {t : Addr} {vs : List Value} {k : Nat} {u : Tok} {Q : Value -> Shared -> Prop} (ht : IsTup s.heap t vs.toArray) (hv : vs ≠ []) (hk : 1 <= k) (hk2 : k <= 1000) (hz : vs.length * k <= 100000)
 (h1:k=1->Q (.ref t) s) (h2:k≠1->Q (.ref s.heap.objs.size) {s with heap:=s.heap.push {cls:= .type "tuple",data:= .seq (List.replicate k vs).flatten.toArray} }):wpAny (model prog w) A (binaryOp .Mult (.ref t) (.int (k:Int) u)) Q E s:=by
 obtain ⟨⟨cls,dd,data,sl⟩,ho,hc,n,hd⟩:=id ht;simp only at hc hd
 subst hc hd;have hsl:100000<=sizeLine:=by decide
 refine AD1 (T:= "tuple") (U:= "int") (by decide) ⟨_,ho,rfl⟩ (fun s'=>fO s' k u) Q3 F.fills_int_mul U8 VY F.slot_int_index.lookup
  (LI U8 (fO s k u) F.entry_int_rmul (F.args_int_rmul_2 _ _) (jK k u t vs.toArray n dd sl) ⟨ho,rfl,⟨_,ho,rfl⟩,?_⟩)
 by_cases h:k=1
 . subst h;exact LI F.slot_tuple_mul ⟨_,ho,rfl⟩ F.entry_tuple_mul (F.args_tuple_mul_2 _ _) (jC t vs.toArray n dd sl u) ⟨ho,h1 rfl⟩
 . have he : vs.toArray.isEmpty = false := by
    cases vs with
    | nil=>exact absurd rfl hv
    | cons a r=>rfl
   have ef:List.foldl (fun x1 x2=>x1++x2) #[] (List.replicate ((k:Int).toNat) vs.toArray)=(List.replicate k vs).flatten.toArray:=by
    rw [FZ,UI];simp
   have hm:(vs.toArray.size:Int)*(k:Int)<=100000:=by
    rw [AF, <-KQ];omega
   refine LI F.slot_tuple_mul ⟨_,ho,rfl⟩ F.entry_tuple_mul (F.args_tuple_mul_2 _ _) (pI t vs.toArray n dd sl k u ?_ ?_ ?_ ?_ ?_ ?_) ⟨ho,?_⟩
   . simp only [Bool.or_eq_true,H9];omega
   . rw [he];simp only [Bool.false_or,DY];omega
   . rw [he];simp only [Bool.or_false,H9];omega
   . omega
   . unfold Builtin.Tuple.tupleTooMany;simp only [decide_eq_true_eq];omega
   . rw [ef,AF,YL];omega
   . rw [ef];exact h2 h
end
variable {X:Cx}
def vH(K:PySem.W.Frag):R2:=fun x y H Q=>∃(l:Addr) (k:Nat) (xs:List V),x = .ref l/\y = .int (k:Int)/\SqT K H l xs/\xs ≠ []/\1<=k/\k<=1000/\xs.length*k<=1000/\(k=1->Q (.ref l) H)/\(k≠1->∀p,H p=none->Q (.ref p) (upd H p (.tup (List.replicate k xs).flatten)))
theorem rH:OpR X (binaryOp .Mult) (vH X.K):=by
 intro pins s σ H x y v u Q I rx ry h;obtain ⟨l,k,xs,rfl,rfl,hH,hx,k1,k2,hz,q1,q2⟩:=h
 cases rx
 obtain ⟨t,rfl⟩:=ry;obtain ⟨its,r,p1,_⟩:=I.tuple hH;have hl:=r.length;have hsl:100000<=sizeLine:=by decide
 refine tW p1 (fun e=>hx (by subst e;exact (r.nil_iff).mp rfl)) k1 k2 (by rw [<-hl];omega) (fun h=>⟨.ref l,H,I,rfl,q1 h⟩) fun h=> ?_;exact ⟨.ref _,_,I.laid (a:=s.heap.objs.size) (o:= .tup (List.replicate k xs).flatten) (t':=s.toks) (fun _ _ q=>A3 _ q) (A8 _) ⟨by rw [YL];omega,_,r.rep k,⟨_,AW _ rfl,rfl,0,rfl⟩⟩,rfl,q2 h _ I.fresh⟩
end Tf
namespace Dm
open PySem PySem.Spec PyProof.Rows L2 Tf
def dRepT(a b:Sl):Option Sl:=match a.dat,b.dat with
 | .tuple xs, .int k=>if xs ≠ []/\1<=k/\k<=1000/\xs.length*k.toNat<=1000 then some (.val (.tuple (List.replicate k.toNat xs).flatten)) else none
 | _,_=>none
theorem p0{K:PySem.W.Frag}:OpD K (vH K) dRepT:=fun H0 H x y sx sy z s px py hz Q q=>by
 unfold dRepT at hz
 split at hz
 . rename_i xs k e1 e2
   split at hz
   . rename_i hl;obtain ⟨h0,h1,h2,h3⟩:=hl
     cases hz
     obtain ⟨a,vs,rfl,g1,g2⟩:=px.tup e1
     cases py.atom e2 (fun _ h=>nomatch h)
     obtain ⟨n,rfl⟩:∃n:Nat,k=(n:Int):=⟨k.toNat,by omega⟩;rw [FZ] at h3 q
     refine ⟨a,n,vs,rfl,rfl,s.seqT g1,fun e=>h0 (by subst e;cases g2;rfl),by omega,by omega,by rw [g2.length];exact h3,fun e=> ?_,fun e p hp=> ?_⟩
     . subst e;refine q _ _ _ (Ext.refl s) ?_;have er:(List.replicate 1 xs).flatten=xs:=by simp
       rw [er];exact .tuple g1 g2
     . exact q _ _ _ (Ext.allocF s hp _) (.tuple (SqT.of C9) (Reps.same (Same.upd (s.free hp) _) (Reps.rep g2 n)))
   . cases hz
 . cases hz
section
variable {X:Cx} {R:Rl} [RelOk X.K R] {a b:Expr} {fa fb:En->Option Sl} {pos:Pos}
theorem bV(ha:DP X R a fa)(hb:DP X R b fb):DE X R (.BinOp a .Mult b pos) (mBin dRepT fa fb):=UX rH p0 ha hb
end
end Dm
namespace Dm
open PySem PySem.Spec PyProof.Rows L2 Tf
section
variable {K:PySem.W.Frag} {R:Rl} [RelOk K R]
end
section
variable {X:Cx} {R:Rl} [RelOk X.K R] {a:Expr} {pos p:Pos} {fs:En->Option (List PyData)}
end
section
variable {K:PySem.W.Frag} {R:Rl} [RelOk K R]
def sR(fa fb:En->Option Sl):En->Option Sl:=fun ρ=>((fa ρ).bind XN).bind fun a=>((fb ρ).bind XN).bind fun b=>if 0<=a/\a<=b/\b<=1000 then some (.own ((List.range (b - a).toNat).map fun k:Nat=> .int (a+(k:Int)))) else none
def AC8(ta tb:TE):TE:=fun σ H Q=>ta σ H fun x H1=>tb σ H1 fun y H2=>∃(a b:Int),x = .int a/\y = .int b/\0<=a/\a<=b/\b<=1000/\∀p,H2 p=none->Q (.ref p) (upd H2 p (.lst ((List.range (b - a).toNat).map fun k:Nat=>V.int (a+(k:Int)))))
theorem UE{H:Hp}{a:Int}:∀ks:List Nat,Reps K H (ks.map fun k:Nat=>V.int (a+(k:Int))) (ks.map fun k:Nat=> .int (a+(k:Int)))
 | []=> .nil
 | k::ks=> .cons (.int _) (UE ks)
theorem A39{ta tb:TE}{fa fb:En->Option Sl}(hA:RP K R ta fa)(hB:RP K R tb fb):RE K R (AC8 ta tb) (sR fa fb):=fun HB σ ρ H0 H s e z hz Q q=>by
 obtain ⟨a,ha,hz⟩:=A0.mp hz;obtain ⟨b,hb,hz⟩:=A0.mp hz;obtain ⟨s1,e1,ha⟩:=A0.mp ha;obtain ⟨s2,e2,hb⟩:=A0.mp hb;have ha:=NZ ha;have hb:=NZ hb;subst ha hb
 split at hz
 . rename_i h0
   cases hz
   refine hA HB σ ρ H0 H s e _ e1 _ fun w H1 J1 x1 p1=> ?_;refine hB HB σ ρ H1 J1 x1.s1 (e.ext (K:=K) x1) _ e2 _ fun w2 H2 J2 x2 p2=>⟨a,b,p1.int,p2.int,h0.1,h0.2.1,h0.2.2,fun l hp=> ?_⟩;have x12:=x1.trans x2;exact q _ _ _ (x12.trans (Ext.alloc x12.s1 hp _)) ⟨l,_,rfl,x12.s.free hp,x12.s1.free hp,C9,UE _⟩
 . cases hz
end
section
variable {X:Cx} {R:Rl} [RelOk X.K R] {a b:Expr} {es:List Expr} {pos p1 p2 pos2 px ps1 ps2:Pos} {fa fb:En->Option Sl} {gg:List (PyData->En->Option En)} {x:Str} {ta tb:TE}
theorem TZ (hml : X.mg "list" = none) (hmr : X.mg "range" = none) (ha : PE X a ta) (hb : PE X b tb) (hgl : Gl X "list" := by rfl) (hgr : Gl X "range" := by rfl) (hc : X.calm = true := by rfl)
 (hs1:starEach [.Call (.Name "range" p2) [a,b] [] pos2] X.env=(false,eval (.Call (.Name "range" p2) [a,b] [] pos2) X.env)::starEach [] X.env:=by rfl) (hs0:(backTo pos (starEach [] X.env)).any (·.1)=false:=by rfl) (hs2:backTo pos (starEach [] X.env) = []:=by rfl)
 (hsa:starEach [a,b] X.env=(false,eval a X.env)::starEach [b] X.env:=by rfl) (hsb:starEach [b] X.env=(false,eval b X.env)::starEach [] X.env:=by rfl) (hs3:(backTo pos2 (starEach [b] X.env)).any (·.1)=false:=by rfl):PE X (.Call (.Name "list" p1) [.Call (.Name "range" p2) [a,b] [] pos2] [] pos) (AC8 ta tb):=by
 intro pins s σ H Q I h;refine Call_ (HS I hgl hml OY (BD ?_ hs1 hs0));rw [hs1];show wpAny _ _ (spliced ((false,eval (.Call (.Name "range" p2) [a,b] [] pos2) X.env)::backTo pos (starEach [] X.env))) _ _ s;rw [hs2];refine O8 ?_;refine Call_ (HS I hgr hmr SK (BD (thn (K3 ha (K3 hb NW hsb) hsa pos2 pins s σ H (fun vs H1=>∃(a b:Int),vs = [.int a, .int b]/\0<=a/\a<=b/\b<=1000/\∀p,H1 p=none->Q (.ref p) (upd H1 p (.lst ((List.range (b - a).toNat).map fun k:Nat=>V.int (a+(k:Int)))))) I ?_) fun us s1 ⟨vs,H1,I1,r1,q1⟩ => ?_) hsa hs3))
 . have h:ta σ H fun x H1=>tb σ H1 fun y H2=>∃(a b:Int),x = .int a/\y = .int b/\0<=a/\a<=b/\b<=1000/\∀p,H2 p=none->Q (.ref p) (upd H2 p (.lst ((List.range (b - a).toNat).map fun k:Nat=>V.int (a+(k:Int))))):=h;refine (show ta σ H (fun x H1=>tb σ H1 fun y H2=>∃(a b:Int),[x,y] = [V.int a,V.int b]/\0<=a/\a<=b/\b<=1000/\∀p,H2 p=none->Q (.ref p) (upd H2 p (.lst ((List.range (b - a).toNat).map fun k:Nat=>V.int (a+(k:Int)))))) from ?_)
   have e:(fun (x:V) (H1:Hp)=>tb σ H1 fun y H2=>∃(a b:Int),[x,y] = [V.int a,V.int b]/\0<=a/\a<=b/\b<=1000/\∀p,H2 p=none->Q (.ref p) (upd H2 p (.lst ((List.range (b - a).toNat).map fun k:Nat=>V.int (a+(k:Int))))))=fun x H1=>tb σ H1 fun y H2=>∃(a b:Int),x = .int a/\y = .int b/\0<=a/\a<=b/\b<=1000/\∀p,H2 p=none->Q (.ref p) (upd H2 p (.lst ((List.range (b - a).toNat).map fun k:Nat=>V.int (a+(k:Int))))):=by
    funext x H1;congr 1
    funext y H2;simp only [List.cons.injEq,and_true,and_assoc]
   rw [e];exact h
 obtain ⟨a',b',e,h1,h2,h3,q⟩:=q1;subst e
 cases r1 with
 | cons r rr=>
  cases rr with
  | cons r2 rr=>
   cases rr
   obtain ⟨t,rfl⟩:=r;obtain ⟨t2,rfl⟩:=r2;refine call_range_2 ?_;refine QD ?_
   let s2:Shared:={s1 with heap:=s1.heap.push {cls:= .type "range",data:= .fields #[.int a' t, .int b' t2, .int 1 s1.toks]},toks:=s1.toks+1}
   have I2:Inv X pins σ H1 s2:=I1.kept fun b o e=>A3 _ e;refine call_list_range (s:=s2) (n:=(b' - a').toNat) (I1.ok.hd hc) (AH3 ..) (small_one (by omega) (by omega) (by omega) (by omega)) (by rw [rangeSize_one];split <;> omega) (by omega) fun h' tk acc' c' hk hS' hacc=> ?_;have hs:=hacc.1;refine ⟨.ref s2.heap.objs.size,_,I2.laid (t':=tk) (o:= .lst ((List.range (b' - a').toNat).map fun k:Nat=>V.int (a'+(k:Int)))) hk (A8 _) ?_,rfl,q _ (I2.hok.fresh (A8 _))⟩
   refine ⟨by rw [A4, AI]; have : 1000 <= sizeLine := by decide
              omega,acc'.toList,c',W5 (by rw [A4,AI,F4,hs]) fun j x u g1 g2=> ?_,by simpa using hS'⟩
   rw [B3] at g1
   obtain ⟨k,hk1,hk2⟩:=B0.mp g1;obtain ⟨hj,ej⟩:=AX.mp hk1;rw [AE0] at ej
   subst ej hk2;obtain ⟨tk',e⟩:=hacc.2 j u (by simpa using g2);subst e;exact ⟨tk',by simp⟩
theorem A22 (hml : X.mg "list" = none) (hmr : X.mg "range" = none) (ha : DP X R a fa) (hb : DP X R b fb) (hgl : Gl X "list" := by rfl) (hgr : Gl X "range" := by rfl) (hc : X.calm = true := by rfl)
 (hs1:starEach [.Call (.Name "range" p2) [a,b] [] pos2] X.env=(false,eval (.Call (.Name "range" p2) [a,b] [] pos2) X.env)::starEach [] X.env:=by rfl) (hs0:(backTo pos (starEach [] X.env)).any (·.1)=false:=by rfl) (hs2:backTo pos (starEach [] X.env) = []:=by rfl)
 (hsa:starEach [a,b] X.env=(false,eval a X.env)::starEach [b] X.env:=by rfl) (hsb:starEach [b] X.env=(false,eval b X.env)::starEach [] X.env:=by rfl) (hs3:(backTo pos2 (starEach [b] X.env)).any (·.1)=false:=by rfl):DE X R (.Call (.Name "list" p1) [.Call (.Name "range" p2) [a,b] [] pos2] [] pos) (sR fa fb):=by
 obtain ⟨t,h1,h2⟩:=ha;obtain ⟨u,h3,h4⟩:=hb;exact ⟨_,TZ hml hmr h1 h3 hgl hgr hc hs1 hs0 hs2 hsa hsb hs3,A39 h2 h4⟩
end
end Dm
namespace Tf
open PySem PySem.Spec PyProof.Rows L2
section
variable {prog:Program} {w:World} {A:Around} {E:Value->Shared->Prop} {s:Shared}
theorem XZ {l : Addr} {a b : Value} {Q : List Value -> Shared -> Prop} (hh : A.handled = none) (hl : s.heap.IsList l #[a, b])
 (q:∀h',Heap.ExtBut s.heap.objs.size s.heap h'->Q [a,b] {s with heap:=h' }):wpAny (model prog w) A (unpackItems (.ref l) 2 none) Q E s:=by
 unfold unpackItems;refine wpAny_bind ?_;unfold notIterableAtAll;refine wpAny_bind (wpAny_specialOf hl.typeIs F.slot_list_iter.lookup ?_);refine wpAny_pure ?_;show wpAny _ _ (holding [.ref l] (pyIter (.ref l)) >>= _) _ _ s;refine wpAny_bind (wpAny_holding (wpAny_pyIter_list hl ?_))
 have hne:l≠s.heap.objs.size:=by
  obtain ⟨o,h1,h2⟩:=hl;exact D2 (AV h1)
 have keep:∀ {h h':Heap},h.IsList l #[a,b]->(∀c o,c≠s.heap.objs.size->h.get? c=some o->h'.get? c=some o)->h'.IsList l #[a,b]:=fun {h h'} x k=>by
  obtain ⟨o,h1,h2⟩:=x;exact ⟨o,k l _ hne h1,h2⟩
 have l0:(s.heap.push {cls:= .type "list_iterator",data:= .fields #[.ref l, .int 0 0]}).IsList l #[a,b]:=by
  obtain ⟨o,h1,h2⟩:=hl;exact ⟨o,A3 _ h1,h2⟩
 have it0:(s.heap.push {cls:= .type "list_iterator",data:= .fields #[.ref l, .int 0 0]}).IsListIter s.heap.objs.size l 0:=⟨_,AW _ rfl,rfl,rfl⟩;show wpAny _ _ (holding [.ref s.heap.objs.size] (draw (.ref s.heap.objs.size) 2) >>= _) _ _ _;refine A7 (FT ?_);rw [draw];refine A7 (TQ (x:=a) it0 l0 rfl fun h2 it1 sb1=> ?_);have l1:=keep l0 sb1.extBut;show wpAny _ _ (holding [a] (draw (.ref s.heap.objs.size) 1) >>= _) _ _ _;refine A7 (FT ?_);rw [draw];refine A7 (TQ (x:=b) it1 l1 rfl fun h3 it2 sb2=> ?_);have l2:=keep l1 sb2.extBut;show wpAny _ _ (holding [b] (draw (.ref s.heap.objs.size) 0) >>= _) _ _ _;refine A7 (FT ?_);rw [draw];refine AS (AS (AS ?_));show wpAny _ _ (holding [a,b] (pyNext (.ref s.heap.objs.size)) >>= _) _ _ _;refine A7 (FT (AG8 hh it2 l2 rfl fun h4 ex=> ?_));show wpAny _ _ (pure [a,b]) _ _ _;refine AS (q _ fun c o hc e=> ?_);exact ex c o hc (sb2.extBut c o hc (sb1.extBut c o hc (A3 _ e)))
theorem VD {env : Env} {elts : List Expr} {x1 : Nat} {pos : Pos} {l : Addr} {a b : Value} {Q : Unit -> Shared -> Prop} (hh : A.handled = none) (hl : s.heap.IsList l #[a, b]) (hn : (assignEach elts env).length = 2) (hst : (assignEach elts env).findIdx? (·.1) = none)
 (q:∀h',Heap.ExtBut s.heap.objs.size s.heap h'->wpAny (model prog w) A (assignInOrder ((assignEach elts env).map (·.2)) [a,b]) Q E {s with heap:=h' }):wpAny (model prog w) A (assign (.Tuple elts x1 pos) env (.ref l)) Q E s:=by
 rw [assign];refine wpAny_bind (wpAny_standAt ?_);unfold unpack;rw [hn,hst];exact wpAny_bind (wpAny_holding (XZ hh hl q))
end
section
variable {X:Cx} {pos:Pos}
def v7(K:PySem.W.Frag)(t:TGs):TG:=fun v σ H Q=>∃p xs,v = .ref p/\SqL K H p xs/\xs.length=2/\t xs σ H Q
theorem uC {es : List Expr} {k : Nat} {t : TGs} (hc : X.calm = true) (h : PGs X es t)
 (hn:(assignEach es X.env).length=2:=by rfl) (hst:(assignEach es X.env).findIdx? (·.1)=none:=by rfl):PG X (.Tuple es k pos) (v7 X.K t):=by
 intro pins s σ H v u Q I r hw;obtain ⟨a,xs,e1,hq,hl,hw⟩:=hw;subst e1
 cases r
 obtain ⟨its,rv,pl,hz⟩:=I.list hq;have li:its.length=2:=by rw [<-rv.length];exact hl
 obtain ⟨x,y,rfl⟩:∃x y,its = [x,y]:=by
  match its,li with
  | [x,y],_=>exact ⟨x,y,rfl⟩
 refine VD (I.ok.hd hc) pl.isList hn hst fun h' hx=> ?_;have I1:Inv X pins σ H {s with heap:=h' }:=I.kept (t':=s.toks) fun b o e=>hx b o (D2 (AV e)) e;exact h pins _ σ H xs _ Q I1 rv hw
end
end Tf
namespace Dm
open PySem PySem.Spec PyProof.Rows L2 Tf
section
variable {K:PySem.W.Frag} {R:Rl} [RelOk K R]
def bS(gs:List (PyData->En->Option En)):PyData->En->Option En:=fun d ρ=>match d with
 | .list ds=>if ds.length=2 then gsAll gs ds ρ else none
 | _=>none
theorem qL{g:TGs}{gs:List (PyData->En->Option En)}(h:RGs K R g gs):RG K R (v7 K g) (bS gs):=fun HB σ ρ ρ' H0 H v d s sb e r hd Q q=>by
 unfold bS at hd
 split at hd
 . split at hd
   . rename_i ds hl
     cases r with
     | list r1 r2=>exact ⟨_,_,rfl,s.seq r1,by rw [r2.length,hl],h HB σ ρ ρ' H0 H _ _ s sb e r2 hd Q q⟩
   . cases hd
 . cases hd
def mNever:En->Option Out:=fun _=>none
theorem oU:RS K R tNever mNever:=fun HB S0 σ ρ H0 H x e o ho D d=>by cases ho
end
section
variable {X:Cx} {R:Rl} [RelOk X.K R] {es:List Expr} {pos:Pos} {gg:List (PyData->En->Option En)} {st:Stmt}
theorem oZ:DS X R st mNever:=⟨_,oY,oU⟩
theorem r6{k}(h:DGs X R es gg)(hc:X.calm=true:=by rfl)(hn:(assignEach es X.env).length=2:=by rfl)(hst:(assignEach es X.env).findIdx? (·.1)=none:=by rfl):DG X R (.Tuple es k pos) (bS gg):=by
 obtain ⟨t,h1,h2⟩:=h;exact ⟨_,uC hc h1 hn hst,qL h2⟩
end
end Dm
namespace Dm
open PySem PySem.Spec PyProof.Rows L2 Tf
structure OR (C:Addr) (names:List Str) (H:Hp) (p:Addr) (vals:L2.St):Prop where
 len:vals.length=names.length
 ins:∃dx fs,H p=some (.ins C dx fs)/\(∀(j:Nat) f,names[j]? = some f->fs.lookup f=(vals[j]?).join)/\∀f,f ∉ names->fs.lookup f=none
section
variable {K:PySem.W.Frag} {C:Addr} {names:List Str}
theorem OR.same{H H':Hp}{p:Addr}{vals:L2.St}(x:Same H H')(o:OR C names H p vals):OR C names H' p vals:=by
 obtain ⟨dx,fs,h1,h2⟩:=o.ins;exact ⟨o.len,dx,fs,x _ _ h1,h2⟩
theorem OR.other{H:Hp}{p a:Addr}{vals:L2.St}{vs:List V}{u:HO}(o:OR C names H p vals)(h:H a=some (.lst vs)):OR C names (upd H a u) p vals:=by
 obtain ⟨dx,fs,h1,h2⟩:=o.ins;have hne:p≠a:=by rintro rfl;rw [h1] at h;cases h
 exact ⟨o.len,dx,fs,by rw [BQ hne];exact h1,h2⟩
def FO(K:PySem.W.Frag)(od:OD):Rl:=
 ⟨fun HB H0 H σ ρ=>σ.length=od.n/\∃vals,σ[od.s]? = some (some (.ref od.p))/\OR od.C od.names H od.p vals/\ER K HB H0 H (σ++vals) ρ,fun i=>i≠od.s/\i<od.n⟩
instance relOk_FO {od:OD}:RelOk K (FO K od) where
 ext:=fun x ⟨h1,vals,h2,h3,h4⟩=>⟨h1,vals,h2,h3.same x.s,h4.ext x⟩
 get:=fun ⟨h1,vals,h2,h3,h4⟩ hs h=>by
  obtain ⟨v,e1,e2⟩:=h4.get _ _ h;rw [A9 (by rw [h1];exact hs.2)] at e1
  exact ⟨v,e1,e2⟩
 set:=fun {HB H0 H H0' H' σ ρ i v s} ⟨h1,vals,h2,h3,h4⟩ hs x sb h=>by
  refine ⟨by rw [EE];exact h1,vals,by rw [AT hs.1];exact h2,h3.same x.s,?_⟩;have:=h4.set (i:=i) x sb h;rw [cF (by rw [h1];exact hs.2)] at this
  exact this
 write:=fun {HB H0 H σ ρ i a ds es vs ys} ⟨h1,vals,h2,h3,h4⟩ hs hi hσ hb h0 ha hr=>by
  refine ⟨h1,vals,h2,h3.other ha,?_⟩;exact h4.write hi (by rw [A9 (by rw [h1];exact hs.2)];exact hσ) hb h0 hr
 frz:=fun ⟨h1,vals,h2,h3,h4⟩ _ hi x=>by
  obtain ⟨a,vs,ha,x',e'⟩:=h4.frz hi x;exact ⟨_,x',h1,vals,h2,h3,e'⟩
variable {od:OD}
theorem qN {HB H0 H : Hp} {σ : L2.St} {ρ : En} {j : Nat} {f : Str} {r : Sl} (e : ST (FO K od) HB H0 H σ ρ) (hj : od.names[j]? = some f) (h : ρ[od.n + j]? = some (some r)) :
 ∃dx fs v,σ[od.s]? = some (some (.ref od.p))/\H od.p=some (.ins od.C dx fs)/\fs.lookup f=some v/\SlH K HB H0 H v r:=by
 obtain ⟨h1,vals,h2,h3,h4⟩:=e.r;obtain ⟨v,e1,e2⟩:=h4.get _ _ h;rw [<-h1,A6 (CZ _ _),CQ] at e1
 obtain ⟨dx,fs,q1,q3,q4⟩:=h3.ins;exact ⟨dx,fs,v,h2,q1,by rw [q3 j f hj,e1];rfl,e2⟩
theorem s9{j:Nat}{f:Str}(hc:Cls K od.C)(hn:NoAttr K od.C f)(hj:od.names[j]? = some f):RP K (FO K od) (iT K (MY od.s) f) (mPk (od.n+j)):=fun HB σ ρ H0 H s e r hr Q q=>by
 obtain ⟨dx,fs,v,h1,h2,h3,h4⟩:=qN e hj (join_some hr);exact ⟨.ref od.p,h1,od.p,od.C,dx,fs,v,rfl,h2,hc,hn,h3,q v H0 H (Ext.refl s) h4.p⟩
def spR(K:PySem.W.Frag)(C:Addr)(names:List Str)(F:List PyData->List PyData->Option Sl):Sp:=fun vs H Q _=>∃H0 p fv fd ds r vs',vs = .ref p::vs'/\Same H0 H/\OR C names H p (fv.map some)/\Reps K H0 fv fd/\Reps K H0 vs' ds/\F fd ds=some r /\
 ∀v H0' H',Ext H0 H H0' H'->SlH K H H0' H' v r->Q v H'
def c0:Sl->Bool
 | .val (.int _)=>true
 | .val (.bool _)=>true
 | .val .none=>true
 | .val (.str _)=>true
 | .own ds=>(HW ds).isSome
 | _=>false
theorem aG{HB H0 H H0':Hp}{v:V}(hs:∀a,HB a=none->H0' a=none):∀ {r:Sl},c0 r=true->SlH K HB H0 H v r->SlH K HB H0' H v r
 | .val (.int i),_,h=>by cases (show Rep K H0 v (.int i) from h);exact Rep.int i
 | .val (.bool i),_,h=>by cases (show Rep K H0 v (.bool i) from h);exact Rep.bool i
 | .val .none,_,h=>by cases (show Rep K H0 v .none from h);exact Rep.none
 | .val (.str i),_,h=>by cases (show Rep K H0 v (.str i) from h);exact Rep.str i
 | .own ds,hf,⟨a,vs,e,h1,h2,h3,h4⟩=>by
  refine ⟨a,vs,e,h1,hs a h1,h3,?_⟩;obtain ⟨ns,hn⟩:=pN.mp (show (HW ds).isSome=true from hf);rw [MQ hn] at h4 ⊢
  cases Q7 h4
  have allI:∀ns:List Int,Reps K H0' (ns.map V.int) (ns.map .int):=fun ns=>by
   induction ns with
   | nil=>exact .nil
   | cons n r ih=>exact .cons (.int n) ih
  exact allI ns
def Q0:En->Option (List PyData)
 | []=>some []
 | some (.dct _)::_=>none
 | some s::r=>(Q0 r).map (s.dat :: ·)
 | none::_=>none
theorem V6{s:Sl}{r:En}{fd:List PyData}(h:Q0 (some s::r)=some fd):(∀k,s ≠ .dct k)/\(Q0 r).map (s.dat :: ·)=some fd:=by
 cases s with
 | val d=>exact ⟨(by intro k z;cases z),h⟩
 | own d=>exact ⟨(by intro k z;cases z),h⟩
 | dct d=>cases h
def O0(n:Nat)(F:List PyData->List PyData->Option Sl)(fa:En->Option (List PyData)):En->Option Sl:=fun ρ=>(fa ρ).bind fun ds=>(Q0 (ρ.drop n)).bind fun fd=>(F fd ds).bind fun r=>if c0 r=true then some r else none
theorem dY {HB H0 H : Hp} : ∀ {vals : L2.St} {φ : En} {fd : List PyData}, vals.length = φ.length -> (∀ (j : Nat) s, φ[j]? = some (some s) -> ∃ v, vals[j]? = some (some v) /\ SlH K HB H0 H v s) -> Q0 φ = some fd -> Same H0 H ->
 ∃H0c fv,Same H0 H0c/\Same H0c H/\vals=fv.map some/\Reps K H0c fv fd
 | [],[],fd,_,_,h,s=>by cases h;exact ⟨H0,[],Same.refl _,s,rfl, .nil⟩
 | _::_,[],_,hl,_,_,_=>by cases hl
 | [],_::_,_,hl,_,_,_=>by cases hl
 | ov::vals,none::φ,fd,hl,hg,h,s=>by cases h
 | ov::vals,some sl::φ,fd,hl,hg,h,s=>by
  obtain ⟨fd',h1,rfl⟩:=B0.mp (V6 h).2;obtain ⟨v,e1,e2⟩:=hg 0 sl rfl
  cases (show ov=some v from B6 e1)
  obtain ⟨H0c,fv,a1,a2,a3,a4⟩:=dY (vals:=vals) (φ:=φ) (fd:=fd') (by simpa using hl) (fun j s hj=>hg (j+1) s (by simpa using hj)) h1 s
  cases sl with
  | val d=>exact ⟨H0c,v::fv,a1,a2,by rw [a3];rfl, .cons (Rep.same a1 e2) a4⟩
  | dct ds=>exact absurd rfl ((V6 h).1 ds)
  | own ds=>
   obtain ⟨a,vs,rfl,g1,g2,g3,g4⟩:=e2
   cases ha:H0c a with
   | none=>
    have s1:Same H0c (upd H0c a (.lst vs)):=Same.upd ha _;refine ⟨upd H0c a (.lst vs), .ref a::fv,a1.trans s1,fun b u e=> ?_,by rw [a3];rfl, .cons (.list (SqL.of C9) (Reps.same (a1.trans s1) g4)) (Reps.same s1 a4)⟩
    by_cases hb:b=a
    . subst hb;rw [C9] at e;rw [g3];exact e
    . rw [BQ hb] at e;exact a2 b u e
   | some u=>
    have:=a2 a u ha;rw [g3] at this
    cases this
    exact ⟨H0c, .ref a::fv,a1,a2,by rw [a3];rfl, .cons (.list (SqL.of ha) (Reps.same a1 g4)) a4⟩
theorem nP{ta:TA}{fa:En->Option (List PyData)}{F:List PyData->List PyData->Option Sl}{m:Str}{E:XK}(hm:m ∉ od.names)(h:RA K (FR K od) ta fa):RE K (FR K od) (fI od.C m (spR K od.C od.names F) [] E (MY od.s) ta) (O0 od.n F fa):=fun HB σ ρ H0 H s e r hr Q q=>by
 obtain ⟨ds,hd,hr⟩:=A0.mp hr;obtain ⟨fd,hfd,hr⟩:=A0.mp hr;obtain ⟨r',hF,hr⟩:=A0.mp hr
 split at hr
 . rename_i hflat
   cases hr
   obtain ⟨h1,p,vals,hpp,h2,h3,h4⟩:=e.r;obtain ⟨dx,fs,q1,q2,q3,q4⟩:=h3.ins;refine ⟨.ref p,h2,p,dx,fs,rfl,q1,q4 m hm,?_⟩;refine h HB σ ρ H0 H s e ds hd _ fun vs H1 J1 x1 p1=> ?_;rw [DK];have e4:=h4.ext x1
   obtain ⟨H0c,fv,a1,a2,a3,a4⟩:=dY (K:=K) (HB:=HB) (H0:=H1) (H:=J1) (vals:=vals) (φ:=ρ.drop od.n) (fd:=fd) (by rw [OB, <-e4.len,AO,h1];omega) (fun j s hj=>by
    rw [GJ] at hj
    obtain ⟨v,k1,k2⟩:=e4.get _ _ hj;rw [<-h1,A6 (CZ _ _),CQ] at k1
    exact ⟨v,k1,k2⟩) hfd x1.s1
   refine ⟨H0c,p,fv,fd,ds,r,vs,rfl,a2,⟨by rw [<-a3];exact h3.len,dx,fs,x1.s _ _ q1,by rw [<-a3];exact q3,q4⟩,a4,Reps.same a1 p1,hF,fun v H2 J2 x2 p2=> ?_⟩;have x3:Ext H1 J1 H1 J2:=⟨x2.s,Same.refl _,x1.s1.trans x2.s,fun _ _ _ _ h=>h⟩;exact q v H1 J2 (x1.trans x3) ((aG (fun a ha=>x1.s1.free ha) hflat p2).base x1.s)
 . cases hr
def iW(n m k:Nat)(g:En->Option Out):List PyData->List PyData->Option Sl:=fun fd ds=>if ds.length+1=m/\fd.length=k then (g ((none::ds.map (fun d=>some (.val d)))++List.replicate (n - (ds.length+1)) none++fd.map (fun d=>some (.val d)))).bind fun o=>match o with
 | .rt r _=>some r
 | .nx _=>some (.val .none)
 | _=>none else none
section
variable {P:Program} {w:World} {mg:Str->Option Value} {base:Heap}
theorem r9{HB H0 H:Hp}{fv:List V}{fd:List PyData}(h:Reps K H0 fv fd):ER K HB H0 H (fv.map some) (fd.map fun d=>some (.val d)) :=
 ⟨by rw [A4,A4];exact h.length,fun i s hs=>by
  rw [B3] at hs
  cases e:fd[i]? with
  | none=>rw [e] at hs;cases hs
  | some d=>
   rw [e] at hs
   cases hs
   obtain ⟨v,h1,h2⟩:=Tf.Reps.get h e;exact ⟨v,by rw [B3,h1];rfl,h2⟩,fun i j a xs ys _ g1 _ _ _=>by
  rw [B3] at g1
  cases e:fd[i]? with
  | none=>rw [e] at g1;cases g1
  | some d=>rw [e] at g1;cases g1⟩
theorem fnR {x qual : Str} {st : Stmt} {f : Addr} {fd : FuncData} {N ps : List Str} {k n m l : Nat} {g : En -> Option Out} (F : Fun K x qual st f fd) (S : FnScope N ps (AQ st)) (hn : N.length = n) (hm : ps.length = m) (hl : names.length = l)
 (hb:∀(cdv:Value) (A:Around) (outer:List Env) (s:Shared) (H:Hp) (E:XK) (p:Addr),Room k (A.deeper (envOfC qual (AQ st) s.heap.objs.size f cdv))->DSs (QQ CX0 P w K mg base N qual (AQ st) f cdv A outer s H E).nox (FO K ⟨C,names,0,n,p⟩) (HZ st) g) :
 FnOk P w K mg base CX0 (k+1) f fd ps (spR K C names (iW n m l g)):=by
 subst hn hm hl;have hpl:ps.length<=N.length:=by have:=GM List.length S.pre;rw [FF] at this;omega
 refine F.ok S (fun vs H Q E h=> ?_) fun cdv A outer s H vs Q E hr h=> ?_
 . obtain ⟨H0,p,fv,fd,ds,r,vs',rfl,s1,o,hf1,hr,hf,_⟩:=h;unfold iW at hf
   split at hf
   . rename_i hl;rw [B9,hr.length];exact hl.1
   . cases hf
 . obtain ⟨H0,p,fv,fd,ds,r,vs',rfl,s1,oo,hf1,hr',hf,q⟩:=h;obtain ⟨t,ht,rs⟩:=hb cdv A outer s H E p hr;refine ⟨t,ht,?_⟩;unfold iW at hf
   split at hf
   . rename_i hl;obtain ⟨o,ho,hf⟩:=A0.mp hf;have hvl:=hr'.length
     have ls:(L2.start N (.ref p::vs')).length=N.length:=by
      unfold L2.start;simp only [List.length_append,List.length_map,List.length_replicate,List.length_cons];omega
     refine rs H H0 _ _ H0 H (Ext.refl s1) ⟨⟨ls,fv.map some,rfl,oo,dC (by omega) hr' (r9 hf1)⟩⟩ o ho _ ?_
     cases o with
     | rt r' ρ=>cases hf;exact fun v σ H1 J1 a _ c=>q v H1 J1 a c
     | nx ρ=>cases hf;exact fun σ H1 J1 a b=>q .non H1 J1 a .none
     | bk _=>cases hf
     | ct _=>cases hf
   . cases hf
end
theorem AD6{ix:List (Option Nat)}(hx:(ix.filterMap id).Nodup:=by decide)(hn:(ix.all fun o=>match o with | some j=>decide (j<od.n) | none=>true)=true:=by rfl):∀(HB:Hp) (σ:L2.St) (ρ:En) (H0 H:Hp),(FO K od).r HB H0 H σ ρ->(PR K).r (fun _=>none) H0 H (F3 ix σ) (CP ix ρ):=fun HB σ ρ H0 H e=>by
 obtain ⟨h1,vals,h2,h3,h4⟩:=e;have e:=ER.sub hx h4
 have:F3 ix (σ++vals)=F3 ix σ:=by
  unfold F3;refine List.map_congr_left fun o ho=> ?_
  cases o with
  | none=>rfl
  | some j=>
   have:=FH.mp hn _ ho;have hj:j<od.n:=by simpa using this
   show ((σ++vals)[j]?).join=_;rw [A9 (by omega)]
 rw [this] at e
 exact e
theorem yQ {ix : List (Option Nat)} {s' n' : Nat} (hs : ix[s']? = some (some od.s) := by rfl) (hl : ix.length = n' := by rfl) (hx : (ix.filterMap id).Nodup := by decide) (hn : (ix.all fun o => match o with | some j => decide (j < od.n) | none => true) = true := by rfl) :
 ∀(HB:Hp) (σ:L2.St) (ρ:En) (H0 H:Hp),(FO K od).r HB H0 H σ ρ->(FO K ⟨od.C,od.names,s',n',od.p⟩).r (fun _=>none) H0 H (F3 ix σ) (Q8 ix od.n ρ):=fun HB σ ρ H0 H e=>by
 obtain ⟨h1,vals,h2,h3,h4⟩:=e
 have hlt:∀(i j:Nat),ix[i]? = some (some j)->j<od.n:=fun i j h=>by
  have:=FH.mp hn _ (B2 h);simpa using this
 have ls:(F3 ix σ).length=n':=by unfold F3;rw [List.length_map,hl]
 have le:(CP ix ρ).length=n':=by unfold CP;rw [List.length_map,hl]
 have lρ:ρ.length=od.n+vals.length:=by rw [<-h4.len,AO,h1]
 have fi:∀(j:Nat),(ρ.drop od.n)[j]? = ρ[od.n+j]? :=fun j=>GJ;have si:∀(j:Nat),(σ++vals)[od.n+j]? = vals[j]? :=fun j=>by rw [<-h1,A6 (CZ _ _),CQ]
 have sg:∀(i j:Nat),ix[i]? = some (some j)->(F3 ix σ)[i]? = some ((σ++vals)[j]?).join:=fun i j h=>by rw [JI h,A9 (by rw [h1];exact hlt i j h)]
 refine ⟨ls,vals,?_,h3,?_,fun i r hi=> ?_,fun i k a xs ys hij g1 g2 g3 g4=> ?_⟩
 . show (F3 ix σ)[s']? = _;rw [JI hs,h2];rfl
 . unfold Q8;rw [List.length_append,List.length_append,ls,le,List.length_drop,lρ];omega
 . unfold Q8 at hi
   by_cases hin:i<n'
   . rw [A9 (by omega)] at hi ⊢
     obtain ⟨j,k1,k2⟩:=GB hi;obtain ⟨v,k3,k4⟩:=h4.get j r k2;refine ⟨v,by rw [sg i j k1,k3];rfl,k4.base fun _ _ h=>by cases h⟩
   . rw [A6 (by omega),le,fi] at hi
     rw [A6 (by omega),ls];obtain ⟨v,k3,k4⟩:=h4.get _ r hi;rw [si] at k3
     exact ⟨v,k3,k4.base fun _ _ h=>by cases h⟩
 . unfold Q8 at g1 g2
   have mixed:∀(i k:Nat) xs ys,i<n'->n'<=k->(CP ix ρ++ρ.drop od.n)[i]? = some (some (.own xs))->(CP ix ρ++ρ.drop od.n)[k]? = some (some (.own ys))->(F3 ix σ++vals)[i]? = some (some (.ref a))->(F3 ix σ++vals)[k]? ≠ some (some (.ref a)):=by
    intro i k xs ys hi hk g1 g2 g3 g4;rw [A9 (by omega)] at g1 g3
    rw [A6 (by omega),le,fi] at g2
    rw [A6 (by omega),ls] at g4
    obtain ⟨j,k1,k2⟩:=GB g1;rw [sg i j k1] at g3
    exact h4.apart j (od.n+(k - n')) a xs ys (by have:=hlt i j k1;omega) k2 g2 (join_some (B6 g3)) (by rw [si];exact g4)
   by_cases hi:i<n'
   . by_cases hk:k<n'
     . rw [A9 (by omega)] at g1 g2 g3 g4
       obtain ⟨j,k1,k2⟩:=GB g1;obtain ⟨l,k3,k4⟩:=GB g2;rw [sg i j k1] at g3
       rw [sg k l k3] at g4
       exact h4.apart j l a xs ys (by rintro rfl;exact hij (WL hx k1 k3)) k2 k4 (join_some (B6 g3)) (join_some (B6 g4))
     . exact mixed i k xs ys hi (by omega) g1 g2 g3 g4
   . by_cases hk:k<n'
     . exact mixed k i ys xs hk (by omega) g2 g1 g4 g3
     . rw [A6 (by omega),le,fi] at g1 g2
       rw [A6 (by omega),ls] at g3 g4
       exact h4.apart _ _ a xs ys (by omega) g1 g2 (by rw [si];exact g3) (by rw [si];exact g4)
end
section
variable {X:Cx} {od:OD} {e a:Expr} {es:List Expr} {pos p apos cpos:Pos} {x f m:Str} {fe fa:En->Option Sl} {fs:En->Option (List PyData)}
theorem OT (j : Nat) (k : Klass X.K od.C od.names) (hN : X.N[od.s]? = some x := by rfl) (hv : Vis X.env.scope x := by first | exact E5 rfl | exact CL (E5 rfl) | exact CL (CL rfl)) (hj : od.names[j]? = some f := by rfl) (hd : (x == ("__debug__" : Str)) = false := by decide) (hcd : (x == ("__classdict__" : Str)) = false := by decide)
 (hb:attributeBase (.Name x p) f X.env (eval (.Name x p) X.env)=eval (.Name x p) X.env:=by rfl):DP X (FO X.K od) (.Attribute (.Name x p) f pos) (mPk (od.n+j)) :=
 ⟨_,TK (GV hN hv hd hcd) hb,s9 k.cl (k.no f (B2 hj)) hj⟩
theorem mC {ps : List Str} {kk jj : Nat} {F : List PyData -> List PyData -> Option Sl} {pl : Sem Bool} (M : MDef X.prog X.w X.K X.mg X.base jj od.C m ps (spR X.K od.C od.names F)) (k : Klass X.K od.C od.names) (hr : Room kk X.A) (h : DA X (FR X.K od) (e :: es) fs) (hjj : jj <= kk := by decide) (hm : m ∉ od.names := by exact AE rfl)
 (hN:X.N[od.s]? = some x:=by rfl) (hv:Vis X.env.scope x:=by first | exact E5 rfl | exact CL (E5 rfl) | exact CL (CL rfl)) (hd:(x==("__debug__" : Str))=false:=by decide) (hcd:(x==("__classdict__" : Str))=false:=by decide)
 (hst:starEach (e::es) X.env=(false,eval e X.env)::starEach es X.env:=by rfl) (hpl:(backTo cpos (starEach es X.env)).any (·.1)=false:=by rfl)
 (ht:eval (.Call (.Attribute (.Name x p) m apos) (e::es) [] cpos) X.env=(do
  let ov <-eval (.Name x p) X.env
  standAt apos.atName
  let (f,first) <-holding [ov] (getMethod ov m pl)
  callWith cpos f first (backTo cpos (starEach (e::es) X.env)) (backToKw cpos (keywordEach [] X.env))):=by rfl):DE X (FR X.K od) (.Call (.Attribute (.Name x p) m apos) (e::es) [] cpos) (O0 od.n F fs):=by
 obtain ⟨t,h1,h2⟩:=h;obtain ⟨f,fd,F1,M1,b1⟩:=M.ex;exact ⟨_,VS (pl:=pl) (GV hN hv hd hcd) k.cl M1 F1 (hr.mono hjj) b1 .nil Z7 h1 hst hpl ht,nP hm h2⟩
end
end Dm
namespace Dm
open PySem PySem.Spec PyProof.Rows L2 Tf
theorem t6{K:PySem.W.Frag}{od:OD}{ts:TS}{g:En->Option Out}(i:Nat)(h:RS K (FR K od) ts g):RS K (FR K od) ts (mFrz i g):=fun HB S0 σ ρ H0 H x e o ho D d=>by
 unfold mFrz frz1 at ho
 split at ho
 . rename_i ds hj;obtain ⟨h1,p,vals,hpp,h2,h3,h4⟩:=e.r;obtain ⟨a,vs,ha,x',e'⟩:=h4.frz (join_some hj) x;exact h HB S0 σ _ _ H x' ⟨⟨h1,p,vals,hpp,h2,h3.frz ha,e'⟩⟩ o ho D d
 . exact h HB S0 σ ρ H0 H x e o ho D d
theorem rN{X:Cx}{od:OD}{st:Stmt}{gs:En->Option Out}(i:Nat)(h:DS X (FR X.K od) st gs):DS X (FR X.K od) st (mFrz i gs):=by obtain ⟨t,h1,h2⟩:=h;exact ⟨_,h1,t6 i h2⟩
end Dm
namespace Ba
abbrev Mx:=Nat->Nat->Int
def skip(p i:Nat):Nat:=if i<p then i else i+1
def HR(p r:Nat):Nat:=if r<p then r else r - 1
def sgn(n:Nat):Int:=if n % 2=0 then 1 else -1
def sumN:Nat->(Nat->Int)->Int
 | 0,_=>0
 | n+1,f=>sumN n f+f n
def det:Nat->Mx->Int
 | 0,_=>1
 | n+1,M=>sumN (n+1) fun p=>sgn (n - p)*M p n*det n (fun i=>M (skip p i))
theorem HP(n:Nat)(M:Mx):det (n+1) M=sumN (n+1) fun p=>sgn (n - p)*M p n*det n (fun i=>M (skip p i)):=rfl
theorem sum_congr:∀ {n:Nat} {f g:Nat->Int},(∀i,i<n->f i=g i)->sumN n f=sumN n g
 | 0,_,_,_=>rfl
 | n+1,f,g,h=>by
  rw [sumN,sumN,sum_congr (n:=n) fun i hi=>h i (by omega),h n (by omega)]
theorem sum_zero:∀ {n:Nat} {f:Nat->Int},(∀i,i<n->f i=0)->sumN n f=0
 | 0,_,_=>rfl
 | n+1,f,h=>by rw [sumN,sum_zero (n:=n) fun i hi=>h i (by omega),h n (by omega)];rfl
theorem MF(a b:Int):∀ {n:Nat} {f g:Nat->Int},sumN n (fun i=>a*f i+b*g i)=a*sumN n f+b*sumN n g
 | 0,_,_=>by simp [sumN]
 | n+1,f,g=>by
  rw [sumN,sumN,sumN,MF a b (n:=n),IZ,IZ];omega
theorem sum_mul(a:Int){n:Nat}{f:Nat->Int}:sumN n (fun i=>a*f i)=a*sumN n f:=by
 have h:=MF a 0 (n:=n) (f:=f) (g:=fun _=>0);simpa using h
theorem sum_add{n:Nat}{f g:Nat->Int}:sumN n (fun i=>f i+g i)=sumN n f+sumN n g:=by
 have h:=MF 1 1 (n:=n) (f:=f) (g:=g);simpa using h
theorem JT:∀ {n r:Nat} {f:Nat->Int},r<n->(∀i,i<n->i≠r->f i=0)->sumN n f=f r
 | 0,r,_,h,_=>absurd h (by omega)
 | n+1,r,f,h,hz=>by
  rw [sumN]
  by_cases e:r=n
  . subst e;rw [sum_zero fun i hi=>hz i (by omega) (by omega)];omega
  . rw [JT (n:=n) (r:=r) (by omega) fun i hi hr=>hz i (by omega) hr,hz n (by omega) (by omega)];omega
theorem fB:∀ {n r:Nat} {f:Nat->Int},r+1<n->(∀i,i<n->i≠r->i≠r+1->f i=0)->sumN n f=f r+f (r+1)
 | 0,r,_,h,_=>absurd h (by omega)
 | n+1,r,f,h,hz=>by
  rw [sumN]
  by_cases e:r+1=n
  . subst e;rw [JT (r:=r) (by omega) fun i hi hr=>hz i (by omega) hr (by omega)]
  . rw [fB (n:=n) (r:=r) (by omega) fun i hi hr h2=>hz i (by omega) hr h2,hz n (by omega) (by omega) (by omega)];omega
theorem sum_comm:∀ {n m:Nat} {f:Nat->Nat->Int},sumN n (fun i=>sumN m (fun j=>f i j))=sumN m (fun j=>sumN n (fun i=>f i j))
 | 0,m,f=>by rw [sumN];exact (sum_zero fun _ _=>rfl).symm
 | n+1,m,f=>by
  rw [sumN,sum_comm (n:=n), <-sum_add];exact sum_congr fun j _=>rfl
theorem G4:∀ {n:Nat} {M N:Mx},(∀i,i<n->∀j,j<n->M i j=N i j)->det n M=det n N
 | 0,_,_,_=>rfl
 | n+1,M,N,h=>by
  rw [HP,HP];refine sum_congr fun p hp=> ?_;rw [h p hp n (by omega),G4 (n:=n) fun i hi j hj=>h (skip p i) (by unfold skip;split <;> omega) j (by omega)]
def setR(M:Mx)(r:Nat)(v:Nat->Int):Mx:=fun i=>if i=r then v else M i
theorem CU(M:Mx)(r:Nat)(v:Nat->Int):setR M r v r=v:=by simp [setR]
theorem DM{M:Mx}{r i:Nat}{v:Nat->Int}(h:i≠r):setR M r v i=M i:=by simp [setR,h]
theorem MP(M:Mx)(r:Nat):setR M r (M r)=M:=by
 funext i
 by_cases h:i=r
 . subst h;rw [CU]
 . rw [DM h]
theorem JD{M:Mx}{r s:Nat}{u v:Nat->Int}(h:r≠s):setR (setR M r u) s v=setR (setR M s v) r u:=by
 funext i
 by_cases h1:i=r
 . subst h1;rw [DM h,CU,CU]
 . by_cases h2:i=s
   . subst h2;rw [CU,DM h1,CU]
   . rw [DM h2,DM h1,DM h1,DM h2]
theorem T2{M:Mx}{r p:Nat}{v:Nat->Int}(h:p≠r):(fun i=>setR M r v (skip p i))=setR (fun i=>M (skip p i)) (HR p r) v:=by
 funext i
 by_cases e:i=HR p r
 . rw [e,CU];have:skip p (HR p r)=r:=by (unfold skip HR;split <;> (try split) <;> omega)
   rw [this,CU]
 . rw [DM e,DM];unfold skip HR at *
   split <;> split at e <;> omega
theorem KB{M:Mx}{r:Nat}{v:Nat->Int}:(fun i=>setR M r v (skip r i))=fun i=>M (skip r i):=by
 funext i;rw [DM];unfold skip
 split <;> omega
theorem MJ(a b:Int):∀ {n r:Nat} {M:Mx} {u v:Nat->Int},r<n->det n (setR M r (fun j=>a*u j+b*v j))=a*det n (setR M r u)+b*det n (setR M r v)
 | 0,r,_,_,_,h=>absurd h (by omega)
 | n+1,r,M,u,v,h=>by
  rw [HP,HP,HP, <-MF];refine sum_congr fun p hp=> ?_
  by_cases e:p=r
  . subst e;rw [KB,KB,KB,CU,CU,CU];generalize det n (fun i=>M (skip p i))=d;simp only [IZ,Int.add_mul];congr 1 <;> ac_rfl
  . rw [T2 e,T2 e,T2 e,DM e,DM e,DM e,MJ a b (n:=n) (by unfold HR;split <;> omega)];simp only [Int.mul_add];congr 1 <;> ac_rfl
theorem OH{n r:Nat}{M:Mx}(h:r<n)(hz:∀j,j<n->M r j=0):det n M=0:=by
 have e:det n M=det n (setR M r (fun j=>0*M r j+0*M r j)):=G4 fun i hi j hj=>by
  by_cases q:i=r
  . subst q;rw [CU,hz j hj];omega
  . rw [DM q]
 rw [e,MJ 0 0 h];omega
theorem oT(n:Nat):sgn (n+1) = - sgn n:=by
 unfold sgn
 split <;> split <;> omega
theorem VQ:∀ {n r:Nat} {M:Mx},r+1<n->(∀j,j<n->M r j=M (r+1) j)->det n M=0
 | 0,_,_,h,_=>absurd h (by omega)
 | n+1,r,M,h,he=>by
  rw [HP,fB (r:=r) h]
  . have e : det n (fun i => M (skip r i)) = det n (fun i => M (skip (r + 1) i)) := G4 fun i hi j hj => by
     by_cases q:i=r
     . subst q;have a:skip i i=i+1:=by unfold skip;split <;> omega
       have b:skip (i+1) i=i:=by unfold skip;split <;> omega
       rw [a,b];exact (he j (by omega)).symm
     . have:skip r i=skip (r+1) i:=by unfold skip;split <;> split <;> omega
       rw [this]
    rw [e,he n (by omega)]
    have s:sgn (n - r) = - sgn (n - (r+1)):=by
     have:n - r=(n - (r+1))+1:=by omega
     rw [this,oT]
    rw [s];simp only [GH];omega
  . intro p hp h1 h2
    have:det n (fun i=>M (skip p i))=0:=by
     refine VQ (n:=n) (r:=HR p r) (by unfold HR;split <;> omega) fun j hj=> ?_;have a:skip p (HR p r)=r:=by (unfold skip HR;split <;> (try split) <;> omega)
     have b:skip p (HR p r+1)=r+1:=by (unfold skip HR;split <;> (try split) <;> omega)
     show M (skip p (HR p r)) j=M (skip p (HR p r+1)) j;rw [a,b];exact he j (by omega)
    rw [this,C8]
theorem VO{n r:Nat}{M:Mx}{u v:Nat->Int}(h:r<n):det n (setR M r (fun j=>u j+v j))=det n (setR M r u)+det n (setR M r v):=by
 have:=MJ 1 1 (M:=M) (u:=u) (v:=v) h;simpa using this
theorem jI{n r:Nat}{M:Mx}{u:Nat->Int}(a:Int)(h:r<n):det n (setR M r (fun j=>a*u j))=a*det n (setR M r u):=by
 have:=MJ a 0 (M:=M) (u:=u) (v:=u) h;simpa using this
theorem sD {n r s : Nat} {M : Mx} (hr : r < n) (hs : s < n) (hrs : r ≠ s) (z : ∀ (M : Mx), M r = M s -> det n M = 0) (u v : Nat -> Int) :
 det n (setR (setR M r u) s v) = - det n (setR (setR M r v) s u):=by
 have w:∀x:Nat->Int,det n (setR (setR M r x) s x)=0:=fun x=>z _ (by rw [DM hrs,CU,CU]);have e:=w (fun j=>u j+v j);rw [VO hs,JD hrs,VO hr,JD hrs.symm,JD hrs.symm,JD (M:=M) (u:=fun j=>u j+v j) (v:=v) hrs,VO hr,JD hrs.symm,JD hrs.symm,w,w] at e
 omega
theorem LY:∀ {d n r:Nat} {M:Mx},r+d+1<n->M r=M (r+d+1)->det n M=0
 | 0,n,r,M,h,he=>VQ h fun j _=>congrFun he j
 | d+1,n,r,M,h,he=>by
  have hs:r+d+1<n:=by omega
  have q:=sD (n:=n) (r:=r+d+1) (s:=r+d+1+1) (M:=M) hs (by omega) (by omega) (fun M' h'=>VQ (by omega) fun j _=>congrFun h' j) (M (r+d+1)) (M (r+d+1+1));rw [MP,MP] at q
  rw [q,LY (d:=d) (r:=r) hs]
  . rfl
  . rw [DM (by omega),DM (by omega),DM (by omega),CU];exact he
theorem Z0{n r s:Nat}{M:Mx}(hr:r<n)(hs:s<n)(hrs:r≠s)(he:M r=M s):det n M=0:=by
 rcases (by omega:r<s\/s<r) with h | h
 . obtain ⟨d,rfl⟩:∃d,s=r+d+1:=⟨s - r - 1,by omega⟩;exact LY hs he
 . obtain ⟨d,rfl⟩:∃d,r=s+d+1:=⟨r - s - 1,by omega⟩;exact LY hr he.symm
def exch(M:Mx)(r s:Nat):Mx:=setR (setR M r (M s)) s (fun j=> - M r j)
theorem YE{n r:Nat}{M:Mx}(hr:r<n)(a:Int)(q:Nat->Int):∀ {m:Nat},m<=r->det n (setR M r (fun j=>a*M r j+sumN m (fun p=>q p*M p j)))=a*det n M
 | 0,_=>by
  simp only [sumN,LN]
  rw [jI _ hr,MP]
 | m+1,h=>by
  have e:(fun j=>a*M r j+sumN (m+1) (fun p=>q p*M p j))=fun j=>1*(a*M r j+sumN m (fun p=>q p*M p j))+q m*M m j:=by
   funext j;rw [sumN];omega
  have z:det n (setR M r (fun j=>M m j))=0:=Z0 (r:=r) (s:=m) hr (by omega) (by omega) (by rw [CU,DM (by omega)]);rw [e,MJ 1 (q m) hr,YE hr a q (m:=m) (by omega),z];omega
theorem kH{n:Nat}{M:Mx}(h:∀j,j<n->M n j=0):det (n+1) M=M n n*det n M:=by
 rw [HP,JT (r:=n) (by omega)]
 . rw [Nat.sub_self]
   have:det n (fun i=>M (skip n i))=det n M:=G4 fun i hi j hj=>by
    have:skip n i=i:=by unfold skip;split <;> omega
    rw [this]
   rw [this];simp [sgn]
 . intro p hp hne
   have:det n (fun i=>M (skip p i))=0:=by
    refine OH (r:=n - 1) (by omega) fun j hj=> ?_;have e:skip p (n - 1)=n:=by unfold skip;split <;> omega
    show M (skip p (n - 1)) j=0;rw [e];exact h j hj
   rw [this,C8]
end Ba
namespace Ba
inductive Ex (n:Nat) (A:Mx):Mx->Prop where
 | refl:Ex n A A
 | step {B:Mx} {r s:Nat}:r<n->s<n->r≠s->Ex n A B->Ex n A (exch B r s)
theorem exch_r{M:Mx}{r s:Nat}(h:r≠s):exch M r s r=M s:=by unfold exch;rw [DM h,CU]
theorem NP{M:Mx}{r s:Nat}:exch M r s s=fun j=> - M r j:=by unfold exch;rw [CU]
theorem JX{M:Mx}{r s i:Nat}(h1:i≠r)(h2:i≠s):exch M r s i=M i:=by unfold exch;rw [DM h2,DM h1]
def col(k:Nat)(L:Nat->Nat)(j t:Nat):Nat:=if t<k then L t else j
def row(k i r:Nat):Nat:=if r<k then r else i
def QO(B:Mx)(k:Nat)(L:Nat->Nat)(i j:Nat):Int:=det (k+1) fun r t=>B (row k i r) (col k L j t)
def lds(B:Mx)(k:Nat)(L:Nat->Nat):Int:=det k fun r t=>B r (L t)
theorem YO(B:Mx)(k:Nat)(L:Nat->Nat)(c:Nat):lds B (k+1) (fun t=>if t=k then c else L t)=QO B k L k c:=G4 fun r hr t ht=>by
 have e1:row k k r=r:=by unfold row;split <;> omega
 have e2:col k L c t=if t=k then c else L t:=by unfold col;split <;> split <;> first | rfl | omega
 rw [e1,e2]
theorem e6{B:Mx}{k i j:Nat}{L:Nat->Nat}{μ:Int}{q w:Nat->Int}(hw:∀j,w j=μ*B i j+sumN k (fun p=>q p*B p j))(hz:∀t,t<k->w (L t)=0):μ*QO B k L i j=w j*lds B k L:=by
 have h:=YE (n:=k+1) (r:=k) (M:=fun r t=>B (row k i r) (col k L j t)) (by omega) μ q (m:=k) (A8 k)
 have e:(fun t=>μ*B (row k i k) (col k L j t)+sumN k (fun p=>q p*B (row k i p) (col k L j t)))=fun t=>w (col k L j t):=by
  funext t;have e1:row k i k=i:=by unfold row;split <;> omega
  rw [hw,e1];congr 1
  exact sum_congr fun p hp=>by
   have:row k i p=p:=by unfold row;split <;> omega
   rw [this]
 rw [e,kH] at h
 . unfold QO;rw [<-h,CU];have e2:col k L j k=j:=by unfold col;split <;> omega
   rw [e2];unfold lds;congr 1
   exact G4 fun r hr t ht=>by
    rw [DM (by omega)];have e3:row k i r=r:=by unfold row;split <;> omega
    have e4:col k L j t=L t:=by unfold col;split <;> omega
    rw [e3,e4]
 . intro t ht;rw [CU];have e4:col k L j t=L t:=by unfold col;split <;> omega
   rw [e4,hz t ht]
structure BI (n m:Nat) (A R:Mx) (k:Nat) (L:Nat->Nat) (last:Int) (c:Nat) (B:Mx):Prop where
 kn:k<=n
 cm:c<=m
 Lc:∀t,t<k->L t<c
 Li:∀s t,s<t->t<k->L s<L t
 nz:last≠0
 ld:last=lds B k L
 top:∀i,i<k->∀j,j<m->R i j=QO B i L i j
 topz:∀i,i<k->∀j,j<L i->R i j=0
 topn:∀i,i<k->R i (L i)≠0
 bot:∀i,k<=i->i<n->∃μ:Int,μ≠0/\∃q:Nat->Int,∀j,j<m->μ*R i j=last*(μ*B i j+sumN k (fun p=>q p*B p j))
 zero:∀i,k<=i->i<n->∀j,j<c->R i j=0
 ex:Ex n A B
theorem mul_cancel{a b c:Int}(h:a≠0)(e:a*b=a*c):b=c:=Int.eq_of_mul_eq_mul_left h e
theorem BI.minor{n m:Nat}{A R:Mx}{k:Nat}{L:Nat->Nat}{last:Int}{c:Nat}{B:Mx}(I:BI n m A R k L last c B){i j:Nat}(hi:k<=i)(hn:i<n)(hj:j<m):R i j=QO B k L i j:=by
 obtain ⟨μ,hμ,q,h⟩:=I.bot i hi hn
 have z:∀t,t<k->(fun j=>μ*B i j+sumN k (fun p=>q p*B p j)) (L t)=0:=by
  intro t ht;have e:=h (L t) (B4 (I.Lc t ht) I.cm);rw [I.zero i hi hn (L t) (I.Lc t ht),C8] at e
  rcases DL.mp e.symm with e | e
  . exact absurd e I.nz
  . exact e
 have e:=e6 (j:=j) (w:=fun j=>μ*B i j+sumN k (fun p=>q p*B p j)) (fun _=>rfl) z;have e2:=h j hj;refine mul_cancel hμ ?_;rw [e,e2,I.ld];exact CN _ _
theorem BI.start{n m:Nat}(A:Mx):BI n m A A 0 (fun _=>0) 1 0 A where
 kn:=DF _
 cm:=DF _
 Lc:=fun t h=>absurd h (by omega)
 Li:=fun s t _ h=>absurd h (by omega)
 nz:=by decide
 ld:=rfl
 top:=fun i h=>absurd h (by omega)
 topz:=fun i h=>absurd h (by omega)
 topn:=fun i h=>absurd h (by omega)
 bot:=fun i _ _=>⟨1,by decide,fun _=>0,fun j _=>by simp [sumN]⟩
 zero:=fun i _ _ j h=>absurd h (by omega)
 ex:= .refl
theorem BI.none{n m:Nat}{A R:Mx}{k:Nat}{L:Nat->Nat}{last:Int}{c:Nat}{B:Mx}(I:BI n m A R k L last c B)(hc:c<m)(h:∀i,k<=i->i<n->R i c=0):BI n m A R k L last (c+1) B:=
 { I with
   cm:=hc
   Lc:=fun t ht=>WS (I.Lc t ht)
   zero:=fun i h1 h2 j hj=>by
    by_cases e:j=c
    . subst e;exact h i h1 h2
    . exact I.zero i h1 h2 j (by omega)}
theorem NT{B B':Mx}{k i j:Nat}{L L':Nat->Nat}(hi:B i=B' i)(h:∀r,r<k->B r=B' r)(hL:∀t,t<k->L t=L' t):QO B k L i j=QO B' k L' i j:=G4 fun r hr t ht=>by
 have e1:B (row k i r)=B' (row k i r):=by
  unfold row
  split
  . exact h r (by assumption)
  . exact hi
 have e2:col k L j t=col k L' j t:=by
  unfold col
  split
  . exact hL t (by assumption)
  . rfl
 rw [e1,e2]
theorem g8{B B':Mx}{k:Nat}{L L':Nat->Nat}(h:∀r,r<k->B r=B' r)(hL:∀t,t<k->L t=L' t):lds B k L=lds B' k L':=G4 fun r hr t ht=>by rw [h r hr,hL t ht]
theorem BI.exch{n m:Nat}{A R:Mx}{k:Nat}{L:Nat->Nat}{last:Int}{c:Nat}{B:Mx}(I:BI n m A R k L last c B){p:Nat}(hp:k<p)(hn:p<n):BI n m A (exch R k p) k L last c (exch B k p):=by
 have up:∀ {M:Mx} {r:Nat},r<k->Ba.exch M k p r=M r:=fun h=>JX (by omega) (by omega);have su:∀(q:Nat->Int) j,sumN k (fun r=>q r*Ba.exch B k p r j)=sumN k (fun r=>q r*B r j):=fun q j=>sum_congr fun r hr=>by rw [up hr]
 refine ⟨I.kn,I.cm,I.Lc,I.Li,I.nz,?_,fun i hi j hj=> ?_,fun i hi j hj=> ?_,fun i hi=> ?_,fun i h1 h2=> ?_,fun i h1 h2 j hj=> ?_, .step (by omega) hn (by omega) I.ex⟩
 . rw [I.ld];exact g8 (fun r hr=>(up hr).symm) fun _ _=>rfl
 . rw [up hi,I.top i hi j hj];exact NT (up hi).symm (fun r hr=>(up (by omega)).symm) fun _ _=>rfl
 . rw [up hi];exact I.topz i hi j hj
 . rw [up hi];exact I.topn i hi
 . by_cases e1:i=k
   . subst e1;obtain ⟨μ,h,q,e⟩:=I.bot p (by omega) hn;exact ⟨μ,h,q,fun j hj=>by rw [exch_r (by omega),exch_r (by omega),su];exact e j hj⟩
   . by_cases e2:i=p
     . subst e2;obtain ⟨μ,h,q,e⟩:=I.bot k (A8 _) (by omega);refine ⟨μ,h,fun r=> - q r,fun j hj=> ?_⟩;rw [NP,NP,su]
       have s:sumN k (fun r=> - q r*B r j) = - sumN k (fun r=>q r*B r j):=by
        have:=sum_mul (-1) (n:=k) (f:=fun r=>q r*B r j);rw [show - sumN k (fun r=>q r*B r j) = -1*sumN k (fun r=>q r*B r j) by omega, <-this];exact sum_congr fun r _=>by simp [GH]
       rw [s,NB,NB, <-Int.neg_add,NB,e j hj]
     . obtain ⟨μ,h,q,e⟩:=I.bot i h1 h2;exact ⟨μ,h,q,fun j hj=>by rw [JX e1 e2,JX e1 e2,su];exact e j hj⟩
 . by_cases e1:i=k
   . subst e1;rw [exch_r (by omega)];exact I.zero p (by omega) hn j hj
   . by_cases e2:i=p
     . subst e2;rw [NP];show - R k j=0;rw [I.zero k (A8 _) (by omega) j hj];rfl
     . rw [JX e1 e2];exact I.zero i h1 h2 j hj
def clr(R:Mx)(k c i j:Nat):Int:=R k c*R i j - R i c*R k j
theorem BI.exact {n m : Nat} {A R : Mx} {k : Nat} {L : Nat -> Nat} {last : Int} {c : Nat} {B : Mx} (I : BI n m A R k L last c B) (hc : c < m) (hk : k < n) (hl : R k c ≠ 0) {i : Nat} (hi : k < i) (hn : i < n) :
 (∃ν:Int,ν≠0/\∃s:Nat->Int,∀j,j<m->ν*clr R k c i j=last*(R k c*ν*B i j+sumN (k+1) (fun p=>s p*B p j))) /\
 ∀j,j<m->clr R k c i j=last*QO B (k+1) (fun t=>if t=k then c else L t) i j:=by
 obtain ⟨μi,hμi,qi,ei⟩:=I.bot i (by omega) hn;obtain ⟨μk,hμk,qk,ek⟩:=I.bot k (A8 _) hk;have hν:μi*μk≠0:=KR hμi hμk
 have key:∀j,j<m->μi*μk*clr R k c i j=last*(R k c*(μi*μk)*B i j+sumN (k+1) (fun p=>(if p=k then - (R i c*(μi*μk)) else R k c*μk*qi p - R i c*μi*qk p)*B p j)):=by
  intro j hj;have a:=ei j hj;have b:=ek j hj
  have s:sumN (k+1) (fun p=>(if p=k then - (R i c*(μi*μk)) else R k c*μk*qi p - R i c*μi*qk p)*B p j)=R k c*μk*sumN k (fun p=>qi p*B p j) - R i c*μi*sumN k (fun p=>qk p*B p j) - R i c*(μi*μk)*B k j:=by
   have t:sumN k (fun p=>(if p=k then - (R i c*(μi*μk)) else R k c*μk*qi p - R i c*μi*qk p)*B p j)=sumN k (fun p=>(R k c*μk)*(qi p*B p j)+(- (R i c*μi))*(qk p*B p j)):=sum_congr fun p hp=>by
    rw [AR (by omega),Int.sub_mul,GH,CK,CK (R i c*μi),Int.sub_eq_add_neg]
   rw [sumN,t,MF,AU rfl,GH,GH];omega
  rw [s];unfold clr
  have e1:μi*μk*(R k c*R i j - R i c*R k j)=R k c*μk*(μi*R i j) - R i c*μi*(μk*R k j):=by
   rw [Int.mul_sub];congr 1 <;> ac_rfl
  rw [e1,a,b];generalize sumN k (fun p=>qi p*B p j)=S1;generalize sumN k (fun p=>qk p*B p j)=S2;simp only [IZ,Int.mul_sub];have c1:R k c*μk*(last*(μi*B i j))=last*(R k c*(μi*μk)*B i j):=by ac_rfl
  have c2:R k c*μk*(last*S1)=last*(R k c*μk*S1):=by ac_rfl
  have c3:R i c*μi*(last*(μk*B k j))=last*(R i c*(μi*μk)*B k j):=by ac_rfl
  have c4:R i c*μi*(last*S2)=last*(R i c*μi*S2):=by ac_rfl
  rw [c1,c2,c3,c4];omega
 refine ⟨⟨μi*μk,hν,_,key⟩,fun j hj=> ?_⟩
 have cz:∀t,t<k+1->clr R k c i (if t=k then c else L t)=0:=by
  intro t ht;unfold clr
  by_cases e:t=k
  . rw [AU e,CN];omega
  . have lt:=I.Lc t (by omega);rw [AR e,I.zero i (by omega) hn _ lt,I.zero k (A8 _) hk _ lt];omega
 have wz:∀t,t<k+1->(fun j=>R k c*(μi*μk)*B i j+sumN (k+1) (fun p=>(if p=k then - (R i c*(μi*μk)) else R k c*μk*qi p - R i c*μi*qk p)*B p j)) ((fun t=>if t=k then c else L t) t)=0:=by
  intro t ht
  have e:=key (if t=k then c else L t) (by
   by_cases e:t=k
   . rw [AU e];exact hc
   . rw [AR e];have:=I.Lc t (by omega);omega)
  rw [cz t ht,C8] at e
  rcases DL.mp e.symm with e | e
  . exact absurd e I.nz
  . exact e
 have d:=e6 (j:=j) (L:=fun t=>if t=k then c else L t) (w:=fun j=>R k c*(μi*μk)*B i j+sumN (k+1) (fun p=>(if p=k then - (R i c*(μi*μk)) else R k c*μk*qi p - R i c*μi*qk p)*B p j)) (fun _=>rfl) wz;rw [YO, <-I.minor (A8 _) hk hc] at d
 have hR:R k c*(μi*μk)≠0:=KR hl hν;have e:=key j hj;generalize QO B (k+1) (fun t=>if t=k then c else L t) i j=y at d ⊢
 generalize R k c*(μi*μk)*B i j+sumN (k+1) (fun p=>(if p=k then - (R i c*(μi*μk)) else R k c*μk*qi p - R i c*μi*qk p)*B p j)=w at d e
 have hw:w=μi*μk*y:=by
  refine mul_cancel hl ?_;rw [CN, <-d]
  ac_rfl
 refine mul_cancel hν ?_;rw [e,hw]
 ac_rfl
theorem BI.step {n m : Nat} {A R : Mx} {k : Nat} {L : Nat -> Nat} {last : Int} {c : Nat} {B : Mx} (I : BI n m A R k L last c B) (hc : c < m) (hk : k < n) (hl : R k c ≠ 0) {R' : Mx}
 (ht:∀i,i<=k->∀j,j<m->R' i j=R i j) (hb:∀i,k<i->i<n->∀j,j<m->last*R' i j=clr R k c i j):BI n m A R' (k+1) (fun t=>if t=k then c else L t) (R k c) (c+1) B:=by
 refine ⟨hk,hc,fun t h=> ?_,fun s t h1 h2=> ?_,hl,?_,fun i hi j hj=> ?_,fun i hi j hj=> ?_,fun i hi=> ?_,fun i h1 h2=> ?_,fun i h1 h2 j hj=> ?_,I.ex⟩
 . show (if t=k then c else L t)<c+1
   split
   . omega
   . have:=I.Lc t (by omega);omega
 . show (if s=k then c else L s)<(if t=k then c else L t);rw [AR (by omega)]
   split
   . exact I.Lc s (by omega)
   . exact I.Li s t h1 (by omega)
 . rw [YO];exact I.minor (A8 _) hk hc
 . rw [ht i (by omega) j hj]
   by_cases e:i=k
   . subst e;rw [I.minor (A8 _) hk hj];exact NT rfl (fun _ _=>rfl) fun t h=>by rw [AR (by omega)]
   . rw [I.top i (by omega) j hj];exact NT rfl (fun _ _=>rfl) fun t h=>by rw [AR (by omega)]
 . have hj:j<(if i=k then c else L i):=hj
   by_cases e:i=k
   . rw [AU e] at hj
     rw [e,ht k (by omega) j (by omega)];exact I.zero k (A8 _) hk j hj
   . rw [AR e] at hj
     have:=I.Lc i (by omega);rw [ht i (by omega) j (by omega)];exact I.topz i (by omega) j hj
 . show R' i (if i=k then c else L i)≠0
   by_cases e:i=k
   . rw [AU e];subst e;rw [ht i (by omega) c hc];exact hl
   . rw [AR e];have:=I.Lc i (by omega);rw [ht i (by omega) _ (by omega)];exact I.topn i (by omega)
 . obtain ⟨⟨ν,hν,s,e⟩,_⟩:=I.exact hc hk hl (i:=i) (by omega) h2;refine ⟨R k c*ν,KR hl hν,s,fun j hj=> ?_⟩;have q:=e j hj;rw [<-hb i (by omega) h2 j hj] at q
   have q2:ν*R' i j=R k c*ν*B i j+sumN (k+1) (fun p=>s p*B p j):=by
    refine mul_cancel I.nz ?_;rw [<-q]
    ac_rfl
   rw [<-q2]
   ac_rfl
 . refine mul_cancel I.nz ?_;rw [hb i (by omega) h2 j (by omega),Int.mul_zero];unfold clr
   by_cases e:j=c
   . subst e;rw [CN];omega
   . rw [I.zero i (by omega) h2 j (by omega),I.zero k (A8 _) hk j (by omega)];omega
end Ba
namespace Ba
theorem VF{X:Nat}:∀ {n:Nat} {f:Nat->Int},(∀i,i<n->(f i).natAbs<=X)->(sumN n f).natAbs<=n*X
 | 0,_,_=>by simp [sumN]
 | n+1,f,h=>by
  have h1:=VF (n:=n) fun i hi=>h i (by omega);have h2:=h n (by omega);have h3:=Int.natAbs_add_le (sumN n f) (f n);rw [sumN,G0];omega
theorem R5{N Y:Nat}:∀ {n:Nat} {M:Mx},n<=N->(∀i,i<n->∀j,j<n->(M i j).natAbs<=Y)->(det n M).natAbs<=(N*Y) ^ n
 | 0,_,_,_=>by simp [det]
 | n+1,M,hn,h=>by
  rw [HP]
  have t:∀p,p<n+1->(sgn (n - p)*M p n*det n (fun i=>M (skip p i))).natAbs<=Y*(N*Y) ^ n:=by
   intro p hp;rw [Int.natAbs_mul,Int.natAbs_mul];have s:(sgn (n - p)).natAbs=1:=by unfold sgn;split <;> rfl
   rw [s,Nat.one_mul];exact Nat.mul_le_mul (h p hp n (by omega)) (R5 (n:=n) (by omega) fun i hi j hj=>h (skip p i) (by unfold skip;split <;> omega) j (by omega))
  have:=VF t;refine AY this ?_;rw [WX,G1 ((N*Y) ^ n)];rw [KD];exact G7 hn (A8 _)
theorem Ex.bound{n m Y:Nat}{A B:Mx}(h:Ex n A B)(hA:∀i,i<n->∀j,j<m->(A i j).natAbs<=Y):∀i,i<n->∀j,j<m->(B i j).natAbs<=Y:=by
 induction h with
 | refl=>exact hA
 | @step B r s h1 h2 h3 _ ih=>
  intro i hi j hj
  by_cases e1:i=s
  . subst e1;rw [NP];show (- B r j).natAbs<=Y;rw [Int.natAbs_neg];exact ih r h1 j hj
  . by_cases e2:i=r
    . subst e2;rw [exch_r e1];exact ih s h2 j hj
    . rw [JX e2 e1];exact ih i hi j hj
theorem oK{a s n:Nat}(ha:1<=a)(h:s<=n):a ^ s<=a ^ n:=CJ ha h
theorem BI.bound {n m Y : Nat} {A R : Mx} {k : Nat} {L : Nat -> Nat} {last : Int} {c : Nat} {B : Mx} (I : BI n m A R k L last c B) (hn : n <= 32) (hY : 1 <= Y) (hA : ∀ i, i < n -> ∀ j, j < m -> (A i j).natAbs <= Y) :
 (∀i,i<n->∀j,j<m->(R i j).natAbs<=(32*Y) ^ n)/\last.natAbs<=(32*Y) ^ n:=by
 have hB:=I.ex.bound hA;have hL:∀t,t<k->L t<m:=fun t ht=>B4 (I.Lc t ht) I.cm
 have bo:∀s i j,s<=k->s+1<=n->i<n->j<m->(QO B s L i j).natAbs<=(32*Y) ^ n:=by
  intro s i j hs hsn hi hj;refine AY (R5 (N:=32) (Y:=Y) (by omega) fun r hr t ht=> ?_) (oK (by omega) hsn);refine hB _ ?_ _ ?_
  . unfold row;split <;> omega
  . unfold col;split
    . exact hL t (by omega)
    . exact hj
 refine ⟨fun i hi j hj=> ?_,?_⟩
 . by_cases h:i<k
   . rw [I.top i h j hj];exact bo i i j (by omega) (by omega) hi hj
   . rw [I.minor (by omega) hi hj];exact bo k i j (A8 _) (by omega) hi hj
 . rw [I.ld];refine AY (R5 (N:=32) (Y:=Y) (by have:=I.kn;omega) fun r hr t ht=> ?_) (oK (by omega) I.kn);exact hB r (by have:=I.kn;omega) _ (hL t ht)
end Ba
namespace Tr
def E:List Int->Nat->Int
 | [],0=>1
 | [],_+1=>0
 | _::_,0=>1
 | s::l,k+1=>E l (k+1)+(s - 1)*E l k
def S:List Int->Nat->Int
 | [],_=>1
 | _::_,0=>1
 | s::l,u+1=>S l (u+1)+(s - 1)*S l u
def dg:List Nat->Nat->List Nat
 | [],_=> []
 | c::r,x=>x % c::dg r (x / c)
def prodN:List Nat->Nat
 | []=>1
 | c::r=>c*prodN r
theorem prodN_app:∀a b,prodN (a++b)=prodN a*prodN b
 | [],b=>by simp [prodN]
 | c::a,b=>by simp only [K6,prodN,prodN_app a b,KD]
theorem WB:∀r x,(dg r x).length=r.length
 | [],_=>rfl
 | c::r,x=>by simp [dg,WB r]
def tri(L:List Nat)(x:Nat):List Nat:=(dg L.reverse x).reverse
theorem nU(L:List Nat)(c x:Nat):tri (L ++ [c]) x=tri L (x / c) ++ [x % c]:=by
 unfold tri;rw [List.reverse_append];simp [dg]
theorem tri_len(L:List Nat)(x:Nat):(tri L x).length=L.length:=by simp [tri,WB]
def allT(L:List Nat):List (List Nat):=(List.range (prodN L)).map (tri L)
theorem UZ{α:Type}(f:Nat->Nat->α)(c:Nat)(hc:0<c):∀m,(List.range (m*c)).map (fun x=>f (x / c) (x % c))=(List.range m).flatMap fun q=>(List.range c).map (f q)
 | 0=>by simp
 | m+1=>by
  rw [G0,List.range_add,D0,UZ f c hc m,IS,List.flatMap_append,E1];congr 1
  simp only [NC,List.flatMap_nil,DK];refine C7 fun x hx=> ?_;have hx:=BC.mp hx;show f ((m*c+x) / c) ((m*c+x) % c)=f m x;rw [G1 m c,Nat.mul_add_div hc,fT,CC hx,Nat.div_eq_of_lt hx,F9]
theorem allT_nil:allT [] = [[]]:=rfl
theorem allT_snoc(L:List Nat)(c:Nat)(hc:0<c):allT (L ++ [c])=(allT L).flatMap fun t=>(List.range c).map fun s=>t ++ [s]:=by
 unfold allT
 have e:(List.range (prodN (L ++ [c]))).map (tri (L ++ [c]))=(List.range (prodN L*c)).map (fun x=>(fun q s=>tri L q ++ [s]) (x / c) (x % c)):=by
  rw [prodN_app];simp only [prodN,bO];exact C7 fun x _=>nU L c x
 rw [e,UZ (fun q s=>tri L q ++ [s]) c hc,List.flatMap_map]
end Tr
namespace Ba
theorem SH{n r:Nat}{M:Mx}(h:r<n)(f:Nat->Int)(g:Nat->Nat->Int):∀m,det n (setR M r (fun j=>sumN m (fun s=>f s*g s j)))=sumN m (fun s=>f s*det n (setR M r (g s)))
 | 0=>OH h fun j _=>by rw [CU];rfl
 | m+1=>by
  have e:(fun j=>sumN (m+1) (fun s=>f s*g s j))=fun j=>1*(fun j=>sumN m (fun s=>f s*g s j)) j+f m*g m j:=by
   funext j;rw [sumN];show _=1*sumN m (fun s=>f s*g s j)+f m*g m j;rw [ND]
  rw [e,MJ 1 (f m) h,SH h f g m,sumN];omega
def unit(s j:Nat):Int:=if j=s then 1 else 0
def cof(n:Nat)(M:Mx)(r s:Nat):Int:=det n (setR M r (unit s))
theorem sC{n r:Nat}{M:Mx}(h:r<n)(v:Nat->Int):det n (setR M r v)=sumN n (fun s=>v s*cof n M r s):=by
 unfold cof;rw [<-SH h v unit n];refine G4 fun i hi j hj=> ?_
 by_cases e:i=r
 . subst e;rw [CU,CU,JT (r:=j) hj fun s _ hs=>by unfold unit;rw [if_neg (fun q=>hs q.symm),Int.mul_zero]];unfold unit;rw [if_pos rfl,Int.mul_one]
 . rw [DM e,DM e]
def crx(n:Nat)(M:Mx)(b:Nat->Int)(s:Nat):Int:=sumN n (fun r=>cof n M r s*b r)
theorem pK(n:Nat)(M:Mx)(b:Nat->Int){i:Nat}(hi:i<n):sumN n (fun s=>M i s*crx n M b s)=det n M*b i:=by
 have e1:sumN n (fun s=>M i s*crx n M b s)=sumN n (fun s=>sumN n (fun r=>M i s*(cof n M r s*b r))):=sum_congr fun s _=>by
  unfold crx;rw [sum_mul]
 rw [e1,sum_comm]
 have e2:sumN n (fun r=>sumN n (fun s=>M i s*(cof n M r s*b r)))=sumN n (fun r=>b r*det n (setR M r (M i))):=sum_congr fun r hr=>by
  rw [sC hr, <-sum_mul];exact sum_congr fun s _=>by rw [<-CK,CN]
 rw [e2,JT (r:=i) hi fun r hr hne=>by
  rw [Z0 (r:=r) (s:=i) hr hi hne (by rw [CU,DM (fun q=>hne q.symm)]),C8]]
 rw [MP,CN]
theorem XG(B:Mx)(i:Nat)(L:Nat->Nat)(c:Nat):QO B i L i c=sumN (i+1) (fun p=>B p c*(sgn (i - p)*det i (fun r t=>B (skip p r) (L t)))):=by
 unfold QO;rw [HP];refine sum_congr fun p hp=> ?_;have e1:row i i p=p:=by unfold row;split <;> omega
 have e2:col i L c i=c:=by unfold col;split <;> omega
 have e3:det i (fun r t=>B (row i i (skip p r)) (col i L c t))=det i (fun r t=>B (skip p r) (L t)):=G4 fun r hr t ht=>by
  have e4:row i i (skip p r)=skip p r:=by
   have:skip p r<=i:=by unfold skip;split <;> omega
   unfold row;split <;> omega
  have e5:col i L c t=L t:=by unfold col;rw [if_pos ht]
  rw [e4,e5]
 rw [e1,e2];show sgn (i - p)*B p c*det i (fun r t=>B (row i i (skip p r)) (col i L c t))=_;rw [e3,CN (sgn (i - p)),CK]
def redx(B:Mx)(k:Nat)(L:Nat->Nat)(j t:Nat):Int:=crx k (fun r t=>B r (L t)) (fun r=>B r j) t
theorem BI.red {n m : Nat} {A R : Mx} {k : Nat} {L : Nat -> Nat} {last : Int} {c : Nat} {B : Mx} (I : BI n m A R k L last c B) {i j : Nat} (hi : i < k) (hj : j < m) :
 sumN k (fun t=>R i (L t)*redx B k L j t)=last*R i j:=by
 have hL:∀t,t<k->L t<m:=fun t ht=>B4 (I.Lc t ht) I.cm
 have e1:sumN k (fun t=>R i (L t)*redx B k L j t)=sumN k (fun t=>sumN (i+1) (fun p=>B p (L t)*(sgn (i - p)*det i (fun r t=>B (skip p r) (L t)))*redx B k L j t)):=sum_congr fun t ht=>by
  rw [I.top i hi (L t) (hL t ht),XG,CN, <-sum_mul];exact sum_congr fun p _=>CN _ _
 rw [e1,sum_comm,I.top i hi j hj,XG, <-sum_mul];refine sum_congr fun p hp=> ?_;have h:=pK k (fun r t=>B r (L t)) (fun r=>B r j) (i:=p) (by omega);have e2:last=det k (fun r t=>B r (L t)):=I.ld;rw [<-e2] at h
 have e3:sumN k (fun t=>B p (L t)*(sgn (i - p)*det i (fun r t=>B (skip p r) (L t)))*redx B k L j t)=(sgn (i - p)*det i (fun r t=>B (skip p r) (L t)))*sumN k (fun t=>B p (L t)*crx k (fun r t=>B r (L t)) (fun r=>B r j) t):=by
  rw [<-sum_mul];refine sum_congr fun t _=> ?_;unfold redx;generalize (sgn (i - p)*det i (fun r t=>B (skip p r) (L t)))=a;rw [Int.mul_comm (B p (L t)) a,Int.mul_assoc]
 rw [e3,h];generalize (sgn (i - p)*det i (fun r t=>B (skip p r) (L t)))=a;show a*(last*B p j)=last*(B p j*a);rw [CN a,CK]
theorem OM:∀ {k i:Nat} {f:Nat->Int},i<=k->(∀t,t<i->f t=0)->sumN k f=sumN (k - i) (fun t=>f (i+t))
 | 0, i, f, h, _ => by have : i = 0 := by omega
                       subst this;rfl
 | k+1,i,f,h,z=>by
  by_cases e:i=k+1
  . subst e;rw [sum_zero z,Nat.sub_self];rfl
  . have e1:k+1 - i=(k - i)+1:=by omega
    rw [e1,sumN,sumN,OM (k:=k) (by omega) z];congr 2
    omega
theorem P8:∀ {n:Nat} {f:Nat->Int},sumN (n+1) f=f 0+sumN n (fun t=>f (t+1))
 | 0,f=>by simp [sumN]
 | n+1,f=>by rw [sumN,P8 (n:=n),sumN];omega
theorem BI.back {n m : Nat} {A R : Mx} {k : Nat} {L : Nat -> Nat} {last : Int} {c : Nat} {B : Mx} (I : BI n m A R k L last c B) {i j : Nat} (hi : i < k) (hj : j < m) :
 last*R i j - sumN (k - (i+1)) (fun t=>R i (L (i+1+t))*redx B k L j (i+1+t))=R i (L i)*redx B k L j i:=by
 have h:=I.red hi hj;rw [OM (i:=i) (by omega) fun t ht=>by rw [I.topz i hi (L t) (I.Li t i ht hi),FA]] at h
 have e:k - i=(k - (i+1))+1:=by omega
 rw [e,P8] at h
 have e2:sumN (k - (i+1)) (fun t=>R i (L (i+(t+1)))*redx B k L j (i+(t+1)))=sumN (k - (i+1)) (fun t=>R i (L (i+1+t))*redx B k L j (i+1+t)):=sum_congr fun t _=>by
  rw [show i+(t+1)=i+1+t by omega]
 rw [e2] at h
 simp only [F9] at h
 omega
theorem BI.back_div {n m : Nat} {A R : Mx} {k : Nat} {L : Nat -> Nat} {last : Int} {c : Nat} {B : Mx} (I : BI n m A R k L last c B) {i j : Nat} (hi : i < k) (hj : j < m) :
 Int.fdiv (last*R i j - sumN (k - (i+1)) (fun t=>R i (L (i+1+t))*redx B k L j (i+1+t))) (R i (L i))=redx B k L j i:=by
 rw [I.back hi hj];exact IN _ (I.topn i hi)
theorem BI.only {n m : Nat} {A R : Mx} {k : Nat} {L : Nat -> Nat} {last : Int} {c : Nat} {B : Mx} (I : BI n m A R k L last c B) {j : Nat} (hj : j < m) {y : Nat -> Int}
 (hy:∀i,i<k->sumN k (fun t=>R i (L t)*y t)=last*R i j):∀d i,i<k->k - i<=d->y i=redx B k L j i
 | 0,i,hi,hd=>by omega
 | d+1,i,hi,hd=>by
  have h:=hy i hi;rw [<-I.red hi hj] at h
  rw [OM (i:=i) (by omega) fun t ht=>by rw [I.topz i hi (L t) (I.Li t i ht hi),FA],
   OM (f:=fun t=>R i (L t)*redx B k L j t) (i:=i) (by omega) fun t ht=>by rw [I.topz i hi (L t) (I.Li t i ht hi),FA]] at h
  have e:k - i=(k - (i+1))+1:=by omega
  rw [e,P8,P8] at h
  have e2:sumN (k - (i+1)) (fun t=>R i (L (i+(t+1)))*y (i+(t+1)))=sumN (k - (i+1)) (fun t=>R i (L (i+(t+1)))*redx B k L j (i+(t+1))):=sum_congr fun t ht=>by
   rw [I.only hj hy d (i+(t+1)) (by omega) (by omega)]
  rw [e2] at h
  have h2:R i (L i)*y i=R i (L i)*redx B k L j i:=by
   simp only [F9] at h
   omega
  exact mul_cancel (I.topn i hi) h2
theorem BI.red_lead{n m:Nat}{A R:Mx}{k:Nat}{L:Nat->Nat}{last:Int}{c:Nat}{B:Mx}(I:BI n m A R k L last c B){s i:Nat}(hs:s<k)(hi:i<k):redx B k L (L s) i=if i=s then last else 0:=by
 refine (I.only (j:=L s) (B4 (I.Lc s hs) I.cm) (y:=fun i=>if i=s then last else 0) (fun i hi=> ?_) k i hi (by omega)).symm;rw [JT (r:=s) hs fun t _ ht=>by rw [AR ht,C8],AU rfl,CN]
theorem BI.red_ahead{n m:Nat}{A R:Mx}{k:Nat}{L:Nat->Nat}{last:Int}{c:Nat}{B:Mx}(I:BI n m A R k L last c B){i j:Nat}(hi:i<k)(hj:j<L i):∀d t,t<k->i<=t->k - t<=d->redx B k L j t=0
 | 0,t,ht,_,hd=>by omega
 | d+1,t,ht,hit,hd=>by
  have hLi:L i<=L t:=by
   rcases Nat.lt_or_ge i t with h | h
   . exact GI (I.Li i t h ht)
   . have:i=t:=by omega
     subst this;exact A8 _
  have hm:j<m:=by have:=I.Lc t ht;have:=I.cm;omega
  have h:=I.back ht hm
  rw [I.topz t ht j (by omega),C8,sum_zero fun u hu=>by
   rw [I.red_ahead hi hj d (t+1+u) (by omega) (by omega) (by omega),C8]] at h
  have h2:R t (L t)*redx B k L j t=0:=by omega
  rcases DL.mp h2 with h3 | h3
  . exact absurd h3 (I.topn t ht)
  . exact h3
theorem jQ(s j:Nat):(unit s j).natAbs<=1:=by unfold unit;split <;> decide
theorem tL{N Y n:Nat}{M:Mx}(hn:n<=N)(hY:1<=Y)(h:∀i,i<n->∀j,j<n->(M i j).natAbs<=Y)(r s:Nat):(cof n M r s).natAbs<=(N*Y) ^ n:=by
 unfold cof;refine R5 hn fun i hi j hj=> ?_
 by_cases e:i=r
 . subst e;rw [CU];exact AY (jQ s j) hY
 . rw [DM e];exact h i hi j hj
theorem rC{N Y n:Nat}{M:Mx}{b:Nat->Int}(hn:n<=N)(hY:1<=Y)(h:∀i,i<n->∀j,j<n->(M i j).natAbs<=Y)(hb:∀i,i<n->(b i).natAbs<=Y)(s:Nat):(crx n M b s).natAbs<=n*((N*Y) ^ n*Y):=by
 unfold crx;refine VF fun i hi=> ?_;rw [Int.natAbs_mul];exact Nat.mul_le_mul (tL hn hY h i s) (hb i hi)
theorem BI.red_abs {n m Y : Nat} {A R : Mx} {k : Nat} {L : Nat -> Nat} {last : Int} {c : Nat} {B : Mx} (I : BI n m A R k L last c B) (hY : 1 <= Y) (hA : ∀ i, i < n -> ∀ j, j < m -> (A i j).natAbs <= Y) {j : Nat} (hj : j < m) (t : Nat) :
 (redx B k L j t).natAbs<=k*((n*Y) ^ k*Y):=by
 have hB:=I.ex.bound hA;unfold redx;refine rC I.kn hY (fun r hr t ht=>hB r (Nat.lt_of_lt_of_le hr I.kn) (L t) (Nat.lt_of_lt_of_le (I.Lc t ht) I.cm)) (fun r hr=>hB r (Nat.lt_of_lt_of_le hr I.kn) j hj) t
end Ba
namespace Ba
def Ker(n m:Nat)(A:Mx)(x:Nat->Int):Prop:=∀i,i<n->sumN m (fun j=>A i j*x j)=0
structure RR (m k:Nat) (L:Nat->Nat) (ρ:Mx) (e:Int):Prop where
 nz:e≠0
 Lm:∀t,t<k->L t<m
 Li:∀s t,s<t->t<k->L s<L t
 ld:∀t,t<k->∀s,s<k->ρ t (L s)=if t=s then e else 0
 az:∀t,t<k->∀j,j<L t->ρ t j=0
theorem RR.inj{m k:Nat}{L:Nat->Nat}{ρ:Mx}{e:Int}(h:RR m k L ρ e){s t:Nat}(hs:s<k)(ht:t<k)(he:L s=L t):s=t:=by
 rcases Nat.lt_trichotomy s t with h1 | h1 | h1
 . have:=h.Li s t h1 ht;omega
 . exact h1
 . have:=h.Li t s h1 hs;omega
open Classical in
noncomputable def kv(k:Nat)(L:Nat->Nat)(ρ:Mx)(e:Int)(j:Nat)(c:Nat):Int:=
 if c=j then e else if h:∃t,t<k/\L t=c then - ρ h.choose j else 0
theorem A99{k:Nat}{L:Nat->Nat}{ρ:Mx}{e:Int}{j:Nat}:kv k L ρ e j j=e:=by unfold kv;rw [if_pos rfl]
theorem RR.kv_L{m k:Nat}{L:Nat->Nat}{ρ:Mx}{e:Int}(h:RR m k L ρ e){j t:Nat}(ht:t<k)(hj:L t≠j):kv k L ρ e j (L t) = - ρ t j:=by
 unfold kv;rw [if_neg hj];have hx:∃s,s<k/\L s=L t:=⟨t,ht,rfl⟩;rw [dif_pos hx,h.inj hx.choose_spec.1 ht hx.choose_spec.2]
theorem kv_else{k:Nat}{L:Nat->Nat}{ρ:Mx}{e:Int}{j c:Nat}(hc:c≠j)(hn:∀t,t<k->L t≠c):kv k L ρ e j c=0:=by
 unfold kv;rw [if_neg hc,dif_neg];rintro ⟨t,ht,h⟩;exact hn t ht h
theorem YY{n r s:Nat}{f:Nat->Int}(hr:r<n)(hs:s<n)(hrs:r≠s)(h:∀i,i<n->i≠r->i≠s->f i=0):sumN n f=f r+f s:=by
 have e:sumN n f=sumN n (fun i=>if i=r then f r else 0)+sumN n (fun i=>if i=r then 0 else f i):=by
  rw [<-sum_add];exact sum_congr fun i _=>by split <;> simp_all
 rw [e,JT (r:=r) hr fun i _ hi=>by rw [AR hi],JT (r:=s) hs fun i hi hne=>by
  by_cases e2:i=r
  . rw [AU e2]
  . rw [AR e2];exact h i hi e2 hne]
 rw [AU rfl,AR (fun q=>hrs q.symm)]
theorem RR.row_kv {m k k' : Nat} {L : Nat -> Nat} {ρ ρ' : Mx} {e e' : Int} (h : RR m k L ρ e) (h' : RR m k' L ρ' e') (hk : k' = k) {j t : Nat} (hj : j < m) (hn : ∀ t, t < k -> L t ≠ j) (ht : t < k) :
 sumN m (fun c=>ρ' t c*kv k L ρ e j c)=e'*(- ρ t j)+ρ' t j*e:=by
 subst hk;rw [YY (r:=L t) (s:=j) (h.Lm t ht) hj (hn t ht) fun c hc h1 h2=> ?_]
 . rw [h.kv_L ht (hn t ht),A99,h'.ld t ht t ht,AU rfl]
 . by_cases hx:∃s,s<k'/\L s=c
   . obtain ⟨s,hs,rfl⟩:=hx;have hts:t≠s:=fun q=>h1 (by rw [q]);rw [h'.ld t ht s hs,AR hts,FA]
   . rw [kv_else h2 fun t ht q=>hx ⟨t,ht,q⟩,C8]
theorem RR.ker_kv{m k:Nat}{L:Nat->Nat}{ρ:Mx}{e:Int}(h:RR m k L ρ e){j:Nat}(hj:j<m)(hn:∀t,t<k->L t≠j):Ker k m ρ (kv k L ρ e j):=fun t ht=>by
 rw [h.row_kv h rfl hj hn ht,NB,CN];omega
theorem BI.rr{n m:Nat}{A R:Mx}{k:Nat}{L:Nat->Nat}{last:Int}{c:Nat}{B:Mx}(I:BI n m A R k L last c B):RR m k L (fun t j=>redx B k L j t) last where
 nz:=I.nz
 Lm:=fun t ht=>B4 (I.Lc t ht) I.cm
 Li:=I.Li
 ld:=fun t ht s hs=>I.red_lead hs ht
 az:=fun t ht j hj=>I.red_ahead ht hj k t ht (A8 _) (by omega)
theorem Ex.ker{n m:Nat}{A B:Mx}(h:Ex n A B)(x:Nat->Int):Ker n m A x↔Ker n m B x:=by
 induction h with
 | refl=>exact Iff.rfl
 | @step B r s hr hs hrs _ ih=>
  rw [ih]
  have neg:sumN m (fun j=> - B r j*x j) = - sumN m (fun j=>B r j*x j):=by
   have:=sum_mul (-1) (n:=m) (f:=fun j=>B r j*x j);rw [show (- sumN m (fun j=>B r j*x j)) = -1*sumN m (fun j=>B r j*x j) by omega, <-this];exact sum_congr fun j _=>by rw [GH,GH,ND]
  constructor
  . intro k i hi
    by_cases e1:i=s
    . subst e1;rw [NP];show sumN m (fun j=> - B r j*x j)=0;rw [neg,k r hr];rfl
    . by_cases e2:i=r
      . subst e2;rw [exch_r hrs];exact k s hs
      . rw [JX e2 e1];exact k i hi
  . intro k i hi
    by_cases e1:i=s
    . subst e1;have:=k r hr;rw [exch_r hrs] at this;exact this
    . by_cases e2:i=r
      . subst e2;have h1:=k s hs;rw [NP] at h1
        have h2:sumN m (fun j=> - B i j*x j)=0:=h1;rw [neg] at h2;omega
      . have:=k i hi;rw [JX e2 e1] at this;exact this
theorem sum_mul_right(a:Int){n:Nat}{f:Nat->Int}:sumN n (fun i=>f i*a)=sumN n f*a:=by
 rw [CN, <-sum_mul];exact sum_congr fun i _=>CN _ _
theorem BI.ker{n m:Nat}{A R:Mx}{k:Nat}{L:Nat->Nat}{last:Int}{B:Mx}(I:BI n m A R k L last m B)(x:Nat->Int):Ker n m A x↔Ker k m (fun t j=>redx B k L j t) x:=by
 rw [I.ex.ker (m:=m)]
 constructor
 . intro h t ht;show sumN m (fun j=>redx B k L j t*x j)=0
   have e:sumN m (fun j=>redx B k L j t*x j)=sumN m (fun j=>sumN k (fun r=>cof k (fun r t=>B r (L t)) r t*(B r j*x j))):=sum_congr fun j _=>by
    unfold redx crx;rw [<-sum_mul_right];exact sum_congr fun r _=>Int.mul_assoc _ _ _
   rw [e,sum_comm];refine sum_zero fun r hr=> ?_;rw [sum_mul,h r (B4 hr I.kn),C8]
 . intro h
   have top:∀p,p<k->sumN m (fun j=>B p j*x j)=0:=fun p hp=>by
    have e:last*sumN m (fun j=>B p j*x j)=0:=by
     rw [<-sum_mul]
     have e1:sumN m (fun j=>last*(B p j*x j))=sumN m (fun j=>sumN k (fun t=>B p (L t)*(redx B k L j t*x j))):=sum_congr fun j _=>by
      have c:=pK k (fun r t=>B r (L t)) (fun r=>B r j) hp;have e2:last=det k (fun r t=>B r (L t)):=I.ld;rw [<-e2] at c
      rw [<-CK];show last*B p j*x j=_;rw [<-c, <-sum_mul_right];exact sum_congr fun t _=>CK _ _ _
     rw [e1,sum_comm];refine sum_zero fun t ht=> ?_;rw [sum_mul,show sumN m (fun j=>redx B k L j t*x j)=0 from h t ht,C8]
    rcases DL.mp e with e | e
    . exact absurd e I.nz
    . exact e
   intro i hi;rcases Nat.lt_or_ge i k with h1 | h1
   . exact top i h1
   . obtain ⟨μ,hμ,q,hq⟩:=I.bot i h1 hi
     have e:μ*sumN m (fun j=>B i j*x j)=0:=by
      rw [<-sum_mul]
      have e1:sumN m (fun j=>μ*(B i j*x j))=sumN m (fun j=> -1*sumN k (fun p=>q p*(B p j*x j))):=sum_congr fun j hj=>by
       have e2:=hq j hj;rw [I.zero i h1 hi j hj,C8] at e2
       rcases DL.mp e2.symm with e3 | e3
       . exact absurd e3 I.nz
       . have e4:μ*B i j = -1*sumN k (fun p=>q p*B p j):=by omega
         rw [<-CK,e4,CK, <-sum_mul_right];congr 1
         exact sum_congr fun p _=>CK _ _ _
      rw [e1,sum_mul,sum_comm,sum_zero fun p hp=> ?_]
      . rfl
      . rw [sum_mul,top p hp,C8]
     rcases DL.mp e with e | e
     . exact absurd e hμ
     . exact e
end Ba
namespace Ba
theorem qG{n:Nat}{f g:Nat->Int}(h:sumN n (fun i=>f i - g i)=0):sumN n f=sumN n g:=by
 have e:=MF 1 (-1) (n:=n) (f:=f) (g:=g);have e2:sumN n (fun i=>1*f i + -1*g i)=sumN n (fun i=>f i - g i):=sum_congr fun i _=>by omega
 rw [e2,h] at e
 omega
theorem Ex.comb{n:Nat}{A B:Mx}(h:Ex n A B):∀q:Nat->Int,∃q':Nat->Int,∀j,sumN n (fun i=>q i*B i j)=sumN n (fun i=>q' i*A i j):=by
 induction h with
 | refl=>exact fun q=>⟨q,fun _=>rfl⟩
 | @step B r s hr hs hrs _ ih=>
  intro q;obtain ⟨q',h⟩:=ih fun i=>if i=s then q r else if i=r then - q s else q i
  refine ⟨q',fun j=>Eq.trans ?_ (h j)⟩;refine qG ?_;rw [YY hr hs hrs]
  . rw [exch_r hrs,NP];simp only [hrs,HJ,FP];rw [NB,GH];omega
  . intro i _ h1 h2;rw [JX h1 h2];simp only [h1,h2,HJ];omega
theorem pJ{n k:Nat}{f:Nat->Int}(h:k<=n):sumN n (fun i=>if i<k then f i else 0)=sumN k f:=by
 induction n with
 | zero => have : k = 0 := by omega
           subst this;rfl
 | succ n ih=>
  by_cases e:k=n+1
  . subst e;exact sum_congr fun i hi=>AU hi
  . show sumN n _+(if n<k then f n else 0)=_;rw [ih (by omega),AR (by omega),LN]
theorem BI.never {n m : Nat} {A R : Mx} {k : Nat} {L : Nat -> Nat} {last : Int} {B : Mx} (I : BI n (m + 1) A R k L last (m + 1) B) {s : Nat} (hs : s < k) (hm : L s = m) :
 ∃q:Nat->Int,(∀j,j<m->sumN n (fun i=>q i*A i j)=0)/\sumN n (fun i=>q i*A i m)≠0:=by
 obtain ⟨q,h⟩:=I.ex.comb fun r=>if r<k then cof k (fun r t=>B r (L t)) r s else 0
 have e:∀j,sumN n (fun i=>q i*A i j)=redx B k L j s:=fun j=>by
  rw [<-h j];unfold redx crx;rw [<-pJ I.kn];refine sum_congr fun i _=> ?_
  by_cases hi:i<k
  . rw [AU hi,AU hi]
  . rw [AR hi,AR hi,FA]
 refine ⟨q,fun j hj=>(e j).trans (I.rr.az s hs j (by omega)),?_⟩;rw [e m];have:=I.rr.ld s hs s hs;rw [AU rfl,hm] at this
 show redx B k L m s≠0;rw [show redx B k L m s=last from this];exact I.nz
theorem BI.found {n m : Nat} {A R : Mx} {k : Nat} {L : Nat -> Nat} {last : Int} {B : Mx} (I : BI n (m + 1) A R k L last (m + 1) B) (hn : ∀ t, t < k -> L t ≠ m) {X : Nat -> Int} (h1 : ∀ t, t < k -> X (L t) = redx B k L m t) (h0 : ∀ j, j < m -> (∀ t, t < k -> L t ≠ j) -> X j = 0) :
 ∀i,i<n->sumN m (fun j=>A i j*X j)=last*A i m:=by
 intro i hi;have h:=(I.ker _).2 (I.rr.ker_kv (j:=m) (by omega) hn) i hi;have h:sumN m (fun j=>A i j*kv k L (fun t j=>redx B k L j t) last m j)+A i m*kv k L (fun t j=>redx B k L j t) last m m=0:=h;rw [A99] at h
 have e:sumN m (fun j=>A i j*kv k L (fun t j=>redx B k L j t) last m j) = -1*sumN m (fun j=>A i j*X j):=by
  rw [<-sum_mul];refine sum_congr fun j hj=> ?_
  have:kv k L (fun t j=>redx B k L j t) last m j = - X j:=by
   by_cases hx:∃t,t<k/\L t=j
   . obtain ⟨t,ht,rfl⟩:=hx;rw [I.rr.kv_L ht (hn t ht),h1 t ht]
   . have hx:∀t,t<k->L t≠j:=fun t ht e=>hx ⟨t,ht,e⟩;rw [kv_else (by omega) hx,h0 j hj hx];rfl
  rw [this,NB,GH,ND]
 rw [e] at h
 rw [CN last];omega
def gram(N:Nat)(R:Mx):Mx:=fun i j=>sumN N (fun k=>R k i*R k j)
theorem gram_sym{N:Nat}{R:Mx}(i j:Nat):gram N R i j=gram N R j i:=sum_congr fun k _=>CN _ _
end Ba
namespace Sp
abbrev Wd:=List Nat
def Ok(p n:Nat)(w:Wd):Prop:=w.length=n/\∀r ∈ w,r<p
def put(p:Nat)(u:Wd)(f:Nat)(w:Wd):Wd:=List.zipWith (fun a b=>(a+f*b) % p) u w
theorem KS{A B p s t:Nat}(h:A+p*s=B+p*t):A % p=B % p:=by
 rw [<-pM A p s, <-pM B p t,h]
theorem EG(A p:Nat):∃q,A=A % p+p*q:=⟨A / p,by rw [fU]⟩
theorem Ok.get{p n:Nat}{w:Wd}(h:Ok p n w){i:Nat}(hi:i<n):∃x,w[i]? = some x/\x<p:=by
 have:i<w.length:=by rw [h.1];exact hi
 exact ⟨w[i],AD this,h.2 _ (G8 this)⟩
theorem put_ok{p n:Nat}(hp:0<p){u w:Wd}(hu:u.length=n)(hw:w.length=n)(f:Nat):Ok p n (put p u f w):=by
 refine ⟨by unfold put;rw [List.length_zipWith,hu,hw,Nat.min_self],fun r hr=> ?_⟩;unfold put at hr
 obtain ⟨i,hi,e⟩:=RF.mp hr;rw [List.getElem_zipWith] at e
 rw [<-e];exact DC _ hp
theorem EQ{p n:Nat}{u w:Wd}(hu:Ok p n u)(hw:Ok p n w){f i x y:Nat}(hx:u[i]? = some x)(hy:w[i]? = some y):(put p u f w)[i]? = some ((x+f*y) % p):=by
 unfold put;rw [List.getElem?_zipWith,hx,hy]
theorem ext{p n:Nat}{u w:Wd}(hu:Ok p n u)(hw:Ok p n w)(h:∀i x y,i<n->u[i]? = some x->w[i]? = some y->x=y):u=w:=by
 refine NA fun i=> ?_
 by_cases hi:i<n
 . obtain ⟨x,ex,_⟩:=hu.get hi;obtain ⟨y,ey,_⟩:=hw.get hi;rw [ex,ey,h i x y hi ex ey]
 . rw [BX (by rw [hu.1];omega),BX (by rw [hw.1];omega)]
theorem JL{p n:Nat}(hp:0<p){u w:Wd}(hu:Ok p n u)(hw:Ok p n w):put p u 0 w=u:=by
 refine ext (put_ok hp hu.1 hw.1 0) hu fun i x y hi hx hy=> ?_;obtain ⟨z,ez,_⟩:=hw.get hi;obtain ⟨y',ey,hy'⟩:=hu.get hi;rw [EQ hu hw hy ez] at hx
 cases hx
 rw [hy] at ey
 cases ey
 rw [PF,F9,CC hy']
theorem pW{p n:Nat}(hp:0<p){u u' w:Wd}(hu:Ok p n u)(hu':Ok p n u')(hw:Ok p n w)(f f' h:Nat):put p (put p u f w) h (put p u' f' w)=put p (put p u h u') ((f+h*f') % p) w:=by
 have o1:=put_ok hp hu.1 hw.1 f;have o2:=put_ok hp hu'.1 hw.1 f';have o3:=put_ok hp hu.1 hu'.1 h;refine ext (put_ok hp o1.1 o2.1 h) (put_ok hp o3.1 hw.1 _) fun i x y hi hx hy=> ?_;obtain ⟨a,ea,_⟩:=hu.get hi;obtain ⟨b,eb,_⟩:=hu'.get hi;obtain ⟨c,ec,_⟩:=hw.get hi;rw [EQ o1 o2 (EQ hu hw ea ec) (EQ hu' hw eb ec)] at hx
 rw [EQ o3 hw (EQ hu hu' ea eb) ec] at hy
 cases hx
 cases hy
 obtain ⟨q1,h1⟩:=EG (a+f*c) p;obtain ⟨q2,h2⟩:=EG (b+f'*c) p;obtain ⟨q3,h3⟩:=EG (a+h*b) p;obtain ⟨q4,h4⟩:=EG (f+h*f') p;generalize (a+f*c) % p=r at h1 ⊢
 generalize (b+f'*c) % p=r' at h2 ⊢
 generalize (a+h*b) % p=t at h3 ⊢
 generalize (f+h*f') % p=g at h4 ⊢
 refine KS (s:=q1+h*q2) (t:=q3+q4*c) ?_
 grind
theorem cJ{p n:Nat}(hp:0<p){u u' w:Wd}(hu:Ok p n u)(hu':Ok p n u')(hw:Ok p n w){f:Nat}(h:put p u f w=put p u' f w):u=u':=by
 refine ext hu hu' fun i x y hi hx hy=> ?_;obtain ⟨x',ex,bx⟩:=hu.get hi;obtain ⟨y',ey,bz⟩:=hu'.get hi;obtain ⟨c,ec,_⟩:=hw.get hi;rw [hx] at ex;cases ex
 rw [hy] at ey;cases ey
 have e:=GM (fun l:Wd=>l[i]?) h;rw [EQ hu hw hx ec,EQ hu' hw hy ec] at e
 have e:=B6 e;obtain ⟨q1,h1⟩:=EG (x+f*c) p;obtain ⟨q2,h2⟩:=EG (y+f*c) p;rw [e] at h1
 generalize (y+f*c) % p=r at h1 h2
 have h3:x+p*q2=y+p*q1:=by omega
 have:=KS h3
 rwa [CC bx,CC bz] at this
theorem inv{p:Nat}(hp:p=2\/p=3\/p=5\/p=7){f f':Nat}(hf:f<p)(hf':f'<p)(h:f≠f'):∃g k,g*(f+(p - f'))=1+p*k:=by
 rcases hp with rfl | rfl | rfl | rfl
 . have:∀f<2,∀f'<2,f≠f'->∃g<2,∃k<20,g*(f+(2 - f'))=1+2*k:=by decide
   obtain ⟨g,_,k,_,e⟩:=this f hf f' hf' h;exact ⟨g,k,e⟩
 . have:∀f<3,∀f'<3,f≠f'->∃g<3,∃k<20,g*(f+(3 - f'))=1+3*k:=by decide
   obtain ⟨g,_,k,_,e⟩:=this f hf f' hf' h;exact ⟨g,k,e⟩
 . have:∀f<5,∀f'<5,f≠f'->∃g<5,∃k<20,g*(f+(5 - f'))=1+5*k:=by decide
   obtain ⟨g,_,k,_,e⟩:=this f hf f' hf' h;exact ⟨g,k,e⟩
 . have:∀f<7,∀f'<7,f≠f'->∃g<7,∃k<20,g*(f+(7 - f'))=1+7*k:=by decide
   obtain ⟨g,_,k,_,e⟩:=this f hf f' hf' h;exact ⟨g,k,e⟩
def zero(n:Nat):Wd:=List.replicate n 0
theorem L6{p:Nat}(hp:0<p)(n:Nat):Ok p n (zero n):=⟨CF,fun r hr=>by rw [(LS.mp hr).2];exact hp⟩
theorem KM{n i:Nat}(hi:i<n):(zero n)[i]? = some 0:=by unfold zero;rw [List.getElem?_replicate,if_pos hi]
theorem A75 {p n : Nat} (hp : 0 < p) {u u' w : Wd} (hu : Ok p n u) (hu' : Ok p n u') (hw : Ok p n w) {f f' g k : Nat} (hf' : f' < p) (hg : g * (f + (p - f')) = 1 + p * k) (h : put p u f w = put p u' f' w) :
 put p (put p (zero n) g u') (g*(p - 1)) u=w:=by
 have o0:=L6 hp n;have o1:=put_ok hp o0.1 hu'.1 g;refine ext (put_ok hp o1.1 hu.1 _) hw fun i x y hi hx hy=> ?_;obtain ⟨a,ea,_⟩:=hu.get hi;obtain ⟨b,eb,_⟩:=hu'.get hi;obtain ⟨c,ec,bc⟩:=hw.get hi;rw [hy] at ec;cases ec
 rw [EQ o1 hu (EQ o0 hu' (KM hi) eb) ea] at hx
 cases hx
 have e:=GM (fun l:Wd=>l[i]?) h;rw [EQ hu hw ea hy,EQ hu' hw eb hy] at e
 have e:=B6 e;obtain ⟨q1,h1⟩:=EG (a+f*y) p;obtain ⟨q2,h2⟩:=EG (b+f'*y) p;rw [e] at h1
 generalize (b+f'*y) % p=r at h1 h2
 obtain ⟨q3,h3⟩:=EG (0+g*b) p;generalize (0+g*b) % p=t at h3 ⊢
 rw [<-CC bc];obtain ⟨p',rfl⟩:∃p',p=p'+1:=⟨p - 1,by omega⟩;obtain ⟨d,hd⟩:∃d,p'+1=f'+d:=⟨p'+1 - f',by omega⟩;rw [show p'+1 - f'=d by omega] at hg
 rw [show p'+1 - 1=p' by omega];have h4:b+f'*y+(p'+1)*q1=a+f*y+(p'+1)*q2:=by omega
 refine KS (s:=q3+g*q1+g*y) (t:=g*a+y*k+g*q2) ?_
 grind
structure Cl (p n:Nat) (M:List Wd):Prop where
 ok:∀u ∈ M,Ok p n u
 z:zero n ∈ M
 put:∀u ∈ M,∀v ∈ M,∀f,put p u f v ∈ M
def mults(p:Nat)(F:List Nat)(M:List Wd)(w:Wd):List Wd:=F.flatMap fun f=>M.map fun u=>put p u f w
theorem mem_mults{p:Nat}{F:List Nat}{M:List Wd}{w x:Wd}:x ∈ mults p F M w↔∃f ∈ F,∃u ∈ M,put p u f w=x:=by
 unfold mults;rw [List.mem_flatMap]
 constructor
 . rintro ⟨f,hf,h⟩;obtain ⟨u,hu,e⟩:=BK.mp h;exact ⟨f,hf,u,hu,e⟩
 . rintro ⟨f,hf,u,hu,e⟩;exact ⟨f,hf,BK.mpr ⟨u,hu,e⟩⟩
def stepM(p:Nat)(M:List Wd)(w:Wd):List Wd:=if w ∈ M then M else mults p (List.range p) M w
def spanM(p n:Nat)(W:List Wd):List Wd:=W.foldl (stepM p) [zero n]
def addT(acc:List Wd)(x:Wd):List Wd:=if x ∈ acc then acc else acc ++ [x]
def stepT(p:Nat)(T:List Wd)(w:Wd):List Wd:=(mults p (List.range' 1 (p - 1)) T w).foldl addT T
def spanT(p n:Nat)(W:List Wd):List Wd:=W.foldl (stepT p) [zero n]
theorem oF{p n:Nat}(hp:0<p){M:List Wd}(h:Cl p n M){w:Wd}(hw:Ok p n w):Cl p n (mults p (List.range p) M w):=by
 refine ⟨fun x hx=> ?_,?_,fun x hx y hy f=> ?_⟩
 . obtain ⟨f,_,u,hu,rfl⟩:=mem_mults.mp hx;exact put_ok hp (h.ok u hu).1 hw.1 f
 . exact mem_mults.mpr ⟨0,BC.mpr hp,_,h.z,JL hp (L6 hp n) hw⟩
 . obtain ⟨f1,_,u,hu,rfl⟩:=mem_mults.mp hx;obtain ⟨f2,_,v,hv,rfl⟩:=mem_mults.mp hy;rw [pW hp (h.ok u hu) (h.ok v hv) hw];exact mem_mults.mpr ⟨_,BC.mpr (DC _ hp),_,h.put u hu v hv f,rfl⟩
theorem mults_nodup{p n:Nat}(hq:p=2\/p=3\/p=5\/p=7){M:List Wd}(h:Cl p n M)(nd:M.Nodup){w:Wd}(hw:Ok p n w)(hn:w ∉ M):∀ {F:List Nat},F.Nodup->(∀f ∈ F,f<p)->(mults p F M w).Nodup:=by
 have hp:0<p:=by omega
 intro F
 induction F with
 | nil=>intro _ _;exact List.nodup_nil
 | cons f F ih=>
  intro hF hb;rw [IR] at hF
  have e:mults p (f::F) M w=(M.map fun u=>put p u f w)++mults p F M w:=by unfold mults;rw [List.flatMap_cons]
  rw [e,AF9];refine ⟨?_,ih hF.2 fun g hg=>hb g (AN _ hg),fun x hx y hy exy=> ?_⟩
  . refine WU.mpr (pS (fun {u v} hu hv huv e=>huv ?_) nd);exact cJ hp (h.ok u hu) (h.ok v hv) hw e
  . subst exy;obtain ⟨u,hu,e1⟩:=BK.mp hx;obtain ⟨g,hg,v,hv,e2⟩:=mem_mults.mp hy;have bf:=hb f B5;have bg:=hb g (AN _ hg);have hfg:f≠g:=fun c=>hF.1 (c ▸ hg);obtain ⟨i,k,hi⟩:=inv hq bf bg hfg;have:=A75 hp (h.ok u hu) (h.ok v hv) hw bg hi (e1.trans e2.symm);refine hn ?_;rw [<-this];exact h.put _ (h.put _ h.z _ hv _) _ hu _
theorem addT_fold:∀(l:List Wd) (acc:List Wd),acc.Nodup->(l.foldl addT acc).Nodup/\∀x,x ∈ l.foldl addT acc↔x ∈ acc\/x ∈ l
 | [],acc,h=>⟨h,fun x=>by simp⟩
 | y::l,acc,h=>by
  rw [fP]
  have h1:(addT acc y).Nodup/\∀x,x ∈ addT acc y↔x ∈ acc\/x=y:=by
   unfold addT
   split
   . rename_i hy;exact ⟨h,fun x=>⟨.inl,fun hx=>hx.elim id fun e=>e ▸ hy⟩⟩
   . rename_i hy;refine ⟨?_,fun x=>by simp⟩;rw [AF9];exact ⟨h,by simp,fun a ha b hb e=>hy (by rw [AJ.mp hb] at e;exact e ▸ ha)⟩
  obtain ⟨g1,g2⟩:=addT_fold l _ h1.1;refine ⟨g1,fun x=> ?_⟩;rw [g2,h1.2,B7,or_assoc]
theorem uV {p n : Nat} (hq : p = 2 \/ p = 3 \/ p = 5 \/ p = 7) {M T : List Wd} (h : Cl p n M) (nd : M.Nodup) (ndT : T.Nodup) (hs : ∀ x, x ∈ M ↔ x ∈ T) {w : Wd} (hw : Ok p n w) :
 Cl p n (stepM p M w)/\(stepM p M w).Nodup/\(stepT p T w).Nodup/\∀x,x ∈ stepM p M w↔x ∈ stepT p T w:=by
 have hp:0<p:=by omega
 obtain ⟨t1,t2⟩:=addT_fold (mults p (List.range' 1 (p - 1)) T w) T ndT;unfold stepM
 split
 . rename_i hin;refine ⟨h,nd,t1,fun x=> ?_⟩;unfold stepT;rw [t2,hs];refine ⟨.inl,fun hx=>hx.elim id fun hx=> ?_⟩;obtain ⟨f,_,u,hu,rfl⟩:=mem_mults.mp hx;exact (hs _).mp (h.put u ((hs u).mpr hu) w hin f)
 . rename_i hin;refine ⟨oF hp h hw,mults_nodup hq h nd hw hin List.nodup_range (fun f hf=>List.mem_range.mp hf),t1,fun x=> ?_⟩;unfold stepT;rw [t2]
   constructor
   . intro hx;obtain ⟨f,hf,u,hu,rfl⟩:=mem_mults.mp hx
     by_cases h0:f=0
     . subst h0;left;rw [JL hp (h.ok u hu) hw];exact (hs u).mp hu
     . right;have:=BC.mp hf;exact mem_mults.mpr ⟨f,JH.mpr ⟨by omega,by omega⟩,u,(hs u).mp hu,rfl⟩
   . rintro (hx | hx)
     . have hx:=(hs x).mpr hx;exact mem_mults.mpr ⟨0,BC.mpr hp,x,hx,JL hp (h.ok x hx) hw⟩
     . obtain ⟨f,hf,u,hu,rfl⟩:=mem_mults.mp hx;have:=JH.mp hf;exact mem_mults.mpr ⟨f,BC.mpr (by omega),u,(hs u).mpr hu,rfl⟩
theorem vQ {p n : Nat} (hq : p = 2 \/ p = 3 \/ p = 5 \/ p = 7) : ∀ (W : List Wd) (M T : List Wd), (∀ w ∈ W, Ok p n w) -> Cl p n M -> M.Nodup -> T.Nodup -> (∀ x, x ∈ M ↔ x ∈ T) ->
 Cl p n (W.foldl (stepM p) M)/\(W.foldl (stepM p) M).Nodup/\(W.foldl (stepT p) T).Nodup/\∀x,x ∈ W.foldl (stepM p) M↔x ∈ W.foldl (stepT p) T
 | [],M,T,_,h,a,b,c=>⟨h,a,b,c⟩
 | w::W,M,T,hW,h,a,b,c=>by
  obtain ⟨h',a',b',c'⟩:=uV hq h a b c (hW w B5);exact vQ hq W _ _ (fun v hv=>hW v (AN _ hv)) h' a' b' c'
theorem dO{p:Nat}(hp:0<p)(n:Nat):Cl p n [zero n]:=by
 have o:=L6 hp n;refine ⟨fun u hu=>by rw [AJ.mp hu];exact o,AJ.mpr rfl,fun u hu v hv f=> ?_⟩;rw [AJ.mp hu,AJ.mp hv];refine AJ.mpr (ext (put_ok hp o.1 o.1 f) o fun i x y hi hx hy=> ?_);rw [EQ o o (KM hi) (KM hi)] at hx
 rw [KM hi] at hy
 cases hx
 cases hy
 rw [PH,F9,PJ]
theorem span_take{p n:Nat}(hq:p=2\/p=3\/p=5\/p=7){W:List Wd}(hW:∀w ∈ W,Ok p n w):Cl p n (spanM p n W)/\(spanM p n W).Nodup/\(spanT p n W).Nodup/\∀x,x ∈ spanM p n W↔x ∈ spanT p n W:=
 vQ hq W _ _ hW (dO (by omega) n) (IY _ _) (IY _ _) fun _=>Iff.rfl
def tP(p:Nat):Nat->List Wd
 | 0=> [[]]
 | n+1=>(tP p n).flatMap fun w=>(List.range p).map fun r=>r::w
theorem YR(p:Nat):∀n,(tP p n).length=p ^ n
 | 0=>rfl
 | n+1=>by
  have e:∀l:List Wd,(l.flatMap fun w=>(List.range p).map fun r=>r::w).length=l.length*p:=fun l=>by
   induction l with
   | nil=>simp
   | cons x l ih=>rw [NC,AO,ih,A4,AI,B9,G0,LJ]
  rw [tP,e,YR p n,WX]
theorem XM{p:Nat}:∀ {n:Nat} {w:Wd},Ok p n w->w ∈ tP p n
 | 0,w,h=>by
  have:w = []:=GA.mp h.1;rw [this]
  exact AJ.mpr rfl
 | n+1,r::w,h=>by
  refine ZN.mpr ⟨w,XM ⟨by simpa using h.1,fun x hx=>h.2 x (AN _ hx)⟩,BK.mpr ⟨r,BC.mpr (h.2 r B5),rfl⟩⟩
 | n+1,[],h=>by cases h.1
theorem len_le{p n:Nat}{M:List Wd}(nd:M.Nodup)(ok:∀w ∈ M,Ok p n w):M.length<=p ^ n:=by
 rw [<-YR p n];exact ZO nd fun w hw=>XM (ok w hw)
end Sp
namespace Ev
abbrev Wd:=List Nat
def ch(c x:Wd):Wd:=c.map fun d=>x.getD d 0
def count(T:List Wd)(c k:Wd):Nat:=(T.filter fun x=>decide (ch c x=k)).length
def lv(L c:Wd):Wd:=c.map fun d=>L.getD d 0
def OkT(L w:Wd):Prop:=w.length=L.length/\∀i,i<L.length->w.getD i 0<L.getD i 0
theorem WJ{a b:Wd}{i:Nat}(h:i<a.length):(a++b).getD i 0=a.getD i 0:=by
 rw [List.getD,List.getD,A9 h]
theorem mX{α:Type} [DecidableEq α]:∀ {l₁ l₂:List α},l₁.Nodup->(∀a ∈ l₁,a ∈ l₂)->l₁.length<=l₂.length
 | [],_,_,_=>DF _
 | a::l₁,l₂,hn,hs=>by
  obtain ⟨h1,h2⟩:=IR.mp hn;have ha:=hs a B5;have ih:=mX (l₁:=l₁) (l₂:=l₂.erase a) h2 fun b hb=>(List.mem_erase_of_ne (by rintro rfl;exact h1 hb)).mpr (hs b (AN _ hb));rw [List.length_erase_of_mem ha] at ih
  have:=wH ha;rw [B9];omega
theorem y8{α:Type} [DecidableEq α] {l₁ l₂:List α} (hn:l₁.Nodup) (hs:∀a ∈ l₁,a ∈ l₂) (hl:l₂.length<=l₁.length):∀a ∈ l₂,a ∈ l₁:=fun a ha=>by
 refine MX fun c=> ?_
 have:=mX (l₁:=a::l₁) (l₂:=l₂) (IR.mpr ⟨c,hn⟩) fun b hb=>by
  rcases B7.mp hb with rfl | hb
  . exact ha
  . exact hs b hb
 rw [B9] at this
 omega
theorem allT_mem:∀(m:Nat) (L w:Wd),L.length=m->(∀c ∈ L,0<c)->(w ∈ Tr.allT L↔OkT L w):=by
 intro m
 induction m with
 | zero=>
  intro L w hl _;have:L = []:=GA.mp hl;subst this;rw [Tr.allT_nil,AJ]
  exact ⟨fun e=>by subst e;exact ⟨rfl,fun i hi=>absurd hi (Nat.not_lt_zero _)⟩,fun h=>GA.mp h.1⟩
 | succ m ih=>
  intro L w hl hp
  obtain ⟨M,c,rfl⟩:∃M c,L=M ++ [c]:=by
   rcases JS L with h | ⟨V,u,h⟩
   . subst h;simp at hl
   . exact ⟨V,u,by simpa using h⟩
  have hM:M.length=m:=by simpa using hl
  have hc:0<c:=hp c (BS _ (AJ.mpr rfl));have ihM:=fun u=>ih M u hM fun e he=>hp e (EW _ he);rw [Tr.allT_snoc _ _ hc,ZN]
  constructor
  . rintro ⟨u,hu,hw⟩;obtain ⟨s,hs,rfl⟩:=BK.mp hw;have ou:=(ihM u).mp hu;refine ⟨by rw [AO,AO,ou.1];rfl,fun i hi=> ?_⟩;rw [AO,GU] at hi
    by_cases h:i<M.length
    . rw [WJ (by rw [ou.1];exact h),WJ h];exact ou.2 i h
    . have e:i=M.length:=by omega
      subst e;have h1:(u ++ [s]).getD M.length 0=s:=by rw [<-ou.1];simp [List.getD]
      have h2:(M ++ [c]).getD M.length 0=c:=by simp [List.getD]
      rw [h1,h2];exact BC.mp hs
  . intro hw
    obtain ⟨u,s,rfl⟩:∃u s,w=u ++ [s]:=by
     rcases JS w with h | ⟨V,u,h⟩
     . subst h;have:=hw.1;simp at this
     . exact ⟨V,u,by simpa using h⟩
    have hu:u.length=M.length:=by have:=hw.1;simpa using this
    refine ⟨u,(ihM u).mpr ⟨hu,fun i hi=> ?_⟩,BK.mpr ⟨s,BC.mpr ?_,rfl⟩⟩
    . have:=hw.2 i (by rw [AO,GU];omega)
      rwa [WJ (by rw [hu];exact hi),WJ hi] at this
    . have:=hw.2 M.length (by rw [AO,GU];omega);have h1:(u ++ [s]).getD M.length 0=s:=by rw [<-hu];simp [List.getD]
      have h2:(M ++ [c]).getD M.length 0=c:=by simp [List.getD]
      rwa [h1,h2] at this
theorem allT_nd:∀(m:Nat) (L:Wd),L.length=m->(∀c ∈ L,0<c)->(Tr.allT L).Nodup:=by
 intro m
 induction m with
 | zero=>
  intro L hl _;have:L = []:=GA.mp hl;subst this;rw [Tr.allT_nil]
  simp
 | succ m ih=>
  intro L hl hp
  obtain ⟨M,c,rfl⟩:∃M c,L=M ++ [c]:=by
   rcases JS L with h | ⟨V,u,h⟩
   . subst h;simp at hl
   . exact ⟨V,u,by simpa using h⟩
  have hM:M.length=m:=by simpa using hl
  have hc:0<c:=hp c (List.mem_append_right _ (List.mem_singleton.mpr rfl));have nM:=ih M hM fun e he=>hp e (List.mem_append_left _ he);rw [Tr.allT_snoc _ _ hc];unfold List.Nodup;rw [List.pairwise_flatMap];refine ⟨fun u _=> ?_,List.Pairwise.imp (fun {u v} huv x hx y hy e=> ?_) nM⟩
  . rw [WU];refine List.Pairwise.imp (fun {s t} h e=> ?_) (List.nodup_range (n:=c));exact h (List.cons.inj (List.append_cancel_left e)).1
  . obtain ⟨s,_,rfl⟩:=BK.mp hx;obtain ⟨t,_,rfl⟩:=BK.mp hy;exact huv (List.append_inj_left' e rfl)
def fst(c:Wd):Nat:=match c.getLast? with
 | none=>0
 | some l=>l+1
def nx(n:Nat)(c:Wd):List Wd:=(List.range (n - fst c)).map fun i=>c ++ [fst c+i]
def CB(n:Nat):Nat->List Wd
 | 0=> [[]]
 | j+1=>(CB n j).flatMap (nx n)
end Ev
namespace Sp
def dot(w x:Wd):Nat:=((List.zip w x).map fun q=>q.1*q.2).sum
theorem IQ(a b:Nat)(w x:Wd):dot (a::w) (b::x)=a*b+dot w x:=by
 unfold dot;rw [List.zip_cons_cons,List.map_cons,List.sum_cons]
theorem P5:∀w x:Wd,dot w x=dot x w
 | [],_=>by simp [dot]
 | _::_,[]=>by simp [dot]
 | a::w,b::x=>by rw [IQ,IQ,P5 w x,G1]
theorem VX{A B p:Nat}(h:A % p=B % p):∃k l,A+p*k=B+p*l:=by
 refine ⟨B / p,A / p,?_⟩;have h1:=fU A p;have h2:=fU B p;rw [h] at h1
 omega
theorem L4{p:Nat}(f:Nat):∀u w x:Wd,u.length=w.length->dot (put p u f w) x % p=(dot u x+f*dot w x) % p
 | [],[],x,_=>by simp [put,dot]
 | a::u,b::w,[],_=>by simp [put,dot]
 | a::u,b::w,c::x,h=>by
  have ih:=L4 (p:=p) f u w x (by simpa using h);have e:put p (a::u) f (b::w)=(a+f*b) % p::put p u f w:=by unfold put;rw [List.zipWith_cons_cons]
  rw [e,IQ,IQ,IQ];obtain ⟨q,hq⟩:=EG (a+f*b) p;generalize (a+f*b) % p=r at hq ⊢
  obtain ⟨k,l,ih⟩:=VX ih;generalize dot (put p u f w) x=D at ih ⊢
  generalize dot u x=A at ih ⊢
  generalize dot w x=B at ih ⊢
  refine KS (s:=q*c+k) (t:=l) ?_
  grind
theorem OQ{p:Nat}(f:Nat)(u x y:Wd)(h:x.length=y.length):dot u (put p x f y) % p=(dot u x+f*dot u y) % p:=by
 rw [P5,L4 f x y u h,P5 x u,P5 y u]
theorem XC(n:Nat):∀x:Wd,dot (zero n) x=0:=by
 induction n with
 | zero=>intro x;simp [zero,dot]
 | succ n ih=>
  intro x
  cases x with
  | nil=>simp [zero,dot]
  | cons b x=>
   have:zero (n+1)=0::zero n:=rfl;rw [this,IQ,ih,PF]
def unit(n i:Nat):Wd:=(List.range n).map fun j=>if j=i then 1 else 0
theorem sV{p n i:Nat}(hp:2<=p):Ok p n (unit n i):=⟨by simp [unit],fun r hr=>by
 obtain ⟨j,_,rfl⟩:=BK.mp hr
 split <;> omega⟩
theorem X5:∀(w:Wd) (n i a x:Nat),w.length=n->w[i]? = some x->dot w ((List.range' a n).map fun j=>if j=a+i then 1 else 0)=x
 | [],_,i,a,x,h,e=>by simp at e
 | b::w,0,i,a,x,h,e=>by simp at h
 | b::w,n+1,i,a,x,h,e=>by
  have hn:w.length=n:=by simpa using h
  rw [List.range'_succ,BN,IQ]
  cases i with
  | zero=>
   have hb:b=x:=by simpa using e
   subst hb
   have z:∀(w:Wd) (n c:Nat),w.length=n->a<c->dot w ((List.range' c n).map fun j=>if j=a+0 then 1 else 0)=0:=by
    intro w
    induction w with
    | nil=>intro n c h _;simp [dot]
    | cons d w ih=>
     intro n c h hc
     cases n with
     | zero=>simp at h
     | succ n=>
      rw [List.range'_succ,BN,IQ,AR (by omega),ih n (c+1) (by simpa using h) (by omega),PH]
   rw [AU (by omega),z w n (a+1) hn (by omega),bO,F9]
  | succ i=>
   have e':w[i]? = some x:=by simpa using e
   have ih:=X5 w n i (a+1) x hn e';rw [AR (by omega),PH,I9,show a+(i+1)=a+1+i by omega];exact ih
theorem ZI{p n:Nat}(hq:p=2\/p=3\/p=5\/p=7){M:List Wd}(h:Cl p n M){u x:Wd}(hu:Ok p n u){m:Wd}(hm:m ∈ M)(f:Nat)(hx:put p m f u=x):x ∈ stepM p M u:=by
 have hp:0<p:=by omega
 unfold stepM
 split
 . rename_i hin;rw [<-hx];exact h.put m hm u hin f
 . refine mem_mults.mpr ⟨f % p,BC.mpr (DC _ hp),m,hm,?_⟩;rw [<-hx];refine ext (put_ok hp (h.ok m hm).1 hu.1 _) (put_ok hp (h.ok m hm).1 hu.1 _) fun i a b hi ha hb=> ?_;obtain ⟨c,ec,_⟩:=(h.ok m hm).get hi;obtain ⟨d,ed,_⟩:=hu.get hi;rw [EQ (h.ok m hm) hu ec ed] at ha hb
   cases ha
   cases hb
   obtain ⟨q,hq⟩:=EG f p;generalize f % p=r at hq ⊢
   subst hq;refine KS (s:=q*d) (t:=0) ?_
   grind
theorem kK{p n:Nat}(hp:0<p){w u:Wd}(hw:Ok p n w)(hu:Ok p n u)(g:Nat):put p (put p w g u) (g*(p - 1)) u=w:=by
 have o1:=put_ok hp hw.1 hu.1 g;refine ext (put_ok hp o1.1 hu.1 _) hw fun i x y hi hx hy=> ?_;obtain ⟨d,ed,_⟩:=hu.get hi;obtain ⟨y',ey,by'⟩:=hw.get hi;rw [hy] at ey;cases ey
 rw [EQ o1 hu (EQ hw hu hy ed) ed] at hx
 cases hx
 have key:((y+g*d) % p+g*(p - 1)*d) % p=y % p:=by
  obtain ⟨q,hq⟩:=EG (y+g*d) p;generalize (y+g*d) % p=r at hq ⊢
  obtain ⟨p',rfl⟩:∃p',p=p'+1:=⟨p - 1,by omega⟩;rw [show p'+1 - 1=p' by omega];refine KS (s:=q) (t:=g*d) ?_;clear hw hu o1 hy ed
  grind
 rw [key,CC by']
theorem QU{p n:Nat}(hq:p=2\/p=3\/p=5\/p=7){U:List Wd}(hU:∀u ∈ U,Ok p n u):Cl p n (spanM p n U):=(span_take hq hU).1
theorem A77{ p n:Nat}(hq:p=2\/p=3\/p=5\/p=7):∀(k:Nat) (U:List Wd),U.length=k->(∀u ∈ U,Ok p n u)->∀w,Ok p n w->w ∈ spanM p n U\/∃t,Ok p n t/\(∀u ∈ U,dot u t % p=0)/\dot w t % p≠0:=by
 have hp:0<p:=by omega
 have hp2:2<=p:=by omega
 intro k
 induction k with
 | zero=>
  intro U hk hU w hw;have:U = []:=GA.mp hk;subst this
  by_cases hz:w=zero n
  . left;rw [hz];exact AJ.mpr rfl
  . right
    obtain ⟨i,x,hi,ex,hx⟩:∃i x,i<n/\w[i]? = some x/\x≠0:=by
     refine MX fun c=>hz ?_;refine ext hw (L6 hp n) fun i x y hi hx hy=> ?_;rw [KM hi] at hy
     cases hy
     exact MX fun d=>c ⟨i,x,hi,hx,d⟩
    refine ⟨unit n i,sV hp2,fun u hu=>absurd hu (BO),?_⟩
    have e:unit n i=(List.range' 0 n).map fun j=>if j=0+i then 1 else 0:=by
     unfold unit;rw [List.range_eq_range',Nat.zero_add]
    rw [e,X5 w n i 0 x hw.1 ex];obtain ⟨x',ex',bx⟩:=hw.get hi;rw [ex] at ex';cases ex'
    rw [CC bx]
    exact hx
 | succ k ih=>
  intro U hk hU w hw
  obtain ⟨V,u,rfl⟩:∃V u,U=V ++ [u]:=by
   rcases JS U with h | ⟨V,u,h⟩
   . subst h;simp at hk
   . exact ⟨V,u,by simpa using h⟩
  have hk':V.length=k:=by simpa using hk
  have hV:∀v ∈ V,Ok p n v:=fun v hv=>hU v (List.mem_append_left _ hv);have hu:Ok p n u:=hU u (List.mem_append_right _ (List.mem_singleton.mpr rfl));have cl:=QU (n:=n) hq hV;have es:spanM p n (V ++ [u])=stepM p (spanM p n V) u:=by unfold spanM;rw [List.foldl_append];rfl
  rw [es];rcases ih V hk' hV w hw with h1 | ⟨t1,o1,z1,n1⟩
  . left;exact ZI hq cl hu h1 0 (JL hp hw hu)
  . by_cases hz:dot u t1 % p=0
    . right;refine ⟨t1,o1,fun v hv=> ?_,n1⟩;rcases CM.mp hv with hv | hv
      . exact z1 v hv
      . rw [AJ.mp hv];exact hz
    . obtain ⟨i,j,hi⟩:=inv hq (f:=dot u t1 % p) (f':=0) (DC _ hp) hp hz;rw [Nat.sub_zero] at hi
      have hi1:∃a b,i*dot u t1+p*a=1+p*b:=by
       obtain ⟨q,hq'⟩:=EG (dot u t1) p;generalize dot u t1 % p=r at hi hq'
       refine ⟨i,j+i*q,?_⟩;rw [hq']
       grind
      obtain ⟨a1,b1,hi1⟩:=hi1;have ow':=put_ok hp hw.1 hu.1 ((p - 1)*(i*dot w t1));rcases ih V hk' hV _ ow' with h2 | ⟨t2,o2,z2,n2⟩
      . left;exact ZI hq cl hu h2 _ (kK hp hw hu _)
      . right;have ot:=put_ok hp o2.1 o1.1 ((p - 1)*(i*dot u t2));refine ⟨_,ot,fun v hv=> ?_,?_⟩
        . rcases CM.mp hv with hv | hv
          . rw [OQ _ v t2 t1 (by rw [o2.1,o1.1])];obtain ⟨c1,h1⟩:=EG (dot v t1) p;obtain ⟨c2,h2⟩:=EG (dot v t2) p;rw [z1 v hv] at h1
            rw [z2 v hv] at h2
            rw [h1,h2];have:(0+p*c2+(p - 1)*(i*dot u t2)*(0+p*c1))=p*(c2+(p - 1)*(i*dot u t2)*c1):=by grind
            rw [this];exact Nat.mul_mod_right _ _
          . rw [AJ.mp hv,OQ _ u t2 t1 (by rw [o2.1,o1.1])];generalize dot u t2=A;generalize dot u t1=B at hi1
            obtain ⟨p',rfl⟩:∃p',p=p'+1:=⟨p - 1,by omega⟩;rw [show p'+1 - 1=p' by omega]
            have:(A+p'*(i*A)*B) % (p'+1)=0 % (p'+1):=by
             refine KS (s:=p'*A*a1) (t:=A+p'*A*b1) ?_
             grind
            rw [this,PJ]
        . rw [OQ _ w t2 t1 (by rw [o2.1,o1.1])];rw [L4 _ w u t2 (by rw [hw.1,hu.1])] at n2
          intro c;refine n2 ?_;rw [<-c];congr 1
          generalize dot u t2=A;generalize dot w t1=B;generalize dot w t2=C
          grind
theorem S6{p A B C D:Nat}(h1:A % p=B % p)(h2:C % p=D % p)(f:Nat):(A+f*C) % p=(B+f*D) % p:=by
 obtain ⟨k,l,h1⟩:=VX h1;obtain ⟨i,j,h2⟩:=VX h2;refine KS (s:=k+f*i) (t:=l+f*j) ?_
 grind
theorem aV{p n:Nat}{M:List Wd}(ok:∀m ∈ M,Ok p n m){u x y:Wd}(hu:Ok p n u)(hM:∀m ∈ M,dot m x % p=dot m y % p)(h:dot u x % p=dot u y % p):∀m ∈ stepM p M u,dot m x % p=dot m y % p:=by
 intro m hm;unfold stepM at hm
 split at hm
 . exact hM m hm
 . obtain ⟨f,_,v,hv,rfl⟩:=mem_mults.mp hm;have e:v.length=u.length:=by rw [(ok v hv).1,hu.1]
   rw [L4 f v u x e,L4 f v u y e];exact S6 (hM v hv) h f
theorem SW{p n:Nat}(hq:p=2\/p=3\/p=5\/p=7){x y:Wd}:∀(U:List Wd) (M:List Wd),(∀u ∈ U,Ok p n u)->Cl p n M->M.Nodup->(∀u ∈ U,dot u x % p=dot u y % p)->(∀m ∈ M,dot m x % p=dot m y % p)->∀m ∈ U.foldl (stepM p) M,dot m x % p=dot m y % p
 | [],M,_,_,_,_,hM=>hM
 | u::U,M,hU,cl,nd,h,hM=>by
  obtain ⟨cl',nd',_,_⟩:=uV hq cl nd nd (fun _=>Iff.rfl) (hU u B5);exact SW hq U _ (fun v hv=>hU v (AN _ hv)) cl' nd' (fun v hv=>h v (AN _ hv)) (aV cl.ok (hU u B5) hM (h u B5))
end Sp
namespace Ew
open Sp Ev
theorem vO{p n:Nat}{w:Sp.Wd}(h:Ok p n w){i:Nat}(hi:i<n):w[i]? = some (w.getD i 0)/\w.getD i 0<p:=by
 obtain ⟨x,e,hx⟩:=h.get hi;rw [List.getD,e];exact ⟨rfl,hx⟩
theorem AB5{a b t p:Nat}(ha:a<p)(hb:b<p)(h:(a+t) % p=(b+t) % p):a=b:=by
 obtain ⟨k,l,e⟩:=VX h;have h3:a+p*k=b+p*l:=by omega
 have:=KS h3
 rwa [CC ha,CC hb] at this
theorem aN{α:Type} [DecidableEq α] {T:List α} (nd:T.Nodup) {φ:α->α} (hT:∀x ∈ T,φ x ∈ T) (inj:∀x ∈ T,∀y ∈ T,φ x=φ y->x=y):(T.map φ).Perm T:=by
 have nd':(T.map φ).Nodup:=by
  unfold List.Nodup;rw [List.pairwise_map];exact List.Pairwise.imp_of_mem (fun {a b} ha hb h e=>h (inj a ha b hb e)) nd
 have sub:∀a ∈ T.map φ,a ∈ T:=fun a ha=>by
  obtain ⟨x,hx,rfl⟩:=BK.mp ha;exact hT x hx
 exact (List.perm_ext_iff_of_nodup nd' nd).mpr fun a=>⟨sub a,fun ha=>y8 nd' sub (by rw [A4];exact A8 _) a ha⟩
theorem bJ{α:Type} [DecidableEq α] {T:List α} (nd:T.Nodup) {φ:α->α} (hT:∀x ∈ T,φ x ∈ T) (inj:∀x ∈ T,∀y ∈ T,φ x=φ y->x=y) (P:α->Bool):(T.filter fun x=>P (φ x)).length=(T.filter P).length:=by
 have:=((aN nd hT inj).filter P).length_eq;rw [List.filter_map,A4] at this
 exact this
structure CutOk (p n:Nat) (U:List Sp.Wd) (x0:Sp.Wd) (T:List Sp.Wd):Prop where
 nd:T.Nodup
 mem:∀x,x ∈ T↔Ok p n x/\∀u ∈ U,dot u x % p=dot u x0 % p
end Ew
namespace Hi
open Sp Ew
theorem AA5{α:Type}{f:α->Nat}:∀ {m:Nat} {T:List α} {c:Nat},(∀x ∈ T,f x<m)->(∀i,i<m->(T.filter fun x=>decide (f x=i)).length=c)->T.length=m*c
 | 0,T,c,hf,_=>by
  cases T with
  | nil=>simp
  | cons x T=>exact absurd (hf x B5) (Nat.not_lt_zero _)
 | m+1,T,c,hf,h=>by
  have ih:=AA5 (f:=f) (m:=m) (T:=T.filter fun x=>decide (f x≠m)) (c:=c) (fun x hx=>by
   obtain ⟨h1,h2⟩:=KP.mp hx;have:=hf x h1;have:=AE h2;omega) (fun i hi=>by
   rw [List.filter_filter, <-h i (by omega)];congr 1
   refine WY fun x _=> ?_
   by_cases e:f x=i
   . rw [BG e,BG (show f x≠m by omega)];rfl
   . rw [B8 e];rfl)
  have sp:∀l:List α,l.length=(l.filter fun x=>decide (f x=m)).length+(l.filter fun x=>decide (f x≠m)).length:=by
   intro l
   induction l with
   | nil=>rfl
   | cons x l ih=>
    by_cases e:f x=m
    . rw [uT (by simp [e]),uU (by simp [e]),B9,B9,ih];omega
    . rw [uU (by simp [e]),uT (by simp [e]),B9,B9,ih];omega
  rw [sp T,ih,h m (by omega),G0];omega
def cnt(p:Nat)(T:List Wd)(e g:Wd)(i j:Nat):Nat:=(T.filter fun x=>decide (dot e x % p=i/\dot g x % p=j)).length
theorem R3{p a:Nat}(hq:p=2\/p=3\/p=5\/p=7)(ha:a % p≠0){i:Nat}(hi:i<p):∃k,(k*a) % p=i:=by
 have hp:0<p:=by omega
 have h:∀b,b<p->b≠0->∃k,k<7/\(k*b) % p=i:=by
  rcases hq with rfl | rfl | rfl | rfl <;> revert i <;> decide
 obtain ⟨k,_,hk⟩:=h (a % p) (DC _ hp) ha;exact ⟨k,by rw [<-hk,FE,FE k (a % p),KH]⟩
theorem yU {p n : Nat} (hp : 0 < p) {U : List Wd} {x0 t : Wd} {T : List Wd} (C : CutOk p n U x0 T) (ht : Ok p n t) (hU : ∀ u ∈ U, dot u t % p = 0) {e g : Wd} {i j : Nat} (hi : i < p) (hj : j < p) :
 cnt p T e g i j=cnt p T e g ((i+dot e t) % p) ((j+dot g t) % p):=by
 have okT:∀x ∈ T,Ok p n x:=fun x hx=>((C.mem x).mp hx).1;have el:∀x ∈ T,x.length=t.length:=fun x hx=>by rw [(okT x hx).1,ht.1]
 have sh:∀(w x:Wd),x ∈ T->dot w (put p x 1 t) % p=(dot w x+dot w t) % p:=fun w x hx=>by rw [OQ 1 w x t (el x hx),A61]
 have key:∀(w x:Wd) (k:Nat),k<p->x ∈ T->(dot w (put p x 1 t) % p=(k+dot w t) % p↔dot w x % p=k):=fun w x k hk hx=>by
  rw [sh w x hx]
  constructor
  . intro h;refine AB5 (p:=p) (t:=dot w t) (DC _ hp) hk ?_;rw [<-h,GO]
  . intro h;rw [<-h,GO]
 have ee:=bJ (T:=T) C.nd (φ:=fun x=>put p x 1 t) (fun x hx=> ?_) (fun x hx y hy h=>cJ hp (okT x hx) (okT y hy) ht h) fun y=>decide (dot e y % p=(i+dot e t) % p/\dot g y % p=(j+dot g t) % p)
 . unfold cnt;rw [<-ee];congr 1
   refine WY fun x hx=> ?_;exact IA.mpr ⟨fun ⟨a,b⟩=>⟨(key e x i hi hx).mpr a,(key g x j hj hx).mpr b⟩,fun ⟨a,b⟩=>⟨(key e x i hi hx).mp a,(key g x j hj hx).mp b⟩⟩
 . refine (C.mem _).mpr ⟨put_ok hp (okT x hx).1 ht.1 1,fun u hu=> ?_⟩;rw [sh u x hx,NE,hU u hu,F9,KH];exact ((C.mem x).mp hx).2 u hu
theorem aO {p n : Nat} (hp : 0 < p) {U : List Wd} {x0 t : Wd} {T : List Wd} (C : CutOk p n U x0 T) (ht : Ok p n t) (hU : ∀ u ∈ U, dot u t % p = 0) {e g : Wd} {i j : Nat} (hi : i < p) (hj : j < p) :
 ∀k,cnt p T e g i j=cnt p T e g ((i+k*dot e t) % p) ((j+k*dot g t) % p)
 | 0=>by rw [PF,PF,F9,F9,CC hi,CC hj]
 | k+1=>by
  rw [aO hp C ht hU hi hj k,yU hp C ht hU (DC _ hp) (DC _ hp)];rw [GO,GO];congr 2 <;> rw [G0,Nat.add_assoc]
def Hid(p:Nat)(S:List Wd)(e g:Wd):Prop:=∃f,1<=f/\f<p/\∃s ∈ S,put p s f e=g
theorem Z5{p n:Nat}(hq:p=2\/p=3\/p=5\/p=7){U:List Wd}(hU:∀u ∈ U,Ok p n u){w g:Wd}(hw:Ok p n w)(h:g ∈ spanM p n (U ++ [w])):∃f,f<p/\∃s ∈ spanM p n U,put p s f w=g:=by
 have hp:0<p:=by omega
 have cl:=QU hq hU
 have e:spanM p n (U ++ [w])=stepM p (spanM p n U) w:=by
  unfold spanM;rw [List.foldl_append];rfl
 rw [e] at h
 unfold stepM at h
 split at h
 . exact ⟨0,hp,g,h,JL hp (cl.ok g h) hw⟩
 . obtain ⟨f,hf,s,hs,r⟩:=mem_mults.mp h;exact ⟨f,BC.mp hf,s,hs,r⟩
theorem even2 {p n : Nat} (hq : p = 2 \/ p = 3 \/ p = 5 \/ p = 7) {U : List Wd} (hU : ∀ u ∈ U, Ok p n u) {x0 : Wd} {T : List Wd} (C : CutOk p n U x0 T) {e g : Wd} (he : Ok p n e) (hg : Ok p n g) (ne : e ∉ spanM p n U) (ng : g ∉ spanM p n U) (nh : ¬ Hid p (spanM p n U) e g) {i j : Nat} (hi : i < p) (hj : j < p) :
 cnt p T e g i j*p*p=T.length:=by
 have hp:0<p:=by omega
 have cl:=QU hq hU;have app:∀w,Ok p n w->∀u ∈ U ++ [w],Ok p n u:=fun w hw u hu=>(CM.mp hu).elim (hU u) fun h=>by rw [AJ.mp h];exact hw
 have n1:g ∉ spanM p n (U ++ [e]):=fun h=>by
  obtain ⟨f,hf,s,hs,r⟩:=Z5 hq hU he h
  by_cases f0:f=0
  . subst f0;rw [JL hp (cl.ok s hs) he] at r
    exact ng (r ▸ hs)
  . exact nh ⟨f,by omega,hf,s,hs,r⟩
 have n2:e ∉ spanM p n (U ++ [g]):=fun h=>by
  obtain ⟨f,hf,s,hs,r⟩:=Z5 hq hU hg h
  by_cases f0:f=0
  . subst f0;rw [JL hp (cl.ok s hs) hg] at r
    exact ne (r ▸ hs)
  . -- e=s+f g,so g=k e - k s
    obtain ⟨k,hk⟩:=R3 hq (a:=f) (i:=1) (by rw [CC hf];exact f0) (by omega);have hk':((k % p)*f) % p=1:=by rw [<-hk,FE,KH, <-FE]
    have kp:=DC k hp;generalize k % p=k' at hk' kp
    have k0:k'≠0:=fun z=>by rw [z,PF,PJ] at hk';cases hk'
    refine nh ⟨k',by omega,kp,put p (zero n) (k'*(p - 1)) s,cl.put _ cl.z _ hs _,?_⟩;have os:=cl.ok s hs;refine ext (put_ok hp (put_ok hp (L6 hp n).1 os.1 _).1 he.1 _) hg fun m x y hm hx hy=> ?_;obtain ⟨hs1,hs2⟩:=vO os hm;obtain ⟨hg1,hg2⟩:=vO hg hm;rw [<-r,EQ (put_ok hp (L6 hp n).1 os.1 _) (put_ok hp os.1 hg.1 f) (EQ (L6 hp n) os (KM hm) hs1) (EQ os hg hs1 hg1)] at hx
    rw [hg1] at hy
    cases hy
    generalize s.getD m 0=a at *
    generalize g.getD m 0=b at *
    cases hx
    have e1:((0+k'*(p - 1)*a) % p+k'*((a+f*b) % p)) % p=(k'*(p - 1)*a+k'*(a+f*b)) % p:=by
     rw [I9,GO,NE,FE k' ((a+f*b) % p),KH, <-FE, <-NE]
    have e2:k'*(p - 1)*a+k'*(a+f*b)=p*(k'*a)+k'*f*b:=by
     have:k'*(p - 1)*a+k'*a=p*(k'*a):=by
      rw [KD, <-Nat.mul_add, <-G0,show (p - 1).succ=p by omega,WZ]
     rw [Nat.mul_add, <-Nat.add_assoc,this,KD]
    rw [e1,e2,fT,FE,hk',A61,KH];exact CC hg2
 obtain ⟨t,ot,zt,nt⟩:∃t,Ok p n t/\(∀u ∈ U ++ [e],dot u t % p=0)/\dot g t % p≠0:=(A77 hq _ _ rfl (app e he) g hg).resolve_left n1;obtain ⟨t',ot',zt',nt'⟩:∃t,Ok p n t/\(∀u ∈ U ++ [g],dot u t % p=0)/\dot e t % p≠0:=(A77 hq _ _ rfl (app g hg) e he).resolve_left n2
 have all:∀i j,i<p->j<p->cnt p T e g 0 0=cnt p T e g i j:=fun i j hi hj=>by
  obtain ⟨k,hk⟩:=R3 hq nt' hi;obtain ⟨l,hl⟩:=R3 hq nt hj;rw [aO hp C ot' (fun u hu=>zt' u (EW _ hu)) hp hp k,aO hp C ot (fun u hu=>zt u (EW _ hu)) (DC _ hp) (DC _ hp) l];have z1:dot e t % p=0:=zt e (by simp);have z2:dot g t' % p=0:=zt' g (by simp)
  have a1:((0+k*dot e t') % p+l*dot e t) % p=i:=by
   rw [I9,hk,NE,FE,z1,PH,PJ,F9,KH,CC hi]
  have a2:((0+k*dot g t') % p+l*dot g t) % p=j:=by
   rw [I9,FE,z2,PH,PJ,I9,hl]
  rw [a1,a2]
 have pt:=AA5 (f:=fun x=>(dot e x % p)*p+dot g x % p) (m:=p*p) (T:=T) (c:=cnt p T e g 0 0) (fun x _=>by
  have a:=DC (dot e x) hp;have b:=DC (dot g x) hp;have:(dot e x % p+1)*p<=p*p:=HL p a;rw [G0] at this
  omega) fun k hk=>by
  have k1:k / p<p:=Nat.div_lt_of_lt_mul hk;have k2:=Nat.mod_lt k hp;rw [all (k / p) (k % p) k1 k2];unfold cnt;congr 1
  refine WY fun x _=>IA.mpr ⟨fun h=> ?_,fun ⟨a,b⟩ => ?_⟩
  . have b:=DC (dot g x) hp;rw [<-h]
    constructor
    . rw [G1,Nat.mul_add_div hp,Nat.div_eq_of_lt b,F9]
    . rw [G1,fT,CC b]
  . rw [a,b,G1];exact Nat.div_add_mod k p
 rw [pt, <-all i j hi hj,KD,G1]
theorem hid_det{p n:Nat}(hq:p=2\/p=3\/p=5\/p=7){U:List Wd}(hU:∀u ∈ U,Ok p n u){x0:Wd}{T:List Wd}(C:CutOk p n U x0 T){e g:Wd}(he:Ok p n e)(h:Hid p (spanM p n U) e g){x y:Wd}(hx:x ∈ T)(hy:y ∈ T):dot e x % p=dot e y % p↔dot g x % p=dot g y % p:=by
 have hp:0<p:=by omega
 obtain ⟨f,f1,fp,s,hs,rfl⟩:=h;have os:=(QU hq hU).ok s hs;have es:dot s x % p=dot s y % p:=SW hq U [zero n] hU (dO hp n) (IY _ _) (fun u hu=>by rw [((C.mem x).mp hx).2 u hu,((C.mem y).mp hy).2 u hu]) (fun m hm=>by rw [AJ.mp hm,XC,XC]) s hs;rw [L4 f s e x (by rw [os.1,he.1]),L4 f s e y (by rw [os.1,he.1])]
 constructor
 . intro h;exact S6 es h f
 . intro h;obtain ⟨k,hk⟩:=R3 hq (a:=f) (i:=1) (by rw [CC fp];omega) (by omega)
   have h2:(f*dot e x) % p=(f*dot e y) % p:=by
    refine AB5 (p:=p) (t:=dot s x) (DC _ hp) (DC _ hp) ?_;rw [GO,GO,LJ _ (dot s x),h,LJ (f*dot e y)];rw [NE, <-es, <-NE]
   have h3:∀m,(k*(f*m)) % p=m % p:=fun m=>by rw [<-KD,FE,hk,A61,KH]
   rw [<-h3 (dot e x), <-h3 (dot e y),FE,h2, <-FE]
end Hi
namespace Tr
def con(k s:Nat):Int:=if s<k then 1 else if s=k then -(k:Int) else 0
def phi:List Nat->List Nat->Nat->Nat->Int
 | t0::e,k::u,t,s=>if t=t0 then con k s else phi e u t s
 | _,_,_,_=>1
def valAt:List Nat->List Nat->List Nat->Int
 | t0::e,k::u,x=>con k (x.getD t0 0)*valAt e u x
 | _,_,_=>1
def Fits(L:List Nat):List Nat->List Nat->Prop
 | t::e,k::u=>1<=k/\k<L.getD t 0/\Fits L e u
 | [],[]=>True
 | _,_=>False
theorem vA:∀ {r:List Nat} {x i:Nat},(∀c ∈ r,0<c)->i<r.length->(dg r x).getD i 0<r.getD i 0
 | [],_,_,_,h=>by cases h
 | c::r,x,0,hp,_=>by
  show x % c<c
  exact DC _ (hp c (by simp))
 | c::r,x,i+1,hp,h=>by
  show (dg r (x / c)).getD i 0<r.getD i 0;exact vA (fun d hd=>hp d (by simp [hd])) (by simpa using h)
theorem ZA{l:List Nat}{i:Nat}(h:i<l.length):l.reverse.getD i 0=l.getD (l.length - 1 - i) 0:=by
 simp only [List.getD];rw [QM h]
theorem tri_lt{L:List Nat}{x i:Nat}(hp:∀c ∈ L,0<c)(h:i<L.length):(tri L x).getD i 0<L.getD i 0:=by
 unfold tri;rw [ZA (by rw [WB];simpa using h),WB,List.length_reverse];have:=vA (r:=L.reverse) (x:=x) (i:=L.length - 1 - i) (fun c hc=>hp c (List.mem_reverse.mp hc)) (by simp;omega);rw [ZA (by omega)] at this
 have e:L.length - 1 - (L.length - 1 - i)=i:=by omega
 rw [e] at this
 exact this
theorem fits_of{L:List Nat}:∀ {e u:List Nat},e.length=u.length->(∀i,i<e.length->1<=u.getD i 0/\u.getD i 0<L.getD (e.getD i 0) 0)->Fits L e u
 | [],[],_,_=>trivial
 | [],_::_,h,_=>by cases h
 | _::_,[],h,_=>by cases h
 | t::e,k::u,h,g=>⟨(g 0 (by simp)).1,(g 0 (by simp)).2,fits_of (by simpa using h) fun i hi=>g (i+1) (by simpa using hi)⟩
theorem con_abs{k s:Nat}(h:k<=7) : -7<=con k s/\con k s<=7:=by
 unfold con
 split
 . omega
 . split <;> omega
end Tr
namespace K43
noncomputable section
open PySem L2 Tf Dm
theorem mSc{N Q:List Str}{sc:Scope}(a:sc.kind = .function:=by rfl)(b:sc.isCoroutine=false:=by rfl)(c:sc.isGenerator=false:=by rfl)(d:N.Nodup:=by decide +kernel)(e:N.take Q.length=Q:=by rfl)(f:∀x ∈ Q,sc.names.lookup x=some .local\/sc.names.lookup x=some .cell:=by decide +kernel)(g:∀y ∈ sc.names,y.2 ≠ .free:=by decide +kernel):FnScope N Q sc:=⟨a,b,c,d,e,f,g⟩
theorem nN(l:List Str)(h:l.Nodup:=by decide +kernel):l.Nodup:=h
abbrev KC (K:PySem.W.Frag):PySem.W.Frag:=KN K ((tbK [] K).map (·.2))
abbrev qa:List Str:=["rows","leads","last"]
abbrev qb:List Str:=["table","column"]
abbrev qc:List Str:=["_law_cell","_law_k","_law_p","_law_n"]
abbrev qd:List Str:=["one","other"]
abbrev qe:List Str:=["_law_p","_law_word_here","_law_trial"]
abbrev qf:List Str:=["_law_n","_law_words_here","_law_cell"]
abbrev qg:List Str:=["p","words","factors","other"]
abbrev qh:List Str:=["_law_p","_law_n","_law_words_here"]
abbrev qj:List Str:=["p","word","factor","other"]
abbrev ql:List Str:=["row","lead_row","column","last"]
abbrev qm:List Str:=["p","rules","trial"]
abbrev qo:List Str:=["_law_cell","_law_n","_law_some"]
abbrev qp:List Str:=["self","column"]
abbrev qq:List Str:=["_law_cells","_law_p","_law_n"]
abbrev qr:List Str:=["numbers","bottom"]
abbrev qt:List Str:=["levels","plan","model"]
abbrev qu:List Str:=["lead","factor","last","number","above"]
abbrev qv:List Str:=["levels","place"]
abbrev qw:List Str:=["numbers"]
abbrev qx:List Str:=["p","word","trial"]
abbrev qy:List Str:=["_law_cell","_law_p","_law_x","_law_y"]
abbrev qz:List Str:=["self","top","column"]
abbrev qab:List Str:=["_law_by","_law_p","_law_x","_law_y"]
abbrev qbb:List Str:=["p","words","effect"]
abbrev qcb:List Str:=["self","top","place"]
abbrev qdb:List Str:=["_law_x","_law_y"]
abbrev qeb:List Str:=["table"]
abbrev qfb:List Str:=["rows","combination"]
abbrev qgb:List Str:=["_law_cell","_law_k"]
abbrev qhb:List Str:=["p","n","rules"]
abbrev qib:List Str:=["row"]
abbrev qjb:List Str:=["number","step"]
abbrev qkb:List Str:=["_law_word_here"]
abbrev qlb:List Str:=["rows","fractions"]
abbrev qmb:List Str:=["top","bottom"]
abbrev qnb:List Str:=["levels","effect"]
abbrev qob:List Str:=["levels","model"]
abbrev qpb:List Str:=["column","trial"]
abbrev qqb:List Str:=["p","n","words"]
abbrev qrb:List Str:=["p","trial","word","rest"]
abbrev qsb:List Str:=["factor","p","one","two"]
abbrev qtb:List Str:=["self","rows"]
abbrev qub:List Str:=["bottom","number"]
abbrev qvb:List Str:=["_law_script"]
def top (i : Nat) : Stmt := PySem.Challenge.pw_trialfield_k43_whole_effects_on_cuts.main.body.getD i (.Pass ⟨0, 0, 0, 0⟩)
structure Bl (mg:Str->Option Value):Prop where
 ValueError:mg "ValueError" = none
 abs:mg "abs" = none
 all:mg "all" = none
 int:mg "int" = none
 len:mg "len" = none
 list:mg "list" = none
 range:mg "range" = none
 reversed:mg "reversed" = none
 sorted:mg "sorted" = none
 sum:mg "sum" = none
 tuple:mg "tuple" = none
 zip:mg "zip" = none
abbrev dP:Stmt:=top 1
theorem pB:FnScope ["one","other","rest"] qd (AQ dP):=mSc
abbrev dM:Stmt:=top 2
theorem lG:FnScope ["top","bottom","divisor"] qmb (AQ dM):=mSc
abbrev cG:Stmt:=top 7
theorem oS:FnScope ["row","lead_row","column","last","lead","factor"] ql (AQ cG):=mSc
abbrev fA:Stmt:=top 8
theorem kZ:FnScope ["row","bottom","number"] qib (AQ fA):=mSc
abbrev eG:Stmt:=top 9
theorem mW:FnScope ["row","bottom"] qib (AQ eG):=mSc
abbrev fF:Stmt:=top 10
theorem lK:FnScope qeb qeb (AQ fF):=mSc
abbrev e7:Stmt:=top 11
theorem o6:FnScope qr qr (AQ e7):=mSc
abbrev cW:Stmt:=top 12
theorem mB:FnScope qeb qeb (AQ cW):=mSc
abbrev eU:Stmt:=top 13
theorem jJ:FnScope ["table","column","width","stairs","numbers","found","lead","number"] qb (AQ eU):=mSc
abbrev bW:Stmt:=top 14
theorem kN:FnScope ["table","column","laid"] qb (AQ bW):=mSc
abbrev cH:Stmt:=top 15
theorem mU:FnScope ["table","column","found"] qb (AQ cH):=mSc
abbrev cM:Stmt:=top 17
theorem pF:FnScope qd qd (AQ cM):=mSc
abbrev d8:Stmt:=top 18
theorem jV:FnScope qw qw (AQ d8):=mSc
abbrev cS:Stmt:=top 19
theorem jS:FnScope ["rows","columns"] ["rows"] (AQ cS):=mSc
abbrev cP:Stmt:=top 20
theorem o9:FnScope ["rows","fractions","bottom","whole"] qlb (AQ cP):=mSc
abbrev d7:Stmt:=top 21
theorem oV:FnScope ["rows","combination","answer"] qfb (AQ d7):=mSc
abbrev fE:Stmt:=top 22
theorem oG:FnScope ["weights","bottom","whole"] ["weights"] (AQ fE):=mSc
abbrev cO:Stmt:=top 24
theorem nG:FnScope ["numbers","product","number"] qw (AQ cO):=mSc
abbrev fL:Stmt:=top 25
theorem jM:FnScope ["levels","place","steps","count"] qv (AQ fL):=mSc
abbrev cI:Stmt:=top 26
theorem oI:FnScope ["levels"] ["levels"] (AQ cI):=mSc
abbrev e9:Stmt:=top 28
theorem oB:FnScope qjb qjb (AQ e9):=mSc
abbrev eB:Stmt:=top 29
theorem m9:FnScope ["levels","effect","counted"] qnb (AQ eB):=mSc
abbrev dI:Stmt:=top 30
theorem o8:FnScope ["levels","model","columns","effect"] qob (AQ dI):=mSc
abbrev cX:Stmt:=top 31
theorem pC:FnScope ["column","trial","value","thing","number"] qpb (AQ cX):=mSc
abbrev fH:Stmt:=top 32
theorem kU:FnScope ["levels","plan","model","columns"] qt (AQ fH):=mSc
abbrev dF:Stmt:=top 37
theorem lO:FnScope qx qx (AQ dF):=mSc
abbrev fC:Stmt:=top 38
theorem lE:FnScope ["n"] ["n"] (AQ fC):=mSc
abbrev dD:Stmt:=top 39
theorem kI:FnScope qj qj (AQ dD):=mSc
abbrev eM:Stmt:=top 40
theorem lT:FnScope ["p","words","factors","other","made","factor"] qg (AQ eM):=mSc
abbrev fK:Stmt:=top 41
theorem j6:FnScope ["p","n","words","members","word"] qqb (AQ fK):=mSc
abbrev dU:Stmt:=top 42
theorem kL:FnScope qm qm (AQ dU):=mSc
abbrev cY:Stmt:=top 43
theorem mH:FnScope qhb qhb (AQ cY):=mSc
abbrev d9:Stmt:=top 44
theorem j7:FnScope ["p","words","effect","members"] qbb (AQ d9):=mSc
abbrev rG:Stmt:=top 46
theorem w9:FnScope ["_law_cell","_law_k","_law_one"] qgb (AQ rG):=mSc
abbrev cQ:Stmt:=top 47
theorem lV:FnScope ["_law_cell","_law_k","_law_p","_law_n","_law_left","_law_j","_law_told","_law_number","_law_rest"] qc (AQ cQ):=mSc
abbrev dR:Stmt:=top 48
theorem nX:FnScope ["_law_cells","_law_p","_law_n","_law_told","_law_cell","_law_word_here","_law_last"] qq (AQ dR):=mSc
abbrev t9:Stmt:=top 49
theorem v4:FnScope qe qe (AQ t9):=mSc
abbrev u8:Stmt:=top 50
theorem vD:FnScope ["_law_p","_law_n","_law_words_here","_law_told","_law_word_here","_law_more","_law_by","_law_one","_law_there"] qh (AQ u8):=mSc
abbrev rW:Stmt:=top 51
theorem vJ:FnScope ["_law_cell","_law_n","_law_some","_law_told","_law_k","_law_word_here","_law_j","_law_one"] qo (AQ rW):=mSc
abbrev bZ:Stmt:=top 52
theorem lY:FnScope qkb qkb (AQ bZ):=mSc
abbrev rS:Stmt:=top 53
theorem v8:FnScope ["_law_n","_law_words_here","_law_cell","_law_some","_law_trial","_law_plan","_law_rows","_law_told","_law_one","_law_other"] qf (AQ rS):=mSc
abbrev SF:Stmt:=top 54
theorem nI:FnScope ["_law_script","_law_cells","_law_at","_law_head","_law_n","_law_many","_law_words_here"] qvb (AQ SF):=mSc
abbrev sL:Stmt:=OK (top 6) 0
theorem vB:FnScope ["self","rows","column"] qtb (AQ sL):=mSc
abbrev tE:Stmt:=OK (top 6) 1
theorem uW:FnScope ["self","column","top","place","lead_row","beneath"] qp (AQ tE):=mSc
abbrev u6:Stmt:=OK (top 6) 2
theorem v5:FnScope ["self","top","column","place"] qz (AQ u6):=mSc
abbrev tG:Stmt:=OK (top 6) 3
theorem v9:FnScope ["self","top","place","lowered"] qcb (AQ tG):=mSc
abbrev sY:Stmt:=OK (top 6) 4
theorem vK:FnScope ["self","column","count","numbers","place","row","known"] qp (AQ sY):=mSc
def c_NOUGHT:PyData:= .tuple [.int 0, .int 1]
def c_UNIT:PyData:= .tuple [.int 1, .int 1]
section
variable {P:Program} {w:World} {K:PySem.W.Frag} {mg:Str->Option Value} {base:Heap} {f:Addr} {fd:FuncData} {C_S:Addr}
def b_q24 : En -> Option Out :=
 (mSeq (K8 (mTest (mBin dne (mPk 1) (mK (.int 0)))) (mSeq (mAsg 2 (mBin EH (mPk 0) (mPk 1)))
 (mSeq (mAsg 0 (mVar 1))
 (mFrz 2 (mAsg 1 (mVar 2))))))
 (mRet (mCallP dAbs (mConsP (mPk 0) mNilP))))
def QJ:List PyData->Option Sl:=EU 3 b_q24 2
theorem y0 (B:Bl mg) (F:Fun K "greatest_divisor" "greatest_divisor" dP f fd):FnOk P w K mg base CX0 1 f fd qd (spD K QJ):=by
 have sc:=pB
 exact fnD F pB rfl rfl fun cdv A outer s H E hr=>
  (AA (X9 BL (v6 hr.units (A5 1) (DE.dp AM)) (AA (BA 2 (EJ (A5 0) (A5 1)) sc.nd)
  (AA (BA 0 (AC 1) sc.nd)
  (AL (DX 2 (BA 1 (AC 2) sc.nd))))))
  (AL (CY (ES lN A06 A21 B.abs (BH (A5 0) CA)))))
def b_q22 : En -> Option Out :=
 (mSeq (mAsg 2 (mCall QJ (mCons (mVar 0) (mCons (mVar 1) mNil))))
 (mSeq (mIf (mTest (mBin dLt (mPk 1) (mK (.int 0)))) (mAsg 2 (mUn (iun fun i=> -i) (mPk 2))) mNext)
 (mRet (mTup (mCons (mBin DN (mPk 0) (mPk 2)) (mCons (mBin DN (mPk 1) (mPk 2)) mNil))))))
def T9:List PyData->Option Sl:=EU 3 b_q22 2
theorem A24 (B:Bl mg) (D_q24:Def P w K mg base 1 "greatest_divisor" qd (spD K QJ)) (F:Fun K "fraction" "fraction" dM f fd):FnOk P w K mg base CX0 2 f fd qmb (spD K T9):=by
 have sc:=lG
 exact fnD F lG rfl rfl fun cdv A outer s H E hr=>
  (AA (BA 2 (BB D_q24 hr (A1 (AC 0) (A1 (AC 1) AK))) sc.nd)
  (AA (HU (kM (A5 1) (DE.dp AM)) (AL (BA 2 (SU (A5 2)) sc.nd)) ET)
  (AL (CY (II (A1 (F0 (A5 0) (A5 2)) (A1 (F0 (A5 1) (A5 2)) AK)))))))
def b_q15 : En -> Option Out :=
 (mSeq (mAsg 4 (mBin dix (mPk 1) (mPk 2)))
 (mSeq (mAsg 5 (mBin dix (mPk 0) (mPk 2)))
 (mRet (mLC (CP [some 4,some 5,some 3,none,none]) (SR (mCons (mVar 0) (mCons (mVar 1) mNil))) (gTupD [(gVar 3),(gVar 4)]) mYes (mBin DN (mBin dSub (mBin dRep (mPk 0) (mPk 3)) (mBin dRep (mPk 1) (mPk 4))) (mPk 2))))))
def XH:List PyData->Option Sl:=EU 6 b_q15 4
theorem A11 (B:Bl mg) (F:Fun K "cleared_row" "cleared_row" cG f fd):FnOk P w K mg base CX0 1 f fd ql (spD K XH):=by
 have sc:=oS
 exact fnD F oS rfl rfl fun cdv A outer s H E hr=>
  (AA (BA 4 (EA (A5 1) (A5 2)) sc.nd)
  (AA (BA 5 (EA (A5 0) (A5 2)) sc.nd)
  (AL (CY (EX (N':=qu) (R':=PR K) BZ C3 [some 4,some 5,some 3,none,none] (CP [some 4,some 5,some 3,none,none]) E6 (VP B.zip (A1 (AC 0) (A1 (AC 1) AK))) (fun _=>(IM (DJ (BJ 3 (nN qu)) (DJ (BJ 4 (nN qu)) GP)))) (fun _=>D7) (fun _=>(F0 (DE.dp (PQ (DE.dp (E7 (A5 0) (A5 3))) (DE.dp (E7 (A5 1) (A5 4))))) (A5 2))))))))
def b_q19 : En -> Option Out :=
 (mSeq (mAsg 1 (mK (.int 1)))
 (mSeq (IB (mItems (mVar 0)) (gVar 2) (mFrz 1 (mAsg 1 (mBin dRep (mBin DN (mPk 1) (mCall QJ (mCons (mVar 1) (mCons (mBin dix (mPk 2) (mK (.int 1))) mNil)))) (mBin dix (mPk 2) (mK (.int 1)))))))
 (mRet (mPk 1))))
def OW:List PyData->Option Sl:=EU 3 b_q19 1
theorem wV (B:Bl mg) (D_q24:Def P w K mg base 1 "greatest_divisor" qd (spD K QJ)) (F:Fun K "common_bottom" "common_bottom" fA f fd):FnOk P w K mg base CX0 2 f fd qib (spD K OW):=by
 have sc:=kZ
 exact fnD F kZ rfl rfl fun cdv A outer s H E hr=>
  (AA (BA 1 AM sc.nd)
  (AA (FX BL (HQ (AC 0)) (EB 2 sc.nd) (AL (DX 1 (BA 1 (E7 (DE.dp (F0 (A5 1) (DE.dp (BB D_q24 hr (A1 (AC 1) (A1 (EA (A5 2) (DE.dp AM)) AK)))))) (DE.dp (EA (A5 2) (DE.dp AM)))) sc.nd))))
  (AL (IK 1))))
def b_q43 : En -> Option Out :=
 (mSeq (mAsg 1 (mCall OW (mCons (mVar 0) mNil)))
 (mRet (mLC (CP [some 1,none]) (mItems (mVar 0)) (gVar 1) mYes (mBin dRep (mBin dix (mPk 1) (mK (.int 0))) (mBin DN (mPk 0) (mBin dix (mPk 1) (mK (.int 1))))))))
def NF:List PyData->Option Sl:=EU 2 b_q43 1
theorem wL (B:Bl mg) (D_q19:Def P w K mg base 2 "common_bottom" qib (spD K OW)) (F:Fun K "whole_row" "whole_row" eG f fd):FnOk P w K mg base CX0 3 f fd qib (spD K NF):=by
 have sc:=mW
 exact fnD F mW rfl rfl fun cdv A outer s H E hr=>
  (AA (BA 1 (BB D_q19 hr (A1 (AC 0) AK)) sc.nd)
  (AL (CY (EX (N':=qub) (R':=PR K) BZ C3 [some 1,none] (CP [some 1,none]) E6 (HQ (AC 0)) (fun _=>(BJ 1 (nN qub))) (fun _=>D7) (fun _=>(E7 (DE.dp (EA (A5 1) (DE.dp AM))) (DE.dp (F0 (A5 0) (DE.dp (EA (A5 1) (DE.dp AM)))))))))))
def b_q2 : En -> Option Out :=
 (mSeq (IB (ON (mConsP (mPk 1) (mConsP (mCallP dLen (mConsP (mPk 4) mNilP)) mNilP))) (gVar 3) (mIf (mTest (mBin dne (mBin dix (mBin dix (mPk 4) (mPk 3)) (mPk 2)) (mK (.int 0)))) (mRet (mPk 3)) mNext))
 (mRet (mK .none)))
def Y1:En->List PyData->Option (En×PyData):=PY 4 3 3 b_q2
theorem A85 (B:Bl mg) (K_S:Klass K C_S qa) (F:Fun K "place_of_lead" "Stairs.place_of_lead" u6 f fd):FnOk P w K mg base CX0 1 f fd qz (spM K C_S qa Y1):=by
 have sc:=v5
 exact fnM F v5 rfl rfl rfl fun cdv A outer s H E p hr=>
  (AA (FX BL (Q9 B.range (BH (A5 1) (BH (DE.dp (ES D6 GW GY B.len (BH (L8 0 K_S) CA))) CA))) (EB 3 sc.nd) (AL (HU (v6 hr.units (DE.dp (EA (DE.dp (EA (L8 0 K_S) (A5 3))) (A5 2))) (DE.dp AM)) (AL (IK 3)) ET)))
  (AL (CY R7)))
def b_q1 : En -> Option Out :=
 (mSeq (mIf (mTest (mBin deq (mPk 2) (mPk 1))) mRetN mNext)
 (mSeq (mAsg 3 (mLC (CP [none]) (mItems (mBin dix (mPk 4) (mPk 1))) (gVar 0) mYes (mUn (iun fun i=> -i) (mPk 0))))
 (mSeq (mSet 4 (mPk 1) (mBin dix (mPk 4) (mPk 2)))
 (mFrz 3 (mSet 4 (mPk 2) (mVar 3))))))
def gM:En->List PyData->Option (En×PyData):=PY 4 3 3 b_q1
theorem A68 (B:Bl mg) (K_S:Klass K C_S qa) (F:Fun K "exchange" "Stairs.exchange" tG f fd):FnOk P w K mg base CX0 1 f fd qcb (spM K C_S qa gM):=by
 have sc:=v9
 exact fnM F v9 rfl rfl rfl fun cdv A outer s H E p hr=>
  (AA (HU (P4 hr.units (A5 2) (A5 1)) (AL cL) ET)
  (AA (fJ (N':= ["number"]) (R':=PR K) BZ C3 3 [none] (CP [none]) rY sc.nd (HQ (EA (L8 0 K_S) (A5 1))) (fun _=>(BJ 0 (nN ["number"]))) (fun _=>D7) (fun _=>(SU (A5 0))))
  (AA (bT 0 K_S (EA (L8 0 K_S) (A5 2)) (A5 1))
  (AL (DX 3 (bT 0 K_S (AC 3) (A5 2)))))))
def b_q4 : En -> Option Out :=
 (mSeq (mAsg 2 (mCallP dLen (mConsP (mPk 7) mNilP)))
 (mSeq (mFrz 2 (K5 6 Y1 (mCons (mVar 2) (mCons (mVar 1) mNil)) fun ρ d=>some (.nx (ρ.set 3 (some (.val d))))))
 (mSeq (mIf (mTest (mBin disN (mPk 3) (mK .none))) mRetN mNext)
 (mSeq (mFrz 2 (mFrz 3 (K5 6 gM (mCons (mVar 2) (mCons (mVar 3) mNil)) fun ρ _=>some (.nx ρ))))
 (mSeq (mAsg 4 (mBin dix (mPk 6) (mPk 2)))
 (mSeq (mFrz 4 (mAsg 5 (mLC (Q8 [some 4,some 1,some 0,none] 6) (mItems (mSl (mPk 6) (mPart (mBin dAdd (mPk 2) (mK (.int 1)))) mNoPart)) (gVar 3) mYes (mCall XH (mCons (mVar 3) (mCons (mVar 0) (mCons (mVar 1) (mCons (mVar 6) mNil))))))))
 (mSeq (mAsg 6 (mBin dAdd (mSl (mPk 6) mNoPart (mPart (mBin dAdd (mPk 2) (mK (.int 1))))) (mPk 5)))
 (mSeq (mApp 7 (mVar 1))
 (mAsg 8 (mBin dix (mPk 4) (mPk 1)))))))))))
def bL:En->List PyData->Option (En×PyData):=PY 6 2 3 b_q4
theorem A96 (B:Bl mg) (D_q2:MDef P w K mg base 1 C_S "place_of_lead" qz (spM K C_S qa Y1)) (D_q1:MDef P w K mg base 1 C_S "exchange" qcb (spM K C_S qa gM)) (D_q15:Def P w K mg base 1 "cleared_row" ql (spD K XH)) (K_S:Klass K C_S qa) (F:Fun K "step_down" "Stairs.step_down" tE f fd):FnOk P w K mg base CX0 2 f fd qp (spM K C_S qa bL):=by
 have sc:=uW
 exact fnM F uW rfl rfl rfl fun cdv A outer s H E p hr=>
  (AA (BA 2 (ES D6 GW GY B.len (BH (L8 1 K_S) CA)) sc.nd)
  (AA (DX 2 (nR 3 D_q2 K_S hr (A1 (AC 2) (A1 (AC 1) AK)) sc.nd))
  (AA (HU (pE (A5 3) (DE.dp R7)) (AL cL) ET)
  (AA (DX 2 (DX 3 (Y7 D_q1 K_S hr (A1 (AC 2) (A1 (AC 3) AK)))))
  (AA (BA 4 (EA (L8 0 K_S) (A5 2)) sc.nd)
  (AA (DX 4 (fJ (N':= ["lead_row","column","self","row"]) (R':=FR K ⟨C_S,qa,2,4,p⟩) BZ C3 5 [some 4,some 1,some 0,none] (Q8 [some 4,some 1,some 0,none] 6) A41 sc.nd (HQ (UU (L8 0 K_S) (KW (DE.dp (E9 (A5 2) (DE.dp AM)))) OZ)) (fun _=>(BJ 3 (nN ["lead_row","column","self","row"]))) (fun _=>D7) (fun _=>(BB D_q15 hr (A1 (AC 3) (A1 (AC 0) (A1 (AC 1) (A1 (b9 2 K_S) AK))))))))
  (AA (TB 0 K_S (E9 (DE.dp (UU (L8 0 K_S) OZ (KW (DE.dp (E9 (A5 2) (DE.dp AM)))))) (A5 5)))
  (AA (tX 1 K_S (AC 1))
  (AL (TB 2 K_S (EA (A5 4) (A5 1))))))))))))
def b_q0 : En -> Option Out :=
 (mSeq (mAsg 3 (mCallP dList (mConsP (mPk 1) mNilP)))
 (mSeq (mAsg 4 (mLst mNil))
 (mSeq (mAsg 5 (mK (.int 1)))
 (IB (KJ (mConsP (mCallP dLen (mConsP (mBin dix (mPk 1) (mK (.int 0))) mNilP)) mNilP)) (gVar 2) (K5 3 bL (mCons (mVar 2) mNil) fun ρ _=>some (.nx ρ))))))
def aQ:En->List PyData->Option (En×PyData):=PY 3 2 3 b_q0
theorem AB8 (B:Bl mg) (D_q4:MDef P w K mg base 2 C_S "step_down" qp (spM K C_S qa bL)) (K_S:Klass K C_S qa) (F:Fun K "__init__" "Stairs.__init__" sL f fd):FnOk P w K mg base CX0 3 f fd qtb (spM K C_S qa aQ):=by
 have sc:=vB
 exact fnM F vB rfl rfl rfl fun cdv A outer s H E p hr=>
  (AA (TB 0 K_S (LZ L7 VG OY B.list (BH (A5 1) CA)))
  (AA (TB 1 K_S (FN AK))
  (AA (TB 2 K_S AM)
  (AL (FX BL (GD B.range (BH (DE.dp (ES D6 GW GY B.len (BH (DE.dp (EA (A5 1) (DE.dp AM))) CA))) CA)) (EB 2 sc.nd) (AL (Y7 D_q4 K_S hr (A1 (AC 2) AK))))))))
def TH:List PyData->Option En:=oO 1 1 (YK 3 aQ (mCons (mLC (CP [none]) (mItems (mVar 0)) (gVar 0) mYes (mCall NF (mCons (mVar 0) mNil))) mNil))
theorem A17 (B:Bl mg) (D_q43:Def P w K mg base 3 "whole_row" qib (spD K NF)) (D_q0:KDef P w K mg base 3 C_S "Stairs" qtb (spM K C_S qa aQ)) (K_S:Klass K C_S qa) (F:Fun K "stairs_of" "stairs_of" fF f fd):FnOk P w K mg base CX0 5 f fd qeb (spO K C_S qa TH):=by
 have sc:=lK
 exact fnO F lK rfl rfl rfl fun cdv A outer s H E hr=>
  (rL D_q0 hr (A1 (EX (N':=qib) (R':=PR K) BZ C3 [none] (CP [none]) E6 (HQ (AC 0)) (fun _=>(BJ 0 (nN qib))) (fun _=>D7) (fun _=>(BB D_q43 hr (A1 (AC 0) AK)))) AK))
def b_q23 : En -> Option Out :=
 (mRet (mLC (CP [some 1,none]) (mItems (mVar 0)) (gVar 1) mYes (mCall T9 (mCons (mVar 1) (mCons (mVar 0) mNil)))))
def QG:List PyData->Option Sl:=EU 2 b_q23 2
theorem wQ (B:Bl mg) (D_q22:Def P w K mg base 2 "fraction" qmb (spD K T9)) (F:Fun K "fractions_over" "fractions_over" e7 f fd):FnOk P w K mg base CX0 3 f fd qr (spD K QG):=by
 have sc:=o6
 exact fnD F o6 rfl rfl fun cdv A outer s H E hr=>
  (AL (CY (EX (N':=qub) (R':=PR K) BZ C3 [some 1,none] (CP [some 1,none]) E6 (HQ (AC 0)) (fun _=>(BJ 1 (nN qub))) (fun _=>D7) (fun _=>(BB D_q22 hr (A1 (AC 1) (A1 (AC 0) AK)))))))
def b_q27 : En -> Option Out :=
 (mRet (mLC (CP [some 0,none]) (KJ (mConsP (mCallP dLen (mConsP (mBin dix (mPk 0) (mK (.int 0))) mNilP)) mNilP)) (gVar 1) mYes (mLC (CP [some 1,none]) (mItems (mVar 0)) (gVar 1) mYes (mBin dix (mPk 1) (mPk 0)))))
def RW:List PyData->Option Sl:=EU 1 b_q27 1
theorem zQ (B:Bl mg) (F:Fun K "laid_over" "laid_over" cW f fd):FnOk P w K mg base CX0 1 f fd qeb (spD K RW):=by
 have sc:=mB
 exact fnD F mB rfl rfl fun cdv A outer s H E hr=>
  (AL (CY (EX (N':= ["table","k"]) (R':=PR K) BZ C3 [some 0,none] (CP [some 0,none]) E6 (GD B.range (BH (DE.dp (ES D6 GW GY B.len (BH (DE.dp (EA (A5 0) (DE.dp AM))) CA))) CA)) (fun _=>(BJ 1 (nN ["table","k"]))) (fun _=>D7) (fun _=>(EX (N':= ["k","row"]) (R':=PR K) MM MO [some 1,none] (CP [some 1,none]) E6 (HQ (AC 0)) (fun _=>(BJ 1 (nN ["k","row"]))) (fun _=>D7) (fun _=>(EA (A5 1) (A5 0))))))))
def b_q3 : En -> Option Out :=
 (mSeq (mAsg 2 (mCallP dLen (mConsP (mPk 8) mNilP)))
 (mSeq (mAsg 3 (mBin dRep (mLst (mCons (mK (.int 0)) mNil)) (mPk 2)))
 (mSeq (IB (bY (mConsP (mBin dSub (mPk 2) (mK (.int 1))) (mConsP (mUn (iun fun i=> -i) (mK (.int 1))) (mConsP (mUn (iun fun i=> -i) (mK (.int 1))) mNilP)))) (gVar 4) (mSeq (mAsg 5 (mBin dix (mPk 7) (mPk 4)))
 (mSeq (mAsg 6 (mCallP dSum (mConsP (mLC (Q8 [some 5,some 0,some 3,none] 7) (ON (mConsP (mBin dAdd (mPk 4) (mK (.int 1))) (mConsP (mPk 2) mNilP))) (gVar 3) mYes (mBin dRep (mBin dix (mPk 0) (mBin dix (mPk 5) (mPk 3))) (mBin dix (mPk 2) (mPk 3)))) mNilP)))
 (mSet 3 (mPk 4) (mBin DN (mBin dSub (mBin dRep (mPk 9) (mBin dix (mPk 5) (mPk 1))) (mPk 6)) (mBin dix (mPk 5) (mBin dix (mPk 8) (mPk 4))))))))
 (mRet (mPk 3)))))
def aL:List PyData->List PyData->Option Sl:=iW 7 2 3 b_q3
theorem A87 (B:Bl mg) (K_S:Klass K C_S qa) (F:Fun K "reduced_column" "Stairs.reduced_column" sY f fd):FnOk P w K mg base CX0 1 f fd qp (spR K C_S qa aL):=by
 have sc:=vK
 exact fnR F vK rfl rfl rfl fun cdv A outer s H E p hr=>
  (AA (BA 2 (ES D6 GW GY B.len (BH (OT 1 K_S) CA)) sc.nd)
  (AA (BA 3 (E7 (DE.dp (FN (A1 AM AK))) (A5 2)) sc.nd)
  (AA (FX BL (fZ B.range (BH (DE.dp (PQ (A5 2) (DE.dp AM))) (BH (DE.dp (SU (DE.dp AM))) (BH (DE.dp (SU (DE.dp AM))) CA)))) (EB 4 sc.nd) (AA (BA 5 (EA (OT 0 K_S) (A5 4)) sc.nd)
  (AA (BA 6 (ES (OG rfl) VW VI B.sum (BH (DE.dp (EX (N':= ["row","self","numbers","k"]) (R':=FO K ⟨C_S,qa,1,4,p⟩) BZ C3 [some 5,some 0,some 3,none] (Q8 [some 5,some 0,some 3,none] 7) yQ (Q9 B.range (BH (DE.dp (E9 (A5 4) (DE.dp AM))) (BH (A5 2) CA))) (fun _=>(BJ 3 (nN ["row","self","numbers","k"]))) (fun _=>D7) (fun _=>(E7 (DE.dp (EA (A5 0) (DE.dp (EA (OT 1 K_S) (A5 3))))) (DE.dp (EA (A5 2) (A5 3))))))) CA)) sc.nd)
  (AL (VN 3 (F0 (DE.dp (PQ (DE.dp (E7 (OT 2 K_S) (DE.dp (EA (A5 5) (A5 1))))) (A5 6))) (DE.dp (EA (A5 5) (DE.dp (EA (OT 1 K_S) (A5 4)))))) (A5 4))))))
  (AL (IK 3)))))
def b_q32 : En -> Option Out :=
 (mSeq (mAsg 2 (mCallP dLen (mConsP (mBin dix (mPk 0) (mK (.int 0))) mNilP)))
 (bG 8 3 (S8 TH (mCons (mLC (CP [none,none]) (SR (mCons (mVar 0) (mCons (mVar 1) mNil))) (gTupD [(gVar 0),(gVar 1)]) mYes (mBin dAdd (mPk 0) (mLst (mCons (mVar 1) mNil)))) mNil))
 (mSeq (mIf (mTest (mBin (IG false) (mPk 2) (mPk 9))) (mRet (mK .none)) mNext)
 (mSeq (mFrz 2 (mAsg 4 (mCall QG (mCons (O0 8 aL (mCons (mVar 2) mNil)) (mCons (mVar 10) mNil)))))
 (mSeq (mAsg 5 (mBin dRep (mLst (mCons (mK c_NOUGHT) mNil)) (mPk 2)))
 (mSeq (mFrz 9 (mFrz 4 (IB (SR (mCons (mVar 9) (mCons (mVar 4) mNil))) (gTupD [(gVar 6),(gVar 7)]) (mSet 5 (mPk 6) (mVar 7)))))
 (mRet (mPk 5))))))))
def LG:List PyData->Option Sl:=EU 8 b_q32 2
theorem xG (B:Bl mg) (D_q36:Def P w K mg base 5 "stairs_of" qeb (spO K C_S qa TH)) (D_q23:Def P w K mg base 3 "fractions_over" qr (spD K QG)) (D_q3:MDef P w K mg base 1 C_S "reduced_column" qp (spR K C_S qa aL)) (C_NOUGHT:T0 K mg "NOUGHT" c_NOUGHT) (K_S:Klass K C_S qa) (F:Fun K "solution" "solution" eU f fd):FnOk P w K mg base CX0 6 f fd qb (spD K LG):=by
 have sc:=jJ
 exact fnD F jJ rfl rfl fun cdv A outer s H E hr=>
  (AA (BA 2 (ES D6 GW GY B.len (BH (DE.dp (EA (A5 0) (DE.dp AM))) CA)) sc.nd)
  (sX 3 8 (qH D_q36 hr (A1 (EX (N':= ["row","number"]) (R':=PR K) BZ C3 [none,none] (CP [none,none]) E6 (VP B.zip (A1 (AC 0) (A1 (AC 1) AK))) (fun _=>(IM (DJ (BJ 0 (nN ["row","number"])) (DJ (BJ 1 (nN ["row","number"])) GP)))) (fun _=>D7) (fun _=>(E9 (A5 0) (DE.dp (FN (A1 (AC 1) AK)))))) AK)) (fun p=>
  (AA (HU (NX hr.units (A5 2) (L8 1 K_S)) (AL (CY R7)) ET)
  (AA (DX 2 (BA 4 (BB D_q23 hr (A1 (mC D_q3 K_S hr (A1 (AC 2) AK)) (A1 (b9 2 K_S) AK))) sc.nd))
  (AA (BA 5 (E7 (DE.dp (FN (A1 (OI C_NOUGHT) AK))) (A5 2)) sc.nd)
  (AA (rN 9 (DX 4 (FX BL (VP B.zip (A1 (b9 1 K_S) (A1 (AC 4) AK))) (nD (KL (EB 6 sc.nd) (KL (EB 7 sc.nd) WK))) (AL (VN 5 (AC 7) (A5 6))))))
  (AL (IK 5))))))) sc.nd))
def b_q44 : En -> Option Out :=
 (mSeq (mAsg 2 (mCall RW (mCons (mVar 0) mNil)))
 (mRet (mCall LG (mCons (mBin dAdd (mPk 2) (mLst (mCons (mCallP dList (mConsP (mPk 1) mNilP)) mNil))) (mCons (mBin dAdd (mBin dRep (mLst (mCons (mK c_NOUGHT) mNil)) (mCallP dLen (mConsP (mPk 2) mNilP))) (mLst (mCons (mK c_UNIT) mNil))) mNil)))))
def XX:List PyData->Option Sl:=EU 3 b_q44 2
theorem yC (B:Bl mg) (D_q27:Def P w K mg base 1 "laid_over" qeb (spD K RW)) (D_q32:Def P w K mg base 6 "solution" qb (spD K LG)) (C_NOUGHT:T0 K mg "NOUGHT" c_NOUGHT) (C_UNIT:T0 K mg "UNIT" c_UNIT) (F:Fun K "witness" "witness" bW f fd):FnOk P w K mg base CX0 7 f fd qb (spD K XX):=by
 have sc:=kN
 exact fnD F kN rfl rfl fun cdv A outer s H E hr=>
  (AA (BA 2 (BB D_q27 hr (A1 (AC 0) AK)) sc.nd)
  (AL (CY (BB D_q32 hr (A1 (E9 (A5 2) (DE.dp (FN (A1 (LZ L7 VG OY B.list (BH (A5 1) CA)) AK)))) (A1 (E9 (DE.dp (E7 (DE.dp (FN (A1 (OI C_NOUGHT) AK))) (DE.dp (ES D6 GW GY B.len (BH (A5 2) CA))))) (DE.dp (FN (A1 (OI C_UNIT) AK)))) AK))))))
def b_q33 : En -> Option Out :=
 (mSeq (mAsg 2 (mCall LG (mCons (mVar 0) (mCons (mVar 1) mNil))))
 (mSeq (mIf (mTest (mBin disN (mPk 2) (mK .none))) (mRet (mTup (mCons (mK (.str "never")) (mCons (mCall XX (mCons (mVar 0) (mCons (mVar 1) mNil))) mNil)))) mNext)
 (mFrz 2 (mRet (mTup (mCons (mK (.str "found")) (mCons (mVar 2) mNil)))))))
def RK:List PyData->Option Sl:=EU 3 b_q33 2
theorem xH (B:Bl mg) (D_q32:Def P w K mg base 6 "solution" qb (spD K LG)) (D_q44:Def P w K mg base 7 "witness" qb (spD K XX)) (F:Fun K "solved" "solved" cH f fd):FnOk P w K mg base CX0 8 f fd qb (spD K RK):=by
 have sc:=mU
 exact fnD F mU rfl rfl fun cdv A outer s H E hr=>
  (AA (BA 2 (BB D_q32 hr (A1 (AC 0) (A1 (AC 1) AK))) sc.nd)
  (AA (HU (pE (A5 2) (DE.dp R7)) (AL (CY (II (A1 NN (A1 (BB D_q44 hr (A1 (AC 0) (A1 (AC 1) AK))) AK))))) ET)
  (AL (DX 2 (CY (II (A1 NN (A1 (AC 2) AK))))))))
def b_q37 : En -> Option Out :=
 (mRet (mCallP dSum (mConsP (mLC (CP [none,none]) (SR (mCons (mVar 0) (mCons (mVar 1) mNil))) (gTupD [(gVar 0),(gVar 1)]) mYes (mBin dRep (mPk 0) (mPk 1))) mNilP)))
def NH:List PyData->Option Sl:=EU 2 b_q37 2
theorem wS (B:Bl mg) (F:Fun K "sum_of_products" "sum_of_products" cM f fd):FnOk P w K mg base CX0 1 f fd qd (spD K NH):=by
 have sc:=pF
 exact fnD F pF rfl rfl fun cdv A outer s H E hr=>
  (AL (CY (ES (OG rfl) VW VI B.sum (BH (DE.dp (EX (N':= ["a","b"]) (R':=PR K) BZ C3 [none,none] (CP [none,none]) E6 (VP B.zip (A1 (AC 0) (A1 (AC 1) AK))) (fun _=>(IM (DJ (BJ 0 (nN ["a","b"])) (DJ (BJ 1 (nN ["a","b"])) GP)))) (fun _=>D7) (fun _=>(E7 (A5 0) (A5 1))))) CA))))
def b_q14 : En -> Option Out :=
 (mRet (mLC (CP [none]) (mItems (mVar 0)) (gVar 0) mYes (mTup (mCons (mVar 0) (mCons (mK (.int 1)) mNil)))))
def SG:List PyData->Option Sl:=EU 1 b_q14 1
theorem xU (B:Bl mg) (F:Fun K "as_fractions" "as_fractions" d8 f fd):FnOk P w K mg base CX0 1 f fd qw (spD K SG):=by
 have sc:=jV
 exact fnD F jV rfl rfl fun cdv A outer s H E hr=>
  (AL (CY (EX (N':= ["number"]) (R':=PR K) BZ C3 [none] (CP [none]) E6 (HQ (AC 0)) (fun _=>(BJ 0 (nN ["number"]))) (fun _=>D7) (fun _=>(II (A1 (AC 0) (A1 AM AK)))))))
def b_q16 : En -> Option Out :=
 (mSeq (mAsg 1 (mCall RW (mCons (mVar 0) mNil)))
 (mFrz 1 (mRet (mLC (CP [some 1,none]) (mItems (mVar 1)) (gVar 1) mYes (mCall SG (mCons (mLC (CP [some 1,none]) (mItems (mVar 0)) (gVar 1) mYes (mCall NH (mCons (mVar 0) (mCons (mVar 1) mNil)))) mNil))))))
def YH:List PyData->Option Sl:=EU 2 b_q16 1
theorem yM (B:Bl mg) (D_q27:Def P w K mg base 1 "laid_over" qeb (spD K RW)) (D_q14:Def P w K mg base 1 "as_fractions" qw (spD K SG)) (D_q37:Def P w K mg base 1 "sum_of_products" qd (spD K NH)) (F:Fun K "column_products" "column_products" cS f fd):FnOk P w K mg base CX0 2 f fd ["rows"] (spD K YH):=by
 have sc:=jS
 exact fnD F jS rfl rfl fun cdv A outer s H E hr=>
  (AA (BA 1 (BB D_q27 hr (A1 (AC 0) AK)) sc.nd)
  (AL (DX 1 (CY (EX (N':= ["columns","one"]) (R':=PR K) BZ C3 [some 1,none] (CP [some 1,none]) E6 (HQ (AC 1)) (fun _=>(BJ 1 (nN ["columns","one"]))) (fun _=>D7) (fun _=>(BB D_q14 hr (A1 (EX (N':=qd) (R':=PR K) MM MO [some 1,none] (CP [some 1,none]) E6 (HQ (AC 0)) (fun _=>(BJ 1 (nN qd))) (fun _=>D7) (fun _=>(BB D_q37 hr (A1 (AC 0) (A1 (AC 1) AK))))) AK))))))))
def b_q38 : En -> Option Out :=
 (mSeq (mAsg 2 (mCall OW (mCons (mVar 1) mNil)))
 (mSeq (mAsg 3 (mCall NF (mCons (mVar 1) mNil)))
 (mFrz 3 (mFrz 2 (mRet (mCall QG (mCons (mLC (CP [some 3,none]) (mItems (mVar 0)) (gVar 1) mYes (mCall NH (mCons (mVar 1) (mCons (mVar 0) mNil)))) (mCons (mVar 2) mNil))))))))
def UP:List PyData->Option Sl:=EU 4 b_q38 2
theorem xC (B:Bl mg) (D_q19:Def P w K mg base 2 "common_bottom" qib (spD K OW)) (D_q43:Def P w K mg base 3 "whole_row" qib (spD K NF)) (D_q23:Def P w K mg base 3 "fractions_over" qr (spD K QG)) (D_q37:Def P w K mg base 1 "sum_of_products" qd (spD K NH)) (F:Fun K "sums_with" "sums_with" cP f fd):FnOk P w K mg base CX0 4 f fd qlb (spD K UP):=by
 have sc:=o9
 exact fnD F o9 rfl rfl fun cdv A outer s H E hr=>
  (AA (BA 2 (BB D_q19 hr (A1 (AC 1) AK)) sc.nd)
  (AA (BA 3 (BB D_q43 hr (A1 (AC 1) AK)) sc.nd)
  (AL (DX 3 (DX 2 (CY (BB D_q23 hr (A1 (EX (N':= ["whole","row"]) (R':=PR K) BZ C3 [some 3,none] (CP [some 3,none]) E6 (HQ (AC 0)) (fun _=>(BJ 1 (nN ["whole","row"]))) (fun _=>D7) (fun _=>(BB D_q37 hr (A1 (AC 1) (A1 (AC 0) AK))))) (A1 (AC 2) AK)))))))))
def b_q40 : En -> Option Out :=
 (mSeq (mAsg 2 (mCall RK (mCons (mCall YH (mCons (mVar 0) mNil)) (mCons (mCall SG (mCons (mVar 1) mNil)) mNil))))
 (mSeq (mIf (mTest (mBin deq (mBin dix (mPk 2) (mK (.int 0))) (mK (.str "found")))) (mRet (mTup (mCons (mK (.str "told")) (mCons (mCall UP (mCons (mVar 0) (mCons (mBin dix (mPk 2) (mK (.int 1))) mNil))) mNil)))) mNext)
 (mRet (mTup (mCons (mK (.str "hidden")) (mCons (mBin dix (mPk 2) (mK (.int 1))) (mCons (mBin dRep (mLst (mCons (mK c_NOUGHT) mNil)) (mCallP dLen (mConsP (mPk 1) mNilP))) mNil)))))))
def P7:List PyData->Option Sl:=EU 3 b_q40 2
theorem A01 (B:Bl mg) (D_q33:Def P w K mg base 8 "solved" qb (spD K RK)) (D_q14:Def P w K mg base 1 "as_fractions" qw (spD K SG)) (D_q16:Def P w K mg base 2 "column_products" ["rows"] (spD K YH)) (D_q38:Def P w K mg base 4 "sums_with" qlb (spD K UP)) (C_NOUGHT:T0 K mg "NOUGHT" c_NOUGHT) (F:Fun K "telling" "telling" d7 f fd):FnOk P w K mg base CX0 9 f fd qfb (spD K P7):=by
 have sc:=oV
 exact fnD F oV rfl rfl fun cdv A outer s H E hr=>
  (AA (BA 2 (BB D_q33 hr (A1 (BB D_q16 hr (A1 (AC 0) AK)) (A1 (BB D_q14 hr (A1 (AC 1) AK)) AK))) sc.nd)
  (AA (HU (P4 hr.units (DE.dp (EA (A5 2) (DE.dp AM))) (DE.dp NN)) (AL (CY (II (A1 NN (A1 (BB D_q38 hr (A1 (AC 0) (A1 (EA (A5 2) (DE.dp AM)) AK))) AK))))) ET)
  (AL (CY (II (A1 NN (A1 (EA (A5 2) (DE.dp AM)) (A1 (E7 (DE.dp (FN (A1 (OI C_NOUGHT) AK))) (DE.dp (ES D6 GW GY B.len (BH (A5 1) CA)))) AK))))))))
def b_q35 : En -> Option Out :=
 (mSeq (mAsg 1 (mCall OW (mCons (mVar 0) mNil)))
 (mSeq (mAsg 2 (mCall NF (mCons (mVar 0) mNil)))
 (mFrz 2 (mRet (mCall T9 (mCons (mCall NH (mCons (mVar 2) (mCons (mVar 2) mNil))) (mCons (mBin dRep (mPk 1) (mPk 1)) mNil)))))))
def YA:List PyData->Option Sl:=EU 3 b_q35 1
theorem xO (B:Bl mg) (D_q19:Def P w K mg base 2 "common_bottom" qib (spD K OW)) (D_q43:Def P w K mg base 3 "whole_row" qib (spD K NF)) (D_q22:Def P w K mg base 2 "fraction" qmb (spD K T9)) (D_q37:Def P w K mg base 1 "sum_of_products" qd (spD K NH)) (F:Fun K "spread" "spread" fE f fd):FnOk P w K mg base CX0 4 f fd ["weights"] (spD K YA):=by
 have sc:=oG
 exact fnD F oG rfl rfl fun cdv A outer s H E hr=>
  (AA (BA 1 (BB D_q19 hr (A1 (AC 0) AK)) sc.nd)
  (AA (BA 2 (BB D_q43 hr (A1 (AC 0) AK)) sc.nd)
  (AL (DX 2 (CY (BB D_q22 hr (A1 (BB D_q37 hr (A1 (AC 2) (A1 (AC 2) AK))) (A1 (E7 (A5 1) (A5 1)) AK))))))))
def b_q31 : En -> Option Out :=
 (mSeq (mAsg 1 (mK (.int 1)))
 (mSeq (IB (EN (mVar 0)) (gVar 2) (mAsg 1 (mBin dRep (mPk 1) (mPk 2))))
 (mRet (mPk 1))))
def YU:List PyData->Option Sl:=EU 3 b_q31 1
theorem A51 (B:Bl mg) (F:Fun K "product_of" "product_of" cO f fd):FnOk P w K mg base CX0 1 f fd qw (spD K YU):=by
 have sc:=nG
 exact fnD F nG rfl rfl fun cdv A outer s H E hr=>
  (AA (BA 1 AM sc.nd)
  (AA (FX BL (GL (AC 0)) (EB 2 sc.nd) (AL (BA 1 (E7 (A5 1) (A5 2)) sc.nd)))
  (AL (IK 1))))
def b_q41 : En -> Option Out :=
 (mSeq (mAsg 2 (mLst mNil))
 (mSeq (IB (m3 (mCons (mVar 0) mNil)) (gVar 3) (mSeq (mApp 2 (mBin EH (mPk 1) (mPk 3)))
 (mAsg 1 (mBin DN (mPk 1) (mPk 3)))))
 (mRet (mCallP R6 (mConsP (mPk 2) mNilP)))))
def YG:List PyData->Option Sl:=EU 4 b_q41 2
theorem A47 (B:Bl mg) (F:Fun K "trial_at" "trial_at" fL f fd):FnOk P w K mg base CX0 1 f fd qv (spD K YG):=by
 have sc:=jM
 exact fnD F jM rfl rfl fun cdv A outer s H E hr=>
  (AA (BA 2 (FN AK) sc.nd)
  (AA (FX BL (yV B.reversed (A1 (AC 0) AK)) (EB 3 sc.nd) (AA (RJ 2 (EJ (A5 1) (A5 3)))
  (AL (BA 1 (F0 (A5 1) (A5 3)) sc.nd))))
  (AL (CY (gJ B.reversed B.tuple (BH (A5 2) CA))))))
def b_q13 : En -> Option Out :=
 (mRet (mLC (CP [some 0,none]) (KJ (mConsP (mCall YU (mCons (mVar 0) mNil)) mNilP)) (gVar 1) mYes (mCall YG (mCons (mVar 0) (mCons (mVar 1) mNil)))))
def QF:List PyData->Option Sl:=EU 1 b_q13 1
theorem A15 (B:Bl mg) (D_q31:Def P w K mg base 1 "product_of" qw (spD K YU)) (D_q41:Def P w K mg base 1 "trial_at" qv (spD K YG)) (F:Fun K "all_trials" "all_trials" cI f fd):FnOk P w K mg base CX0 2 f fd ["levels"] (spD K QF):=by
 have sc:=oI
 exact fnD F oI rfl rfl fun cdv A outer s H E hr=>
  (AL (CY (EX (N':=qv) (R':=PR K) BZ C3 [some 0,none] (CP [some 0,none]) E6 (GD B.range (BH (DE.dp (BB D_q31 hr (A1 (AC 0) AK))) CA)) (fun _=>(BJ 1 (nN qv))) (fun _=>D7) (fun _=>(BB D_q41 hr (A1 (AC 0) (A1 (AC 1) AK)))))))
def b_q20 : En -> Option Out :=
 (mSeq (mIf (mTest (mBin dLt (mPk 1) (mPk 0))) (mRet (mK (.int 1))) mNext)
 (mSeq (mIf (mTest (mBin deq (mPk 1) (mPk 0))) (mRet (mUn (iun fun i=> -i) (mPk 0))) mNext)
 (mRet (mK (.int 0)))))
def YZ:List PyData->Option Sl:=EU 2 b_q20 2
theorem A12 (B:Bl mg) (F:Fun K "contrast" "contrast" e9 f fd):FnOk P w K mg base CX0 1 f fd qjb (spD K YZ):=by
 have sc:=oB
 exact fnD F oB rfl rfl fun cdv A outer s H E hr=>
  (AA (HU (kM (A5 1) (A5 0)) (AL (CY AM)) ET)
  (AA (HU (P4 hr.units (A5 1) (A5 0)) (AL (CY (SU (A5 0)))) ET)
  (AL (CY AM))))
def b_q21 : En -> Option Out :=
 (mSeq (mAsg 2 (mCall QF (mCons (mLC (CP [some 0,none]) (EN (mVar 1)) (gVar 1) mYes (mBin dSub (mBin dix (mPk 0) (mPk 1)) (mK (.int 1)))) mNil)))
 (mFrz 2 (mRet (mLC (CP [some 1,none]) (EN (mVar 2)) (gVar 1) mYes (mTup (mCons (mVar 0) (mCons (mCallP dTuple (mConsP (mLC (CP [none]) (EN (mVar 1)) (gVar 0) mYes (mBin dAdd (mPk 0) (mK (.int 1)))) mNilP)) mNil)))))))
def Z9:List PyData->Option Sl:=EU 3 b_q21 2
theorem wP (B:Bl mg) (D_q13:Def P w K mg base 2 "all_trials" ["levels"] (spD K QF)) (F:Fun K "effect_columns" "effect_columns" eB f fd):FnOk P w K mg base CX0 3 f fd qnb (spD K Z9):=by
 have sc:=m9
 exact fnD F m9 rfl rfl fun cdv A outer s H E hr=>
  (AA (BA 2 (BB D_q13 hr (A1 (EX (N':= ["levels","thing"]) (R':=PR K) BZ C3 [some 0,none] (CP [some 0,none]) E6 (GL (AC 1)) (fun _=>(BJ 1 (nN ["levels","thing"]))) (fun _=>D7) (fun _=>(PQ (DE.dp (EA (A5 0) (A5 1))) (DE.dp AM)))) AK)) sc.nd)
  (AL (DX 2 (CY (EX (N':= ["effect","places"]) (R':=PR K) BZ C3 [some 1,none] (CP [some 1,none]) E6 (GL (AC 2)) (fun _=>(BJ 1 (nN ["effect","places"]))) (fun _=>D7) (fun _=>(II (A1 (AC 0) (A1 (LZ FB JM IP B.tuple (BH (DE.dp (EX (N':= ["place"]) (R':=PR K) MM MO [none] (CP [none]) E6 (GL (AC 1)) (fun _=>(BJ 0 (nN ["place"]))) (fun _=>D7) (fun _=>(E9 (A5 0) (DE.dp AM))))) CA)) AK)))))))))
def b_q17 : En -> Option Out :=
 (mSeq (mAsg 2 (mLst mNil))
 (mSeq (IB (EN (mVar 1)) (gVar 3) (aA 2 (mCall Z9 (mCons (mVar 0) (mCons (mVar 3) mNil)))))
 (mRet (mPk 2))))
def Z3:List PyData->Option Sl:=EU 4 b_q17 2
theorem x6 (B:Bl mg) (D_q21:Def P w K mg base 3 "effect_columns" qnb (spD K Z9)) (F:Fun K "columns_of" "columns_of" dI f fd):FnOk P w K mg base CX0 4 f fd qob (spD K Z3):=by
 have sc:=o8
 exact fnD F o8 rfl rfl fun cdv A outer s H E hr=>
  (AA (BA 2 (FN AK) sc.nd)
  (AA (FX BL (GL (AC 1)) (EB 3 sc.nd) (AL (mQ 2 (BB D_q21 hr (A1 (AC 0) (A1 (AC 3) AK))))))
  (AL (IK 2))))
def b_q42 : En -> Option Out :=
 (mSeq (mAsg 2 (mK (.int 1)))
 (mSeq (IB (GQ (mCons (mBin dix (mPk 0) (mK (.int 0))) (mCons (mBin dix (mPk 0) (mK (.int 1))) mNil))) (gTupD [(gVar 3),(gVar 4)]) (mAsg 2 (mBin dRep (mPk 2) (mCall YZ (mCons (mVar 4) (mCons (mBin dix (mPk 1) (mPk 3)) mNil))))))
 (mRet (mPk 2))))
def UT:List PyData->Option Sl:=EU 5 b_q42 2
theorem A10 (B:Bl mg) (D_q20:Def P w K mg base 1 "contrast" qjb (spD K YZ)) (F:Fun K "value_at" "value_at" cX f fd):FnOk P w K mg base CX0 2 f fd qpb (spD K UT):=by
 have sc:=pC
 exact fnD F pC rfl rfl fun cdv A outer s H E hr=>
  (AA (BA 2 AM sc.nd)
  (AA (FX BL (LC B.zip (A1 (EA (A5 0) (DE.dp AM)) (A1 (EA (A5 0) (DE.dp AM)) AK))) (nD (KL (EB 3 sc.nd) (KL (EB 4 sc.nd) WK))) (AL (BA 2 (E7 (A5 2) (DE.dp (BB D_q20 hr (A1 (AC 4) (A1 (EA (A5 1) (A5 3)) AK))))) sc.nd)))
  (AL (IK 2))))
def b_q39 : En -> Option Out :=
 (mSeq (mAsg 3 (mCall Z3 (mCons (mVar 0) (mCons (mVar 2) mNil))))
 (mFrz 3 (mRet (mLC (CP [some 3,none]) (EN (mVar 1)) (gVar 1) mYes (mLC (CP [some 1,none]) (EN (mVar 0)) (gVar 1) mYes (mCall UT (mCons (mVar 1) (mCons (mVar 0) mNil))))))))
def ZF:List PyData->Option Sl:=EU 4 b_q39 3
theorem xP (B:Bl mg) (D_q17:Def P w K mg base 4 "columns_of" qob (spD K Z3)) (D_q42:Def P w K mg base 2 "value_at" qpb (spD K UT)) (F:Fun K "table_of" "table_of" fH f fd):FnOk P w K mg base CX0 5 f fd qt (spD K ZF):=by
 have sc:=kU
 exact fnD F kU rfl rfl fun cdv A outer s H E hr=>
  (AA (BA 3 (BB D_q17 hr (A1 (AC 0) (A1 (AC 2) AK))) sc.nd)
  (AL (DX 3 (CY (EX (N':= ["columns","trial"]) (R':=PR K) BZ C3 [some 3,none] (CP [some 3,none]) E6 (GL (AC 1)) (fun _=>(BJ 1 (nN ["columns","trial"]))) (fun _=>D7) (fun _=>(EX (N':= ["trial","column"]) (R':=PR K) MM MO [some 1,none] (CP [some 1,none]) E6 (GL (AC 0)) (fun _=>(BJ 1 (nN ["trial","column"]))) (fun _=>D7) (fun _=>(BB D_q42 hr (A1 (AC 1) (A1 (AC 0) AK)))))))))))
def b_q18 : En -> Option Out :=
 (mRet (mBin EH (mCallP dSum (mConsP (mLC (CP [none,none]) (GQ (mCons (mVar 1) (mCons (mVar 2) mNil))) (gTupD [(gVar 0),(gVar 1)]) mYes (mBin dRep (mPk 0) (mPk 1))) mNilP)) (mPk 0)))
def SZ:List PyData->Option Sl:=EU 3 b_q18 3
theorem A30 (B:Bl mg) (F:Fun K "comes_to" "comes_to" dF f fd):FnOk P w K mg base CX0 1 f fd qx (spD K SZ):=by
 have sc:=lO
 exact fnD F lO rfl rfl fun cdv A outer s H E hr=>
  (AL (CY (EJ (DE.dp (ES (OG rfl) VW VI B.sum (BH (DE.dp (EX (N':= ["rest","step"]) (R':=PR K) BZ C3 [none,none] (CP [none,none]) E6 (LC B.zip (A1 (AC 1) (A1 (AC 2) AK))) (fun _=>(IM (DJ (BJ 0 (nN ["rest","step"])) (DJ (BJ 1 (nN ["rest","step"])) GP)))) (fun _=>D7) (fun _=>(E7 (A5 0) (A5 1))))) CA))) (A5 0))))
def b_q30 : En -> Option Out :=
 (mRet (mBin dRepT (mTup (mCons (mK (.int 0)) mNil)) (mPk 0)))
def YQ:List PyData->Option Sl:=EU 1 b_q30 1
theorem yD (B:Bl mg) (F:Fun K "nought_word" "nought_word" fC f fd):FnOk P w K mg base CX0 1 f fd ["n"] (spD K YQ):=by
 have sc:=lE
 exact fnD F lE rfl rfl fun cdv A outer s H E hr=>
  (AL (CY (bV (DE.dp (II (A1 AM AK))) (A5 0))))
def b_q28 : En -> Option Out :=
 (mRet (mCallP dTuple (mConsP (mLC (CP [some 2,some 0,none,none]) (GQ (mCons (mVar 1) (mCons (mVar 3) mNil))) (gTupD [(gVar 2),(gVar 3)]) mYes (mBin EH (mBin dAdd (mPk 2) (mBin dRep (mPk 0) (mPk 3))) (mPk 1))) mNilP)))
def Z4:List PyData->Option Sl:=EU 4 b_q28 4
theorem zT (B:Bl mg) (F:Fun K "multiple_put_to" "multiple_put_to" dD f fd):FnOk P w K mg base CX0 1 f fd qj (spD K Z4):=by
 have sc:=kI
 exact fnD F kI rfl rfl fun cdv A outer s H E hr=>
  (AL (CY (LZ FB JM IP B.tuple (BH (DE.dp (EX (N':=qsb) (R':=PR K) BZ C3 [some 2,some 0,none,none] (CP [some 2,some 0,none,none]) E6 (LC B.zip (A1 (AC 1) (A1 (AC 3) AK))) (fun _=>(IM (DJ (BJ 2 (nN qsb)) (DJ (BJ 3 (nN qsb)) GP)))) (fun _=>D7) (fun _=>(EJ (DE.dp (E9 (A5 2) (DE.dp (E7 (A5 0) (A5 3))))) (A5 1))))) CA))))
def b_q29 : En -> Option Out :=
 (mSeq (mAsg 4 (mLst mNil))
 (mSeq (IB (EN (mVar 2)) (gVar 5) (aA 4 (mLC (CP [some 0,some 5,some 3,none]) (EN (mVar 1)) (gVar 3) mYes (mCall Z4 (mCons (mVar 0) (mCons (mVar 3) (mCons (mVar 1) (mCons (mVar 2) mNil))))))))
 (mRet (mPk 4))))
def S5:List PyData->Option Sl:=EU 6 b_q29 4
theorem zY (B:Bl mg) (D_q28:Def P w K mg base 1 "multiple_put_to" qj (spD K Z4)) (F:Fun K "multiples_put_to" "multiples_put_to" eM f fd):FnOk P w K mg base CX0 2 f fd qg (spD K S5):=by
 have sc:=lT
 exact fnD F lT rfl rfl fun cdv A outer s H E hr=>
  (AA (BA 4 (FN AK) sc.nd)
  (AA (FX BL (GL (AC 2)) (EB 5 sc.nd) (AL (mQ 4 (EX (N':= ["p","factor","other","word"]) (R':=PR K) BZ C3 [some 0,some 5,some 3,none] (CP [some 0,some 5,some 3,none]) E6 (GL (AC 1)) (fun _=>(BJ 3 (nN ["p","factor","other","word"]))) (fun _=>D7) (fun _=>(BB D_q28 hr (A1 (AC 0) (A1 (AC 3) (A1 (AC 1) (A1 (AC 2) AK))))))))))
  (AL (IK 4))))
def b_q34 : En -> Option Out :=
 (mSeq (mAsg 3 (mLst (mCons (mCall YQ (mCons (mVar 1) mNil)) mNil)))
 (mSeq (IB (EN (mVar 2)) (gVar 4) (mIf (mTest (mBin (IG true) (mPk 4) (mPk 3))) (mFrz 3 (mAsg 3 (mCall S5 (mCons (mVar 0) (mCons (mVar 3) (mCons (mLR (mPk 0)) (mCons (mVar 4) mNil))))))) mNext))
 (mRet (mCallP dSortT (mConsP (mPk 3) mNilP)))))
def ZE:List PyData->Option Sl:=EU 5 b_q34 3
theorem x9 (B:Bl mg) (D_q30:Def P w K mg base 1 "nought_word" ["n"] (spD K YQ)) (D_q29:Def P w K mg base 2 "multiples_put_to" qg (spD K S5)) (F:Fun K "span" "span" fK f fd):FnOk P w K mg base CX0 3 f fd qqb (spD K ZE):=by
 have sc:=j6
 exact fnD F j6 rfl rfl fun cdv A outer s H E hr=>
  (AA (BA 3 (FN (A1 (BB D_q30 hr (A1 (AC 1) AK)) AK)) sc.nd)
  (AA (FX BL (GL (AC 2)) (EB 4 sc.nd) (AL (HU (UF hr.units (A5 4) (A5 3)) (AL (DX 3 (BA 3 (BB D_q29 hr (A1 (AC 0) (A1 (AC 3) (A1 (A91 B.list B.range (A5 0)) (A1 (AC 4) AK))))) sc.nd))) ET)))
  (AL (CY (ES LA S4 PV B.sorted (BH (A5 3) CA))))))
def b_q26 : En -> Option Out :=
 (mRet (mCallP dAll (mConsP (mLC (CP [some 0,some 2,none,none]) (EN (mVar 1)) (gTupD [(gVar 2),(gVar 3)]) mYes (mBin deq (mCall SZ (mCons (mVar 0) (mCons (mVar 2) (mCons (mVar 1) mNil)))) (mPk 3))) mNilP)))
def Y6:List PyData->Option Sl:=EU 3 b_q26 3
theorem yR (B:Bl mg) (D_q18:Def P w K mg base 1 "comes_to" qx (spD K SZ)) (F:Fun K "keeps" "keeps" dU f fd):FnOk P w K mg base CX0 2 f fd qm (spD K Y6):=by
 have sc:=kL
 exact fnD F kL rfl rfl fun cdv A outer s H E hr=>
  (AL (CY (ES (jZ rfl) wY wN B.all (BH (DE.dp (EX (N':=qrb) (R':=PR K) BZ C3 [some 0,some 2,none,none] (CP [some 0,some 2,none,none]) E6 (GL (AC 1)) (fun _=>(IM (DJ (BJ 2 (nN qrb)) (DJ (BJ 3 (nN qrb)) GP)))) (fun _=>D7) (fun _=>(eV hr.units (DE.dp (BB D_q18 hr (A1 (AC 0) (A1 (AC 2) (A1 (AC 1) AK))))) (A5 3))))) CA))))
def b_cut : En -> Option Out :=
 (mRet (mLC (CP [some 0,some 2,none]) (EN (mCall QF (mCons (mBin dRep (mLst (mCons (mVar 0) mNil)) (mPk 1)) mNil))) (gVar 2) (mTest (mCall Y6 (mCons (mVar 0) (mCons (mVar 1) (mCons (mVar 2) mNil))))) (mVar 2)))
def Y4:List PyData->Option Sl:=EU 3 b_cut 3
theorem zL (B:Bl mg) (D_q13:Def P w K mg base 2 "all_trials" ["levels"] (spD K QF)) (D_q26:Def P w K mg base 2 "keeps" qm (spD K Y6)) (F:Fun K "cut" "cut" cY f fd):FnOk P w K mg base CX0 3 f fd qhb (spD K Y4):=by
 have sc:=mH
 exact fnD F mH rfl rfl fun cdv A outer s H E hr=>
  (AL (CY (EX (N':=qm) (R':=PR K) BZ C3 [some 0,some 2,none] (CP [some 0,some 2,none]) E6 (GL (BB D_q13 hr (A1 (E7 (DE.dp (FN (A1 (AC 0) AK))) (A5 1)) AK))) (fun _=>(BJ 2 (nN qm))) (fun _=>(dW (oP (DE.dp (BB D_q26 hr (A1 (AC 0) (A1 (AC 1) (A1 (AC 2) AK)))))))) (fun _=>(AC 2)))))
def b_q25 : En -> Option Out :=
 (mSeq (mAsg 3 (mCall ZE (mCons (mVar 0) (mCons (mCallP dLen (mConsP (mPk 2) mNilP)) (mCons (mVar 1) mNil)))))
 (mSeq (mIf (mTest (mBin (IG false) (mPk 2) (mPk 3))) mNever mNext)
 (mFrz 3 (mRet (mCallP dSortT (mConsP (mCall S5 (mCons (mVar 0) (mCons (mVar 3) (mCons (sR (mK (.int 1)) (mPk 0)) (mCons (mVar 2) mNil))))) mNilP))))))
def UA:List PyData->Option Sl:=EU 4 b_q25 3
theorem A19 (B:Bl mg) (D_q34:Def P w K mg base 3 "span" qqb (spD K ZE)) (D_q29:Def P w K mg base 2 "multiples_put_to" qg (spD K S5)) (F:Fun K "hides" "hides" d9 f fd):FnOk P w K mg base CX0 4 f fd qbb (spD K UA):=by
 have sc:=j7
 exact fnD F j7 rfl rfl fun cdv A outer s H E hr=>
  (AA (BA 3 (BB D_q34 hr (A1 (AC 0) (A1 (ES D6 GW GY B.len (BH (A5 2) CA)) (A1 (AC 1) AK)))) sc.nd)
  (AA (HU (NX hr.units (A5 2) (A5 3)) (AL oZ) ET)
  (AL (DX 3 (CY (ES LA S4 PV B.sorted (BH (DE.dp (BB D_q29 hr (A1 (AC 0) (A1 (AC 3) (A1 (A22 B.list B.range (DE.dp AM) (A5 0)) (A1 (AC 2) AK)))))) CA)))))))
def b_q6 : En -> Option Out :=
 (mSeq (mAsg 2 (mBin EH (mBin dRep (mBin dAdd (mBin dAdd (mBin EH (mPk 0) (mK (.int 2147483647))) (mBin dRep (mBin dRep (mK (.int 40503)) (mPk 1)) (mPk 1))) (mBin dRep (mK (.int 17)) (mPk 1))) (mK (.int 48271))) (mK (.int 2147483647))))
 (mRet (mBin EH (mBin dRep (mPk 2) (mBin dAdd (mBin dAdd (mBin EH (mPk 2) (mK (.int 65537))) (mBin dRep (mK (.int 3)) (mPk 1))) (mK (.int 1)))) (mK (.int 2147483629)))))
def gU:List PyData->Option Sl:=EU 3 b_q6 2
theorem A82 (B:Bl mg) (F:Fun K "_law_mixed" "_law_mixed" rG f fd):FnOk P w K mg base CX0 1 f fd qgb (spD K gU):=by
 have sc:=w9
 exact fnD F w9 rfl rfl fun cdv A outer s H E hr=>
  (AA (BA 2 (EJ (DE.dp (E7 (DE.dp (E9 (DE.dp (E9 (DE.dp (EJ (A5 0) (DE.dp AM))) (DE.dp (E7 (DE.dp (E7 (DE.dp AM) (A5 1))) (A5 1))))) (DE.dp (E7 (DE.dp AM) (A5 1))))) (DE.dp AM))) (DE.dp AM)) sc.nd)
  (AL (CY (EJ (DE.dp (E7 (A5 2) (DE.dp (E9 (DE.dp (E9 (DE.dp (EJ (A5 2) (DE.dp AM))) (DE.dp (E7 (DE.dp AM) (A5 1))))) (DE.dp AM))))) (DE.dp AM)))))
def b_q11 : En -> Option Out :=
 (mSeq (mAsg 4 (mBin DN (mPk 0) (mK (.int 2))))
 (mSeq (IB (KJ (mConsP (mBin dRep (mBin EH (mPk 1) (mK (.int 10))) (mPk 3)) mNilP)) (gVar 5) (mAsg 4 (mBin DN (mPk 4) (mPk 2))))
 (mSeq (mAsg 6 (mLst mNil))
 (mSeq (IB (KJ (mConsP (mPk 3) mNilP)) (gVar 5) (mSeq (mAsg 7 (mCall gU (mCons (mVar 0) (mCons (mBin dAdd (mBin dRep (mK (.int 10)) (mPk 1)) (mPk 5)) mNil))))
 (mSeq (mAsg 8 (mBin dRep (mBin EH (mBin DN (mPk 7) (mK (.int 2))) (mPk 2)) (mCallP dInt (mConsP (mBin dGt (mBin dAdd (mBin EH (mPk 7) (mK (.int 2))) (mBin EH (mBin DN (mPk 0) (mK (.int 11))) (mK (.int 2)))) (mK (.int 0))) mNilP))))
 (mSeq (mIf (mTest (mBin deq (mBin EH (mPk 0) (mK (.int 2))) (mK (.int 1)))) (mSeq (mAsg 8 (mBin EH (mPk 4) (mPk 2)))
 (mAsg 4 (mBin DN (mPk 4) (mPk 2)))) mNext)
 (mFrz 8 (mApp 6 (mVar 8)))))))
 (mRet (mCallP dTuple (mConsP (mPk 6) mNilP)))))))
def P6:List PyData->Option Sl:=EU 9 b_q11 4
theorem yL (B:Bl mg) (D_q6:Def P w K mg base 1 "_law_mixed" qgb (spD K gU)) (F:Fun K "_law_word" "_law_word" cQ f fd):FnOk P w K mg base CX0 2 f fd qc (spD K P6):=by
 have sc:=lV
 exact fnD F lV rfl rfl fun cdv A outer s H E hr=>
  (AA (BA 4 (F0 (A5 0) (DE.dp AM)) sc.nd)
  (AA (FX BL (GD B.range (BH (DE.dp (E7 (DE.dp (EJ (A5 1) (DE.dp AM))) (A5 3))) CA)) (EB 5 sc.nd) (AL (BA 4 (F0 (A5 4) (A5 2)) sc.nd)))
  (AA (BA 6 (FN AK) sc.nd)
  (AA (FX BL (GD B.range (BH (A5 3) CA)) (EB 5 sc.nd) (AA (BA 7 (BB D_q6 hr (A1 (AC 0) (A1 (E9 (DE.dp (E7 (DE.dp AM) (A5 1))) (A5 5)) AK))) sc.nd)
  (AA (BA 8 (E7 (DE.dp (EJ (DE.dp (F0 (A5 7) (DE.dp AM))) (A5 2))) (DE.dp (LZ iH A52 yO B.int (BH (DE.dp (A90 (DE.dp (E9 (DE.dp (EJ (A5 7) (DE.dp AM))) (DE.dp (EJ (DE.dp (F0 (A5 0) (DE.dp AM))) (DE.dp AM))))) (DE.dp AM))) CA)))) sc.nd)
  (AA (HU (P4 hr.units (DE.dp (EJ (A5 0) (DE.dp AM))) (DE.dp AM)) (AA (BA 8 (EJ (A5 4) (A5 2)) sc.nd)
  (AL (BA 4 (F0 (A5 4) (A5 2)) sc.nd))) ET)
  (AL (DX 8 (RJ 6 (AC 8))))))))
  (AL (CY (LZ FB JM IP B.tuple (BH (A5 6) CA))))))))
def b_q12 : En -> Option Out :=
 (mSeq (mAsg 3 (mLst mNil))
 (mSeq (IB (EN (mVar 0)) (gVar 4) (mSeq (mAsg 5 (mCall P6 (mCons (mVar 4) (mCons (mK (.int 1)) (mCons (mVar 1) (mCons (mVar 2) mNil))))))
 (mSeq (mIf (mAnd (mTest (mBin deq (mBin EH (mPk 4) (mK (.int 2))) (mK (.int 0)))) (mAnd (mTest (mBin dGt (mCallP dLen (mConsP (mPk 3) mNilP)) (mK (.int 0)))) (mTest (mBin deq (mBin EH (mBin DN (mPk 4) (mK (.int 5))) (mK (.int 4))) (mK (.int 0)))))) (mSeq (mAsg 6 (mBin dix (mPk 3) (mBin dSub (mCallP dLen (mConsP (mPk 3) mNilP)) (mK (.int 1)))))
 (mFrz 6 (mAsg 5 (mCallP dTuple (mConsP (mLC (CP [some 4,some 1,none,none]) (GQ (mCons (mVar 6) (mCons (mBin dix (mPk 3) (mK (.int 0))) mNil))) (gTupD [(gVar 2),(gVar 3)]) mYes (mBin EH (mBin dAdd (mBin dRep (mPk 2) (mBin dAdd (mK (.int 1)) (mBin EH (mPk 0) (mPk 1)))) (mBin dRep (mPk 3) (mBin EH (mBin DN (mPk 0) (mK (.int 7))) (mK (.int 2))))) (mPk 1))) mNilP))))) mNext)
 (mFrz 5 (mApp 3 (mVar 5))))))
 (mRet (mPk 3))))
def YV:List PyData->Option Sl:=EU 7 b_q12 3
theorem xT (B:Bl mg) (D_q11:Def P w K mg base 2 "_law_word" qc (spD K P6)) (F:Fun K "_law_words" "_law_words" dR f fd):FnOk P w K mg base CX0 3 f fd qq (spD K YV):=by
 have sc:=nX
 exact fnD F nX rfl rfl fun cdv A outer s H E hr=>
  (AA (BA 3 (FN AK) sc.nd)
  (AA (FX BL (GL (AC 0)) (EB 4 sc.nd) (AA (BA 5 (BB D_q11 hr (A1 (AC 4) (A1 AM (A1 (AC 1) (A1 (AC 2) AK))))) sc.nd)
  (AA (HU (zZ (jR (P4 hr.units (DE.dp (EJ (A5 4) (DE.dp AM))) (DE.dp AM)) (jR (A86 (DE.dp (ES D6 GW GY B.len (BH (A5 3) CA))) (DE.dp AM)) (qS (P4 hr.units (DE.dp (EJ (DE.dp (F0 (A5 4) (DE.dp AM))) (DE.dp AM))) (DE.dp AM)))))) (AA (BA 6 (EA (A5 3) (DE.dp (PQ (DE.dp (ES D6 GW GY B.len (BH (A5 3) CA))) (DE.dp AM)))) sc.nd)
  (AL (DX 6 (BA 5 (LZ FB JM IP B.tuple (BH (DE.dp (EX (N':=qy) (R':=PR K) BZ C3 [some 4,some 1,none,none] (CP [some 4,some 1,none,none]) E6 (LC B.zip (A1 (AC 6) (A1 (EA (A5 3) (DE.dp AM)) AK))) (fun _=>(IM (DJ (BJ 2 (nN qy)) (DJ (BJ 3 (nN qy)) GP)))) (fun _=>D7) (fun _=>(EJ (DE.dp (E9 (DE.dp (E7 (A5 2) (DE.dp (E9 (DE.dp AM) (DE.dp (EJ (A5 0) (A5 1))))))) (DE.dp (E7 (A5 3) (DE.dp (EJ (DE.dp (F0 (A5 0) (DE.dp AM))) (DE.dp AM))))))) (A5 1))))) CA)) sc.nd)))) ET)
  (AL (DX 5 (RJ 3 (AC 5)))))))
  (AL (IK 3))))
def b_q5 : En -> Option Out :=
 (mRet (mBin EH (mCallP dSum (mConsP (mLC (CP [none,none]) (GQ (mCons (mVar 1) (mCons (mVar 2) mNil))) (gTupD [(gVar 0),(gVar 1)]) mYes (mBin dRep (mPk 0) (mPk 1))) mNilP)) (mPk 0)))
def iK:List PyData->Option Sl:=EU 3 b_q5 3
theorem AB7 (B:Bl mg) (F:Fun K "_law_come" "_law_come" t9 f fd):FnOk P w K mg base CX0 1 f fd qe (spD K iK):=by
 have sc:=v4
 exact fnD F v4 rfl rfl fun cdv A outer s H E hr=>
  (AL (CY (EJ (DE.dp (ES (OG rfl) VW VI B.sum (BH (DE.dp (EX (N':=qdb) (R':=PR K) BZ C3 [none,none] (CP [none,none]) E6 (LC B.zip (A1 (AC 1) (A1 (AC 2) AK))) (fun _=>(IM (DJ (BJ 0 (nN qdb)) (DJ (BJ 1 (nN qdb)) GP)))) (fun _=>D7) (fun _=>(E7 (A5 0) (A5 1))))) CA))) (A5 0))))
def b_q9 : En -> Option Out :=
 (mSeq (mAsg 3 (mLst (mCons (mBin dRepT (mTup (mCons (mK (.int 0)) mNil)) (mPk 1)) mNil)))
 (mSeq (IB (EN (mVar 2)) (gVar 4) (mSeq (mAsg 5 (mCallP dList (mConsP (mPk 3) mNilP)))
 (mSeq (IB (ON (mConsP (mK (.int 1)) (mConsP (mPk 0) mNilP))) (gVar 6) (mFrz 3 (IB (EN (mVar 3)) (gVar 7) (mSeq (mAsg 8 (mCallP dTuple (mConsP (mLC (CP [some 6,some 0,none,none]) (GQ (mCons (mVar 7) (mCons (mVar 4) mNil))) (gTupD [(gVar 2),(gVar 3)]) mYes (mBin EH (mBin dAdd (mPk 2) (mBin dRep (mPk 0) (mPk 3))) (mPk 1))) mNilP)))
 (mIf (mTest (mBin (IG true) (mPk 8) (mPk 5))) (mFrz 8 (mApp 5 (mVar 8))) mNext)))))
 (mFrz 5 (mAsg 3 (mVar 5))))))
 (mRet (mCallP dSortT (mConsP (mPk 3) mNilP)))))
def lC:List PyData->Option Sl:=EU 9 b_q9 3
theorem AA9 (B:Bl mg) (F:Fun K "_law_span" "_law_span" u8 f fd):FnOk P w K mg base CX0 1 f fd qh (spD K lC):=by
 have sc:=vD
 exact fnD F vD rfl rfl fun cdv A outer s H E hr=>
  (AA (BA 3 (FN (A1 (bV (DE.dp (II (A1 AM AK))) (A5 1)) AK)) sc.nd)
  (AA (FX BL (GL (AC 2)) (EB 4 sc.nd) (AA (BA 5 (LZ L7 VG OY B.list (BH (A5 3) CA)) sc.nd)
  (AA (FX BL (Q9 B.range (BH (DE.dp AM) (BH (A5 0) CA))) (EB 6 sc.nd) (AL (DX 3 (FX BL (GL (AC 3)) (EB 7 sc.nd) (AA (BA 8 (LZ FB JM IP B.tuple (BH (DE.dp (EX (N':=qab) (R':=PR K) BZ C3 [some 6,some 0,none,none] (CP [some 6,some 0,none,none]) E6 (LC B.zip (A1 (AC 7) (A1 (AC 4) AK))) (fun _=>(IM (DJ (BJ 2 (nN qab)) (DJ (BJ 3 (nN qab)) GP)))) (fun _=>D7) (fun _=>(EJ (DE.dp (E9 (A5 2) (DE.dp (E7 (A5 0) (A5 3))))) (A5 1))))) CA)) sc.nd)
  (AL (HU (UF hr.units (A5 8) (A5 5)) (AL (DX 8 (RJ 5 (AC 8)))) ET)))))))
  (AL (DX 5 (BA 3 (AC 5) sc.nd))))))
  (AL (CY (ES LA S4 PV B.sorted (BH (A5 3) CA))))))
def b_q7 : En -> Option Out :=
 (mSeq (mAsg 3 (mLst mNil))
 (mSeq (IB (KJ (mConsP (mK (.int 2)) mNilP)) (gVar 4) (mSeq (mAsg 5 (mCall P6 (mCons (mVar 0) (mCons (mBin dAdd (mK (.int 8)) (mPk 4)) (mCons (mK (.int 2)) (mCons (mVar 1) mNil))))))
 (mSeq (IB (KJ (mConsP (mPk 1) mNilP)) (gVar 6) (mIf (mOr (mTest (mBin (IG false) (mPk 5) (mPk 2))) (mTest (mBin (IG false) (mPk 5) (mPk 3)))) (mAsg 5 (mBin dAdd (mBin dAdd (mSl (mPk 5) mNoPart (mPart (mPk 6))) (mTup (mCons (mBin dSub (mK (.int 1)) (mBin dix (mPk 5) (mPk 6))) mNil))) (mSl (mPk 5) (mPart (mBin dAdd (mPk 6) (mK (.int 1)))) mNoPart))) mNext))
 (mFrz 5 (mApp 3 (mVar 5))))))
 (mSeq (mIf (mTest (mBin deq (mBin EH (mBin DN (mPk 0) (mK (.int 9))) (mK (.int 3))) (mK (.int 0)))) (mSeq (mAsg 7 (mBin dix (mPk 2) (mBin EH (mBin DN (mPk 0) (mK (.int 27))) (mCallP dLen (mConsP (mPk 2) mNilP)))))
 (mFrz 7 (mSet 3 (mK (.int 1)) (mCallP dTuple (mConsP (mLC (CP [none,none]) (GQ (mCons (mVar 7) (mCons (mBin dix (mPk 3) (mK (.int 0))) mNil))) (gTupD [(gVar 0),(gVar 1)]) mYes (mBin EH (mBin dAdd (mPk 0) (mPk 1)) (mK (.int 2)))) mNilP))))) mNext)
 (mRet (mPk 3)))))
def mY:List PyData->Option Sl:=EU 8 b_q7 3
theorem AA0 (B:Bl mg) (D_q11:Def P w K mg base 2 "_law_word" qc (spD K P6)) (F:Fun K "_law_pair" "_law_pair" rW f fd):FnOk P w K mg base CX0 3 f fd qo (spD K mY):=by
 have sc:=vJ
 exact fnD F vJ rfl rfl fun cdv A outer s H E hr=>
  (AA (BA 3 (FN AK) sc.nd)
  (AA (FX BL (GD B.range (BH (DE.dp AM) CA)) (EB 4 sc.nd) (AA (BA 5 (BB D_q11 hr (A1 (AC 0) (A1 (E9 (DE.dp AM) (A5 4)) (A1 AM (A1 (AC 1) AK))))) sc.nd)
  (AA (FX BL (GD B.range (BH (A5 1) CA)) (EB 6 sc.nd) (AL (HU (zZ (oN (NX hr.units (A5 5) (A5 2)) (mR (NX hr.units (A5 5) (A5 3))))) (AL (BA 5 (E9 (DE.dp (E9 (DE.dp (UU (A5 5) OZ (KW (A5 6)))) (DE.dp (II (A1 (PQ (DE.dp AM) (DE.dp (EA (A5 5) (A5 6)))) AK))))) (DE.dp (UU (A5 5) (KW (DE.dp (E9 (A5 6) (DE.dp AM)))) OZ))) sc.nd)) ET)))
  (AL (DX 5 (RJ 3 (AC 5)))))))
  (AA (HU (P4 hr.units (DE.dp (EJ (DE.dp (F0 (A5 0) (DE.dp AM))) (DE.dp AM))) (DE.dp AM)) (AA (BA 7 (EA (A5 2) (DE.dp (EJ (DE.dp (F0 (A5 0) (DE.dp AM))) (DE.dp (ES D6 GW GY B.len (BH (A5 2) CA)))))) sc.nd)
  (AL (DX 7 (VN 3 (LZ FB JM IP B.tuple (BH (DE.dp (EX (N':=qdb) (R':=PR K) BZ C3 [none,none] (CP [none,none]) E6 (LC B.zip (A1 (AC 7) (A1 (EA (A5 3) (DE.dp AM)) AK))) (fun _=>(IM (DJ (BJ 0 (nN qdb)) (DJ (BJ 1 (nN qdb)) GP)))) (fun _=>D7) (fun _=>(EJ (DE.dp (E9 (A5 0) (A5 1))) (DE.dp AM))))) CA)) (DE.dp AM))))) ET)
  (AL (IK 3)))))
def b_q10 : En -> Option Out :=
 (mRet (mCallP dTuple (mConsP (mLC (CP [some 0,none]) (KJ (mConsP (mCallP dLen (mConsP (mPk 0) mNilP)) mNilP)) (gVar 1) (mTest (mBin deq (mBin dix (mPk 0) (mPk 1)) (mK (.int 1)))) (mVar 1)) mNilP)))
def UR:List PyData->Option Sl:=EU 1 b_q10 1
theorem yG (B:Bl mg) (F:Fun K "_law_things" "_law_things" bZ f fd):FnOk P w K mg base CX0 1 f fd qkb (spD K UR):=by
 have sc:=lY
 exact fnD F lY rfl rfl fun cdv A outer s H E hr=>
  (AL (CY (LZ FB JM IP B.tuple (BH (DE.dp (EX (N':= ["_law_word_here","_law_k"]) (R':=PR K) BZ C3 [some 0,none] (CP [some 0,none]) E6 (GD B.range (BH (DE.dp (ES D6 GW GY B.len (BH (A5 0) CA))) CA)) (fun _=>(BJ 1 (nN ["_law_word_here","_law_k"]))) (fun _=>(dW (P4 hr.units (DE.dp (EA (A5 0) (A5 1))) (DE.dp AM)))) (fun _=>(AC 1)))) CA))))
def b_q8 : En -> Option Out :=
 (mSeq (mAsg 3 (mCall lC (mCons (mK (.int 2)) (mCons (mVar 0) (mCons (mVar 1) mNil)))))
 (mSeq (mFrz 3 (mAsgT (bS [(gVar 8),(gVar 9)]) (mCall mY (mCons (mVar 2) (mCons (mVar 0) (mCons (mVar 3) mNil))))))
 (mSeq (mIf (mOr (mTest (mBin (IG false) (mPk 8) (mPk 3))) (mOr (mTest (mBin (IG false) (mPk 9) (mPk 3))) (mTest (mBin deq (mPk 8) (mPk 9))))) (mRet (mK (.bool true))) mNext)
 (mSeq (mAsg 4 (mCall P6 (mCons (mVar 2) (mCons (mK (.int 5)) (mCons (mK (.int 2)) (mCons (mVar 0) mNil))))))
 (mSeq (mFrz 4 (mAsg 5 (mCall Y4 (mCons (mK (.int 2)) (mCons (mVar 0) (mCons (mLC (CP [some 4,none]) (EN (mVar 1)) (gVar 1) mYes (mTup (mCons (mVar 1) (mCons (mCall iK (mCons (mK (.int 2)) (mCons (mVar 1) (mCons (mVar 0) mNil)))) mNil)))) mNil))))))
 (mSeq (mFrz 5 (mAsg 6 (mCall ZF (mCons (mLC (CP [none]) (KJ (mConsP (mPk 0) mNilP)) (gVar 0) mYes (mK (.int 2))) (mCons (mVar 5) (mCons (mLst (mCons (mTup mNil) (mCons (mCall UR (mCons (mVar 8) mNil)) (mCons (mCall UR (mCons (mVar 9) mNil)) mNil)))) mNil))))))
 (mSeq (mFrz 6 (mAsg 7 (mCall P7 (mCons (mVar 6) (mCons (mLst (mCons (mK (.int 0)) (mCons (mK (.int 1)) (mCons (mK (.int 0)) mNil)))) mNil)))))
 (mSeq (mIf (mTest (mBin (IG false) (mPk 9) (mCall UA (mCons (mK (.int 2)) (mCons (mVar 1) (mCons (mVar 8) mNil)))))) (mRet (mBin deq (mBin dix (mPk 7) (mK (.int 0))) (mK (.str "hidden")))) mNext)
 (mRet (mAndV (mBin deq (mBin dix (mPk 7) (mK (.int 0))) (mK (.str "told"))) (mBin deq (mCall YA (mCons (mBin dix (mPk 7) (mK (.int 1))) mNil)) (mTup (mCons (mK (.int 1)) (mCons (mCallP dLen (mConsP (mPk 5) mNilP)) mNil))))))))))))))
def lJ:List PyData->Option Sl:=EU 10 b_q8 3
theorem AC6 (B:Bl mg) (D_q9:Def P w K mg base 1 "_law_span" qh (spD K lC)) (D_q7:Def P w K mg base 3 "_law_pair" qo (spD K mY)) (D_q11:Def P w K mg base 2 "_law_word" qc (spD K P6)) (D_cut:Def P w K mg base 3 "cut" qhb (spD K Y4)) (D_q5:Def P w K mg base 1 "_law_come" qe (spD K iK)) (D_q39:Def P w K mg base 5 "table_of" qt (spD K ZF)) (D_q10:Def P w K mg base 1 "_law_things" qkb (spD K UR)) (D_q40:Def P w K mg base 9 "telling" qfb (spD K P7)) (D_q25:Def P w K mg base 4 "hides" qbb (spD K UA)) (D_q35:Def P w K mg base 4 "spread" ["weights"] (spD K YA)) (F:Fun K "_law_right" "_law_right" rS f fd):FnOk P w K mg base CX0 10 f fd qf (spD K lJ):=by
 have sc:=v8
 exact fnD F v8 rfl rfl fun cdv A outer s H E hr=>
  (AA (BA 3 (BB D_q9 hr (A1 AM (A1 (AC 0) (A1 (AC 1) AK)))) sc.nd)
  (AA (DX 3 (qP (BB D_q7 hr (A1 (AC 2) (A1 (AC 0) (A1 (AC 3) AK)))) (r6 (KL (EB 8 sc.nd) (KL (EB 9 sc.nd) WK)))))
  (AA (HU (zZ (oN (NX hr.units (A5 8) (A5 3)) (oN (NX hr.units (A5 9) (A5 3)) (mR (P4 hr.units (A5 8) (A5 9)))))) (AL (CY VB)) ET)
  (AA (BA 4 (BB D_q11 hr (A1 (AC 2) (A1 AM (A1 AM (A1 (AC 0) AK))))) sc.nd)
  (AA (DX 4 (BA 5 (BB D_cut hr (A1 AM (A1 (AC 0) (A1 (EX (N':= ["_law_trial","_law_word_here"]) (R':=PR K) BZ C3 [some 4,none] (CP [some 4,none]) E6 (GL (AC 1)) (fun _=>(BJ 1 (nN ["_law_trial","_law_word_here"]))) (fun _=>D7) (fun _=>(II (A1 (AC 1) (A1 (BB D_q5 hr (A1 AM (A1 (AC 1) (A1 (AC 0) AK)))) AK))))) AK)))) sc.nd))
  (AA (DX 5 (BA 6 (BB D_q39 hr (A1 (EX (N':= ["_law_k"]) (R':=PR K) BZ C3 [none] (CP [none]) E6 (GD B.range (BH (A5 0) CA)) (fun _=>(BJ 0 (nN ["_law_k"]))) (fun _=>D7) (fun _=>AM)) (A1 (AC 5) (A1 (FN (A1 (II AK) (A1 (BB D_q10 hr (A1 (AC 8) AK)) (A1 (BB D_q10 hr (A1 (AC 9) AK)) AK)))) AK)))) sc.nd))
  (AA (DX 6 (BA 7 (BB D_q40 hr (A1 (AC 6) (A1 (FN (A1 AM (A1 AM (A1 AM AK)))) AK))) sc.nd))
  (AA (HU (NX hr.units (A5 9) (DE.dp (BB D_q25 hr (A1 AM (A1 (AC 1) (A1 (AC 8) AK)))))) (AL (CY (eV hr.units (DE.dp (EA (A5 7) (DE.dp AM))) (DE.dp NN)))) ET)
  (AL (CY (zP (eV hr.units (DE.dp (EA (A5 7) (DE.dp AM))) (DE.dp NN)) (t8 (eV hr.units (DE.dp (BB D_q35 hr (A1 (EA (A5 7) (DE.dp AM)) AK))) (DE.dp (II (A1 AM (A1 (ES D6 GW GY B.len (BH (A5 5) CA)) AK)))))))))))))))))
def b_law : En -> Option Out :=
 (mSeq (mAsg 1 (mBin dAdd (mSl (mPk 0) mNoPart (mPart (mK (.int 42)))) (mLst (mCons (mK (.int 0)) mNil))))
 (mSeq (mAsg 2 (mK (.int 0)))
 (mSeq (K8 (mTest (mBin dLt (mPk 2) (mCallP dLen (mConsP (mPk 1) mNilP)))) (mSeq (mAsg 3 (mBin dix (mPk 1) (mPk 2)))
 (mSeq (mAsg 4 (mBin dAdd (mK (.int 1)) (mBin EH (mPk 3) (mK (.int 5)))))
 (mSeq (mAsg 5 (mBin EH (mBin DN (mPk 3) (mK (.int 5))) (mK (.int 4))))
 (mSeq (mFrz 4 (mAsg 6 (mCall YV (mCons (mSl (mPk 1) (mPart (mBin dAdd (mPk 2) (mK (.int 1)))) (mPart (mBin dAdd (mBin dAdd (mPk 2) (mK (.int 1))) (mPk 5)))) (mCons (mK (.int 2)) (mCons (mVar 4) mNil))))))
 (mSeq (mFrz 6 (mFrz 4 (mIf (mNot (mTest (mCall lJ (mCons (mVar 4) (mCons (mVar 6) (mCons (mBin DN (mPk 3) (mK (.int 3))) mNil)))))) (mRet (mK (.bool false))) mNext)))
 (mAsg 2 (mBin dAdd (mBin dAdd (mPk 2) (mK (.int 1))) (mPk 5)))))))))
 (mRet (mK (.bool true))))))
def vC:List PyData->Option Sl:=EU 7 b_law 1
theorem xN (B:Bl mg) (D_q12:Def P w K mg base 3 "_law_words" qq (spD K YV)) (D_q8:Def P w K mg base 10 "_law_right" qf (spD K lJ)) (F:Fun K "law" "law" SF f fd):FnOk P w K mg base CX0 11 f fd qvb (spD K vC):=by
 have sc:=nI
 exact fnD F nI rfl rfl fun cdv A outer s H E hr=>
  (AA (BA 1 (E9 (DE.dp (UU (A5 0) OZ (KW (DE.dp AM)))) (DE.dp (FN (A1 AM AK)))) sc.nd)
  (AA (BA 2 AM sc.nd)
  (AA (X9 BL (kM (A5 2) (DE.dp (ES D6 GW GY B.len (BH (A5 1) CA)))) (AA (BA 3 (EA (A5 1) (A5 2)) sc.nd)
  (AA (BA 4 (E9 (DE.dp AM) (DE.dp (EJ (A5 3) (DE.dp AM)))) sc.nd)
  (AA (BA 5 (EJ (DE.dp (F0 (A5 3) (DE.dp AM))) (DE.dp AM)) sc.nd)
  (AA (DX 4 (BA 6 (BB D_q12 hr (A1 (UU (A5 1) (KW (DE.dp (E9 (A5 2) (DE.dp AM)))) (KW (DE.dp (E9 (DE.dp (E9 (A5 2) (DE.dp AM))) (A5 5))))) (A1 AM (A1 (AC 4) AK)))) sc.nd))
  (AA (DX 6 (DX 4 (HU (wW (oP (DE.dp (BB D_q8 hr (A1 (AC 4) (A1 (AC 6) (A1 (F0 (A5 3) (DE.dp AM)) AK))))))) (AL (CY VB)) ET)))
  (AL (BA 2 (E9 (DE.dp (E9 (A5 2) (DE.dp AM))) (A5 5)) sc.nd))))))))
  (AL (CY VB)))))
end
local macro_rules | `(tactic| walk_at "ev") => `(tactic| simp only [mSeq, mIf, mTest, mBin, mUn, mK, mPk, mVar, mAsg, mRet, mRetN, mCall, mCons, mNil, mCallP, mConsP, mNilP, mTup, mLst, mOr, mAnd, mNot, mNotV, mAndV, mOrV, mIfE, mNext, mBrk, mCt, mDrop, mApp, mSet, mFrz, frz1, mPar, mAsgT, gVar, gTupD, gsAll, mItems, mItemsT, mSl, mPart, mNoPart, mDat, Sl.dat, mYes, mIsi, tyD, isiD, iop, icmp, iun, dAddI, dSub, dAdd, dLt, dLe, dGt, dGe, deq, dne, disN, disNN, isNone, dix, dLen, dAbs, dList, dTuple, dInt, dSl, BV, F2, DZ, N9, CT, BW, IV, IW, B9, List.length_nil, eqD_int, K6, List.nil_append, DK, BN, WQ, FP, HJ, VA, reduceIte, reduceCtorEq, Bool.not_true, Bool.not_false, decide_true, decide_false])
theorem nF(a b:Int):QJ [.int a, .int b]=some (.val (.int (Int.gcd a b))):=by
 refine IL (ρ:= [some (.val (.int a)),some (.val (.int b)),none]) rfl rfl ?_;unfold b_q24
 obtain ⟨ρ',h1,⟨x,y,r,rfl,hg⟩,h3⟩:=gS (c:=mTest (mBin dne (mPk 1) (mK (.int 0)))) (b:=(mSeq (mAsg 2 (mBin EH (mPk 0) (mPk 1))) (mSeq (mAsg 0 (mVar 1)) (mFrz 2 (mAsg 1 (mVar 2))))))
  (ρ:= [some (.val (.int a)),some (.val (.int b)),none]) (fun ρ=>∃x y r,ρ = [some (.val (.int x)),some (.val (.int y)),r]/\Int.gcd x y=Int.gcd a b)
  (fun ρ=>match ρ with | [_,some (.val (.int y)),_]=>y.natAbs | _=>0) ⟨a,b,none,rfl,rfl⟩ (by
   rintro ρ ⟨x,y,r,rfl,hg⟩
   by_cases hy:y=0
   . left
     walk_at "ev"
     simp [hy]
   . right;refine ⟨by walk_at "ev";simp [hy],_,by walk_at "ev";rw [NR hy];walk_at "ev";rfl,⟨_,_,_,rfl,(oJ x y).trans hg⟩,rD hy⟩)
 refine I0 h1 (JU ?_)
 have hy:y=0:=by
  revert h3
  walk_at "ev"
  simp
 subst hy
 walk_at "ev"
 congr 3
 rw [<-hg,Int.gcd_zero_right]
 split <;> omega
theorem YN{a b:Int}(hb:b≠0)(hB:Bt 9000 b):T9 [.int a, .int b]=some (.val (DR (fr a b))):=by
 refine IL (ρ:= [some (.val (.int a)),some (.val (.int b)),none]) rfl rfl ?_;unfold b_q22;have hs:=ZG (a:=a) hb;have hS:=AA7 (a:=a) hb hB;refine I0 (EL (BF (by walk_at "ev") (nF a b))) ?_;refine I0 (ρ':= [some (.val (.int a)),some (.val (.int b)),some (.val (.int (sg a b)))]) ?_ ?_
 . walk_at "ev"
   unfold sg
   by_cases h:b<0 <;> simp [h]
 . refine JU ?_
   walk_at "ev"
   rw [YD ⟨hs,hS⟩,YD ⟨hs,hS⟩]
   walk_at "ev"
   rfl
open Ba in
def DD(m:Nat)(r:Nat->Int):PyData:= .list ((List.range m).map fun j=> .int (r j))
def CD(n m:Nat)(R:Ba.Mx):List PyData:=(List.range n).map fun i=>DD m (R i)
def ldD(k:Nat)(L:Nat->Nat):List PyData:=(List.range k).map fun t=> .int (L t)
def NY(n m:Nat)(R:Ba.Mx)(k:Nat)(L:Nat->Nat)(last:Int):En:= [some (.own (CD n m R)),some (.own (ldD k L)),some (.val (.int last))]
theorem HC{α:Type}{f:Nat->α}{n i:Nat}(h:i<n):atI ((List.range n).map f) (i:Int)=some (f i):=L2.atI_nat (by rw [B3,BU h];rfl)
theorem QZ{n m i:Nat}{R:Ba.Mx}(h:i<n):atI (CD n m R) (i:Int)=some (DD m (R i)):=HC h
theorem QY{n m:Nat}{R:Ba.Mx}:(CD n m R).length=n:=by simp [CD]
theorem WC{k:Nat}{L:Nat->Nat}:(ldD k L).length=k:=by simp [ldD]
theorem PZ{α:Type}{f:Nat->α}{n k:Nat}{x:α}:((List.range n).map f).set k x=(List.range n).map fun i=>if i=k then x else f i:=by
 refine NA fun i=> ?_;rw [List.getElem?_set,B3,B3]
 by_cases hi:i<n
 . rw [BU hi]
   by_cases e:k=i
   . subst e;simp [hi]
   . simp [e,N5 e]
 . rw [BX (l:=List.range n) (by simpa using hi)]
   split
   . rename_i e;subst e;simp [hi]
   . rfl
theorem dZ{n m k:Nat}{R:Ba.Mx}{r:Nat->Int}:(CD n m R).set k (DD m r)=CD n m (Ba.setR R k r):=by
 unfold CD;rw [PZ];refine List.map_congr_left fun i _=> ?_;unfold Ba.setR
 split <;> rfl
def stP(n m k c:Nat)(R:Ba.Mx)(L:Nat->Nat)(last:Int)(z:Option Sl):En:= [none,some (.val (.int k)),some (.val (.int c)),z,some (.own (CD n m R)),some (.own (ldD k L)),some (.val (.int last))]
theorem ZL{n m k c:Nat}{R:Ba.Mx}{L:Nat->Nat}{last:Int}(hk:k<=n)(hn:n<=1000):ON (mConsP (mPk 1) (mConsP (mCallP dLen (mConsP (mPk 4) mNilP)) mNilP)) (stP n m k c R L last none)=some (G5 k (n - k)):=by
 refine VU ?_ (by omega) hn;unfold stP
 walk_at "ev"
 rw [QY]
theorem aM{n m k c i:Nat}{R:Ba.Mx}{L:Nat->Nat}{last:Int}(hi:i<n)(hc:c<m):(mTest (mBin dne (mBin dix (mBin dix (mPk 4) (mPk 3)) (mPk 2)) (mK (.int 0)))) (stP n m k c R L last (some (.val (.int (i:Int)))))=some (!decide (R i c=0)):=by
 unfold stP
 walk_at "ev"
 rw [QZ hi];simp only [DD,F2,BV,Sl.dat,HC hc,eqD_int]
theorem gB {n m k c : Nat} {R : Ba.Mx} {L : Nat -> Nat} {last : Int} (hk : k <= n) (hc : c < m) (hn : n <= 1000) :
 (∃p,k<=p/\p<n/\R p c≠0/\Y1 (NY n m R k L last) [.int k, .int c]=some (NY n m R k L last, .int p)) \/
 ((∀i,k<=i->i<n->R i c=0)/\Y1 (NY n m R k L last) [.int k, .int c]=some (NY n m R k L last, .none)):=by
 have key:=iR (fg:=gVar 3) (gb:=mIf (mTest (mBin dne (mBin dix (mBin dix (mPk 4) (mPk 3)) (mPk 2)) (mK (.int 0)))) (mRet (mPk 3)) mNext) (lo:=k) (n:=n - k) (ρ:=stP n m k c R L last none)
  (fun i ρ=>(∃z,ρ=stP n m k c R L last z)/\∀t,t<i->R (k+t) c=0) (fun o=>∃p z,k<=p/\p<n/\R p c≠0/\o = .rt (.val (.int (p:Nat))) (stP n m k c R L last z)) ⟨⟨none,rfl⟩,fun t h=>absurd h (by omega)⟩ (by
   rintro i ρ hi ⟨⟨z,rfl⟩,hz⟩;refine ⟨stP n m k c R L last (some (.val (.int ((k:Int)+(i:Nat))))),rfl,?_⟩;have e:(k:Int)+(i:Nat)=((k+i:Nat):Int):=by omega
   rw [e];have test:=aM (k:=k) (i:=k+i) (R:=R) (L:=L) (last:=last) (show k+i<n by omega) hc
   by_cases h:R (k+i) c=0
   . left;refine ⟨stP n m k c R L last (some (.val (.int ((k+i:Nat):Int)))),P9 (b:=false) (by rw [test];simp [h]) (by rfl),⟨_,rfl⟩,fun t ht=> ?_⟩
     by_cases e2:t=i
     . subst e2;exact h
     . exact hz t (by omega)
   . right;exact ⟨.val (.int ((k+i:Nat):Int)),stP n m k c R L last (some (.val (.int ((k+i:Nat):Int)))),P9 (b:=true) (by rw [test];simp [h]) (by rfl),k+i,_,by omega,by omega,h,rfl⟩)
 rcases key with ⟨ρ',h1,⟨z,rfl⟩,h2⟩ | ⟨o,h1,p,z,hp,hpn,hr,rfl⟩
 . right;refine ⟨fun i h3 h4=>by have:=h2 (i - k) (by omega);rwa [show k+(i - k)=i by omega] at this,?_⟩;exact QS (ρ:=stP n m k c R L last none) (ρ':=stP n m k c R L last z) rfl rfl rfl (FM (Q4 (ZL hk hn) h1) (mP rfl))
 . left;refine ⟨p,hp,hpn,hr,?_⟩;exact QS (ρ:=stP n m k c R L last none) (ρ':=stP n m k c R L last z) rfl rfl rfl (ZY (Q4 (ZL hk hn) h1))
theorem WM{n m i:Nat}{R:Ba.Mx}(h:i<n):dix (.own (CD n m R)) (.val (.int (i:Int)))=some (.val (DD m (R i))):=by
 show (atI (CD n m R) (i:Int)).map Sl.val=_;rw [QZ h];rfl
theorem MH{m j:Nat}{r:Nat->Int}(h:j<m):dix (.val (DD m r)) (.val (.int (j:Int)))=some (.val (.int (r j))):=by
 show (atI ((List.range m).map fun j=>PyData.int (r j)) (j:Int)).map Sl.val=_;rw [HC h];rfl
theorem QV{n k:Nat}(h:k<n):ixN n (k:Int)=some k:=by
 unfold ixN;rw [if_pos (by omega),if_pos (by omega)];simp
theorem lP {n m k p t : Nat} {R : Ba.Mx} {L : Nat -> Nat} {last : Int} (hk : k < n) (hp : p < n) (hm : m <= 1000) :
 gM (NY n m R t L last) [.int k, .int p]=some (NY n m (if p=k then R else Ba.exch R k p) t L last, .none):=by
 by_cases e:p=k
 . subst e;rw [if_pos rfl];refine QS (ρ:= [none,some (.val (.int (p:Nat))),some (.val (.int (p:Nat))),none,some (.own (CD n m R)),some (.own (ldD t L)),some (.val (.int last))]) (ρ':= [none,some (.val (.int (p:Nat))),some (.val (.int (p:Nat))),none,some (.own (CD n m R)),some (.own (ldD t L)),some (.val (.int last))]) rfl rfl rfl ?_;unfold b_q1;refine ZY (P9 (b:=true) ?_ rfl)
   walk_at "ev"
 . rw [if_neg e];refine WA (ρ:= [none,some (.val (.int (k:Nat))),some (.val (.int (p:Nat))),none,some (.own (CD n m R)),some (.own (ldD t L)),some (.val (.int last))]) (ρ':= [none,some (.val (.int (k:Nat))),some (.val (.int (p:Nat))),some (.val (DD m fun j=> - R k j)),some (.own (CD n m (Ba.exch R k p))),some (.own (ldD t L)),some (.val (.int last))]) rfl rfl rfl ?_;unfold b_q1;refine FM (P9 (b:=false) ?_ rfl) ?_
   . walk_at "ev"
     have:¬((p:Int)=(k:Int)):=by omega
     simp [this]
   refine FM (EL (EY (ds:=(List.range m).map fun j=> .int (R k j)) (es:=(List.range m).map fun j=> .int (- R k j)) ?_ ?_ ?_)) ?_
   . simp only [mItems,mBin,mPk,CT,BW,DZ,BV,WM hk];rfl
   . rw [A4,AI];have:1000<sizeLine:=by decide
     omega
   . refine CG fun j _=> ?_;rfl
   refine FM (ρ':= [none,some (.val (.int (k:Nat))),some (.val (.int (p:Nat))),some (.own ((List.range m).map fun j=> .int (- R k j))),some (.own (CD n m (Ba.setR R k (R p)))),some (.own (ldD t L)),some (.val (.int last))]) ?_ ?_
   . simp only [mSet,mBin,mPk,IW,IV,CT,BW,DZ,BV,WM hp,QY,QV hk,F2,Sl.dat,dZ]
   . simp only [mFrz,frz1,mSet,mVar,mPk,IW,IV,CT,BW,DZ,BV,QY,QV hp,F2,Sl.dat];show some (Out.nx [none,some (.val (.int (k:Nat))),some (.val (.int (p:Nat))),some (.val (DD m fun j=> - R k j)),some (.own ((CD n m (Ba.setR R k (R p))).set p (DD m fun j=> - R k j))),some (.own (ldD t L)),some (.val (.int last))])=_;rw [dZ];rfl
theorem MK{m:Nat}{f g:Nat->PyData}:JK ((List.range m).map f) ((List.range m).map g)=(List.range m).map fun j=> .tuple [f j,g j]:=by
 unfold JK;refine List.ext_getElem? fun i=> ?_;rw [List.getElem?_zipWith,List.getElem?_map,List.getElem?_map,List.getElem?_map]
 cases h:(List.range m)[i]? <;> rfl
theorem Y2 {m c : Nat} {r l : Nat -> Int} {last : Int} (hc : c < m) (hm : m <= 1000) (hr : ∀ j, j < m -> Bt 4000 (r j)) (hl : ∀ j, j < m -> Bt 4000 (l j)) (h0 : last ≠ 0) (hB : Bt 9000 last) :
 XH [DD m r,DD m l, .int c, .int last]=some (.own ((List.range m).map fun j=> .int ((l c*r j - r c*l j).fdiv last))):=by
 have M:∀ {i j:Int},Bt 4000 i->Bt 4000 j->TJ i j:=fun h k=> .inr (TL h k rfl);refine IL (ρ:= [some (.val (DD m r)),some (.val (DD m l)),some (.val (.int (c:Nat))),some (.val (.int last)),none,none]) rfl rfl ?_;unfold b_q15;refine I0 (EL (r:= .val (.int (l c))) ?_) ?_
 . simp only [mBin,mPk,CT,BW,DZ,BV,MH hc]
 refine I0 (EL (r:= .val (.int (r c))) ?_) ?_
 . simp only [mBin,mPk,IW,IV,CT,BW,DZ,BV,MH hc]
 refine JU (EY (ds:=(List.range m).map fun j=> .tuple [.int (r j), .int (l j)]) ?_ ?_ ?_)
 . rw [<-MK];rfl
 . rw [A4,AI];have:1000<sizeLine:=by decide
   omega
 . refine CG fun j hj=> ?_;have hj:=List.mem_range.mp hj;show elM _ _ _ [some (.val (.int (l c))),some (.val (.int (r c))),some (.val (.int last)),none,none] _=_;unfold elM
   walk_at "ev"
   rw [J7 (M (hl c hc) (hr j hj)),J7 (M (hr c hc) (hl j hj))]
   walk_at "ev"
   rw [YD ⟨h0,hB⟩]
   walk_at "ev"
theorem jH{f:Nat->PyData}{n k:Nat}(h:k<=n):IC ((List.range n).map f) (some (k:Int)) none=(List.range (n - k)).map fun i=>f (k+i):=by
 unfold IC;rw [HT.sIx_none,HT.sIx_nat,List.length_map,List.length_range,Nat.min_eq_left h];refine List.ext_getElem? fun i=> ?_;rw [List.getElem?_take,List.getElem?_drop,List.getElem?_map,List.getElem?_map]
 by_cases hi:i<n - k
 . rw [AU hi,BU hi,BU (show k+i<n by omega)];rfl
 . rw [AR hi,BX (l:=List.range (n - k)) (by simpa using hi)];rfl
theorem jE{f:Nat->PyData}{n k:Nat}(h:k<=n):IC ((List.range n).map f) none (some (k:Int))=(List.range k).map f:=by
 unfold IC;rw [HT.sIx_none,HT.sIx_nat,List.length_map,List.length_range,Nat.min_eq_left h,List.drop_zero,Nat.sub_zero];refine List.ext_getElem? fun i=> ?_;rw [List.getElem?_take,List.getElem?_map,List.getElem?_map]
 by_cases hi:i<k
 . rw [AU hi,BU hi,BU (show i<n by omega)]
 . rw [AR hi,BX (l:=List.range k) (by simpa using hi)];rfl
theorem hZ{f g:Nat->PyData}{n k:Nat}(h:k<=n):(List.range k).map f++(List.range (n - k)).map (fun i=>g (k+i))=(List.range n).map fun i=>if i<k then f i else g i:=by
 refine NA fun i=> ?_;rw [B3]
 by_cases hi:i<k
 . rw [A9 (by simpa using hi),B3,BU hi,BU (show i<n by omega)];simp [hi]
 . rw [A6 (by simpa using hi),B3,A4,AI]
   by_cases h2:i<n
   . rw [BU h2,BU (show i - k<n - k by omega)];simp only [F2,AR hi,show k+(i - k)=i by omega]
   . rw [BX (l:=List.range (n - k)) (by simp;omega),BX (l:=List.range n) (by simp;omega)];rfl
theorem tV{k c:Nat}{L:Nat->Nat}:ldD k L ++ [.int (c:Int)]=ldD (k+1) (fun t=>if t=k then c else L t):=by
 unfold ldD;rw [List.range_succ,List.map_append];congr 1
 . refine C7 fun t ht=> ?_;have:=BC.mp ht;show _=PyData.int ((if t=k then c else L t:Nat):Int);rw [AR (by omega)]
 . simp
theorem eY{x:Int}{Y n:Nat}(h:x.natAbs<=(32*Y) ^ n)(hY:(32*Y) ^ n<2 ^ 4000):Bt 4000 x:=DH h hY
def NI(R:Ba.Mx)(k c:Nat)(last:Int):Ba.Mx:=fun i j=>if i<k+1 then R i j else (Ba.clr R k c i j).fdiv last
theorem jP {n m Y k c : Nat} {A R B : Ba.Mx} {L : Nat -> Nat} {last : Int} (I : Ba.BI n m A R k L last c B) (hc : c < m) (hn : n <= 32) (hm : m <= 1000) (hY1 : 1 <= Y) (hY : (32 * Y) ^ n < 2 ^ 4000) (hA : ∀ i, i < n -> ∀ j, j < m -> (A i j).natAbs <= Y) :
 ∃R' k' L' last' B',Ba.BI n m A R' k' L' last' (c+1) B'/\bL (NY n m R k L last) [.int c]=some (NY n m R' k' L' last', .none):=by
 have sl:3000<sizeLine:=by decide
 rcases gB (L:=L) (last:=last) (R:=R) I.kn hc (show n<=1000 by omega) with ⟨p,hkp,hpn,hR,pl⟩ | ⟨hz,pl⟩
 . have hk:k<n:=by omega
   obtain ⟨R1,hR1,B1,I1,hl⟩:∃R1,R1=(if p=k then R else Ba.exch R k p)/\∃B1,Ba.BI n m A R1 k L last c B1/\R1 k c≠0:=by
    by_cases e:p=k
    . subst e;exact ⟨R,by rw [AU rfl],B,I,hR⟩
    . exact ⟨Ba.exch R k p,by rw [AR e],_,I.exch (by omega) hpn,by rw [Ba.exch_r (N5 e)];exact hR⟩
   have ex:=lP (t:=k) (R:=R) (L:=L) (last:=last) hk hpn hm;rw [<-hR1] at ex
   obtain ⟨bR,bl⟩:=I1.bound hn hY1 hA;have BR:∀i,i<n->∀j,j<m->Bt 4000 (R1 i j):=fun i hi j hj=>eY (bR i hi j hj) hY;have Bl:Bt 9000 last:=(eY bl hY).mono (by decide)
   have st2:Ba.BI n m A (NI R1 k c last) (k+1) (fun t=>if t=k then c else L t) (R1 k c) (c+1) B1:=by
    refine I1.step hc hk hl (fun i hi j hj=> ?_) (fun i h1 h2 j hj=> ?_)
    . unfold NI;rw [if_pos (by omega)]
    . unfold NI;rw [if_neg (by omega)];have:=(I1.exact hc hk hl h1 h2).2 j hj;rw [this];rw [Int.mul_fdiv_cancel_left _ I1.nz]
   refine ⟨NI R1 k c last,k+1,fun t=>if t=k then c else L t,R1 k c,B1,st2,?_⟩
   have mat2:(List.range (k+1)).map (fun i=>DD m (R1 i))++(List.range (n - (k+1))).map (fun i=>DD m fun j=>(Ba.clr R1 k c (k+1+i) j).fdiv last)=CD n m (NI R1 k c last):=by
    rw [hZ (g:=fun i=>DD m fun j=>(Ba.clr R1 k c i j).fdiv last) (show k+1<=n by omega)];unfold CD;refine List.map_congr_left fun i _=> ?_
    by_cases hi:i<k+1
    . rw [if_pos hi];unfold NI DD;simp only [if_pos hi]
    . rw [if_neg hi];unfold NI DD;simp only [if_neg hi]
   refine WA (ρ:= [none,some (.val (.int (c:Nat))),none,none,none,none,some (.own (CD n m R)),some (.own (ldD k L)),some (.val (.int last))])
    (ρ':= [none,some (.val (.int (c:Nat))),some (.val (.int (k:Nat))),some (.val (.int (p:Nat))),some (.val (DD m (R1 k))),some (.own ((List.range (n - (k+1))).map fun i=>DD m fun j=>(Ba.clr R1 k c (k+1+i) j).fdiv last)),some (.own (CD n m (NI R1 k c last))),some (.own (ldD (k+1) (fun t=>if t=k then c else L t))),some (.val (.int (R1 k c)))]) rfl rfl rfl ?_
   unfold b_q4;refine FM (ρ':= [none,some (.val (.int (c:Nat))),some (.val (.int (k:Nat))),none,none,none,some (.own (CD n m R)),some (.own (ldD k L)),some (.val (.int last))]) ?_ ?_
   . walk_at "ev"
     rw [WC]
   refine FM (ρ':= [none,some (.val (.int (c:Nat))),some (.val (.int (k:Nat))),some (.val (.int (p:Nat))),none,none,some (.own (CD n m R)),some (.own (ldD k L)),some (.val (.int last))]) ?_ ?_
   . show K5 6 _ _ _ [none,some (.val (.int (c:Nat))),some (.val (.int (k:Nat))),none,none,none,some (.own (CD n m R)),some (.own (ldD k L)),some (.val (.int last))]=_;unfold K5
     walk_at "ev"
     show Option.bind (Y1 (NY n m R k L last) [.int (k:Nat), .int (c:Nat)]) _=_;rw [pl];rfl
   refine FM (P9 (b:=false) (by walk_at "ev") rfl) ?_;refine FM (ρ':= [none,some (.val (.int (c:Nat))),some (.val (.int (k:Nat))),some (.val (.int (p:Nat))),none,none,some (.own (CD n m R1)),some (.own (ldD k L)),some (.val (.int last))]) ?_ ?_
   . simp only [mFrz,frz1,List.getElem?_cons_zero,List.getElem?_cons_succ,Option.join_some];unfold K5
     walk_at "ev"
     show Option.bind (gM (NY n m R k L last) [.int (k:Nat), .int (p:Nat)]) _=_;rw [ex];rfl
   refine FM (EL (r:= .val (DD m (R1 k))) ?_) ?_
   . simp only [mBin,mPk,CT,BW,DZ,BV,WM hk]
   refine FM (ρ':= [none,some (.val (.int (c:Nat))),some (.val (.int (k:Nat))),some (.val (.int (p:Nat))),some (.val (DD m (R1 k))),some (.own ((List.range (n - (k+1))).map fun i=>DD m fun j=>(Ba.clr R1 k c (k+1+i) j).fdiv last)),some (.own (CD n m R1)),some (.own (ldD k L)),some (.val (.int last))]) ?_ ?_
   . show mAsg 5 _ [none,some (.val (.int (c:Nat))),some (.val (.int (k:Nat))),some (.val (.int (p:Nat))),some (.val (DD m (R1 k))),none,some (.own (CD n m R1)),some (.own (ldD k L)),some (.val (.int last))]=_;refine EL (EY (ds:=(List.range (n - (k+1))).map fun i=>DD m (R1 (k+1+i))) ?_ ?_ ?_)
     . walk_at "ev"
       rw [show ((k:Int)+1)=((k+1:Nat):Int) from rfl];unfold CD;rw [jH (f:=fun i=>DD m (R1 i)) (by omega)]
     . rw [A4,AI];omega
     . refine CG fun i hi=> ?_;have hi:=List.mem_range.mp hi;show elM _ _ _ [some (.val (DD m (R1 k))),some (.val (.int (c:Nat))),none,none,some (.own (CD n m R1)),some (.own (ldD k L)),some (.val (.int last))] _=_;unfold elM
       walk_at "ev"
       rw [Y2 hc hm (fun j hj=>BR _ (by omega) j hj) (fun j hj=>BR k hk j hj) I1.nz Bl];rfl
   refine FM (EL (r:= .own (CD n m (NI R1 k c last))) ?_) ?_
   . walk_at "ev"
     rw [show ((k:Int)+1)=((k+1:Nat):Int) from rfl];show (if ((IC (CD n m R1) none (some ((k+1:Nat):Int))).length+_)<=_ then some (Sl.own (IC (CD n m R1) none (some ((k+1:Nat):Int))++_)) else none)=_;have c2:IC (CD n m R1) none (some ((k+1:Nat):Int))=(List.range (k+1)).map fun i=>DD m (R1 i):=jE (by omega);rw [c2,mat2,AU];rw [A4,A4,AI,AI];omega
   refine FM (ρ':= [none,some (.val (.int (c:Nat))),some (.val (.int (k:Nat))),some (.val (.int (p:Nat))),some (.val (DD m (R1 k))),some (.own ((List.range (n - (k+1))).map fun i=>DD m fun j=>(Ba.clr R1 k c (k+1+i) j).fdiv last)),some (.own (CD n m (NI R1 k c last))),some (.own (ldD (k+1) (fun t=>if t=k then c else L t))),some (.val (.int last))]) ?_ ?_
   . walk_at "ev"
     rw [AU (by rw [WC];omega),tV]
   . refine EL ?_;simp only [mBin,mPk,CT,BW,DZ,BV,MH hc]
 . refine ⟨R,k,L,last,B,I.none hc hz,?_⟩
   refine QS (ρ:= [none,some (.val (.int (c:Nat))),none,none,none,none,some (.own (CD n m R)),some (.own (ldD k L)),some (.val (.int last))])
    (ρ':= [none,some (.val (.int (c:Nat))),some (.val (.int (k:Nat))),some (.val .none),none,none,some (.own (CD n m R)),some (.own (ldD k L)),some (.val (.int last))]) rfl rfl rfl ?_
   unfold b_q4;refine FM (ρ':= [none,some (.val (.int (c:Nat))),some (.val (.int (k:Nat))),none,none,none,some (.own (CD n m R)),some (.own (ldD k L)),some (.val (.int last))]) ?_ ?_
   . walk_at "ev"
     rw [WC]
   refine FM (ρ':= [none,some (.val (.int (c:Nat))),some (.val (.int (k:Nat))),some (.val .none),none,none,some (.own (CD n m R)),some (.own (ldD k L)),some (.val (.int last))]) ?_ ?_
   . show K5 6 _ _ _ [none,some (.val (.int (c:Nat))),some (.val (.int (k:Nat))),none,none,none,some (.own (CD n m R)),some (.own (ldD k L)),some (.val (.int last))]=_;unfold K5
     walk_at "ev"
     show Option.bind (Y1 (NY n m R k L last) [.int (k:Nat), .int (c:Nat)]) _=_;rw [pl];rfl
   exact ZY (P9 (b:=true) (by walk_at "ev") rfl)
theorem kD {n m Y : Nat} {A : Ba.Mx} (h1 : 1 <= n) (hn : n <= 32) (hm : m <= 1000) (hY1 : 1 <= Y) (hY : (32 * Y) ^ n < 2 ^ 4000) (hA : ∀ i, i < n -> ∀ j, j < m -> (A i j).natAbs <= Y) :
 ∃R k L last B,Ba.BI n m A R k L last m B/\aQ [none,none,none] [.list (CD n m A)]=some (NY n m R k L last, .none):=by
 obtain ⟨ρ',hf,z,R,k,L,last,B,rfl,I⟩:=aE (fg:=gVar 2) (gb:=K5 3 bL (mCons (mVar 2) mNil) fun ρ _=>some (.nx ρ)) (lo:=0) (n:=m)
  (ρ:= [none,some (.val (.list (CD n m A))),none,some (.own (CD n m A)),some (.own (ldD 0 fun _=>0)),some (.val (.int 1))])
  (fun c ρ=>∃z R k L last B,ρ = [none,some (.val (.list (CD n m A))),z,some (.own (CD n m R)),some (.own (ldD k L)),some (.val (.int last))]/\Ba.BI n m A R k L last c B)
  ⟨none,A,0,fun _=>0,1,A,rfl,Ba.BI.start A⟩ (by
   rintro c ρ hc ⟨z,R,k,L,last,B,rfl,I⟩;obtain ⟨R',k',L',last',B',I',hs⟩:=jP I hc hn hm hY1 hY hA;refine ⟨_,rfl,[none,some (.val (.list (CD n m A))),some (.val (.int (c:Nat))),some (.own (CD n m R')),some (.own (ldD k' L')),some (.val (.int last'))], .inl ?_,_,R',k',L',last',B',rfl,I'⟩;rw [show (0:Int)+(c:Nat)=((c:Nat):Int) from Int.zero_add _];unfold K5
   walk_at "ev"
   show Option.bind (bL (NY n m R k L last) [.int (c:Nat)]) _=_;rw [hs];rfl)
 refine ⟨R,k,L,last,B,I,?_⟩;refine WA (ρ:= [none,some (.val (.list (CD n m A))),none,none,none,none]) (ρ':= [none,some (.val (.list (CD n m A))),z,some (.own (CD n m R)),some (.own (ldD k L)),some (.val (.int last))]) rfl rfl rfl ?_;unfold b_q0;refine FM (EL (r:= .own (CD n m A)) rfl) (FM (EL (r:= .own []) rfl) (FM (EL (r:= .val (.int 1)) rfl) (Q4 (J8 (j:=m) ?_ hm) hf)));show mConsP (mCallP dLen (mConsP (mBin dix (mPk 1) (mK (.int 0))) mNilP)) mNilP [none,some (.val (.list (CD n m A))),none,some (.own (CD n m A)),some (.own []),some (.val (.int 1))]=_
 have e:dix (.val (.list (CD n m A))) (.val (.int 0))=some (.val (DD m (A 0))):=by
  show (atI (CD n m A) ((0:Nat):Int)).map Sl.val=_;rw [QZ (by omega)];rfl
 simp only [mConsP,mNilP,mCallP,mBin,mPk,mK,CT,BW,DZ,BV,e,dLen,Sl.dat,DD,A4,AI]
abbrev Tb:=Nat->Nat->Int×Int
def frD(m:Nat)(r:Nat->Int×Int):PyData:= .list ((List.range m).map fun j=>DR (r j))
def FI(n m:Nat)(t:Tb):PyData:= .list ((List.range n).map fun i=>frD m (t i))
def cbN(r:Nat->Int×Int):Nat->Int
 | 0=>1
 | j+1=>(cbN r j).fdiv (Int.gcd (cbN r j) (r j).2)*(r j).2
theorem NQ{r:Nat->Int×Int}{D:Nat}:∀ {m:Nat},(∀j,j<m->0<(r j).2/\(r j).2.natAbs<=D)->0<cbN r m/\(cbN r m).natAbs<=D ^ m/\∀j,j<m->(r j).2 ∣ cbN r m
 | 0,_=>⟨show (0:Int)<1 by decide,by simp [cbN],fun j h=>absurd h (by omega)⟩
 | m+1,h=>by
  obtain ⟨h1,h2,h3⟩:=NQ (m:=m) fun j hj=>h j (by omega);obtain ⟨h4,h5⟩:=h m (by omega);have hg:0<Int.gcd (cbN r m) (r m).2:=Int.gcd_pos_iff.mpr (.inl (by omega));have hd1:=Int.gcd_dvd_left (cbN r m) (r m).2;have hd2:=WR (cbN r m) (r m).2;have e0:cbN r (m+1)=(cbN r m).fdiv (Int.gcd (cbN r m) (r m).2)*(r m).2:=rfl;generalize Int.gcd (cbN r m) (r m).2=g at *
  generalize cbN r m=c at *
  obtain ⟨x,rfl⟩:=hd1;obtain ⟨y,hy⟩:=hd2;have gp:(0:Int)<(g:Int):=by omega
  have e:cbN r (m+1)=x*(r m).2:=by rw [e0,IN _ (by omega)]
  have xp:0<x:=by
   rcases (by omega:0<x\/x<=0) with p | p
   . exact p
   . have:=Int.mul_nonpos_of_nonneg_of_nonpos (LK gp) p;omega
  have xle:x.natAbs<=((g:Int)*x).natAbs:=by
   rw [HK];exact wI _ (by omega)
  refine ⟨by rw [e];exact Int.mul_pos xp h4,?_,fun j hj=> ?_⟩
  . rw [e,HK,WX];exact G7 (AY xle h2) h5
  . rw [e]
    by_cases q:j=m
    . subst q;exact Int.dvd_mul_left _ _
    . have a:=h3 j (by omega)
      have b:(g:Int)*x ∣ x*(r m).2:=by
       rw [hy];exact ⟨y,by rw [CN (g:Int) x,CK]⟩
      exact Int.dvd_trans a b
def whN(m:Nat)(r:Nat->Int×Int)(j:Nat):Int:=(r j).1*(cbN r m).fdiv (r j).2
theorem A28(q:Int×Int):dix (.val (DR q)) (.val (.int 0))=some (.val (.int q.1)):=rfl
theorem kO(q:Int×Int):dix (.val (DR q)) (.val (.int 1))=some (.val (.int q.2)):=rfl
theorem aH{m D:Nat}{r:Nat->Int×Int}(h:∀j,j<m->0<(r j).2/\(r j).2.natAbs<=D)(hD:D ^ m<2 ^ 4000)(hD1:1<=D)(hD2:D<2 ^ 4000):OW [frD m r]=some (.val (.int (cbN r m))):=by
 obtain ⟨ρ',hf,z,rfl⟩:=PK (fg:=gVar 2) (gb:=(mFrz 1 (mAsg 1 (mBin dRep (mBin DN (mPk 1) (mCall QJ (mCons (mVar 1) (mCons (mBin dix (mPk 2) (mK (.int 1))) mNil)))) (mBin dix (mPk 2) (mK (.int 1)))))))
  (ds:=(List.range m).map fun j=>DR (r j)) (ρ:= [some (.val (frD m r)),some (.val (.int 1)),none]) (fun i ρ=>∃z,ρ = [some (.val (frD m r)),some (.val (.int (cbN r i))),z]) ⟨none,rfl⟩ (by
   rintro i d ρ hd ⟨z,rfl⟩;rw [B3] at hd
   by_cases hi:i<m
   . rw [BU hi] at hd
     cases hd
     obtain ⟨c1,c2,c3⟩:=NQ (r:=r) (D:=D) (m:=i) fun j hj=>h j (by omega);obtain ⟨h4,h5⟩:=h i hi;have b1:Bt 4000 (cbN r i):=DH (AY c2 (CJ hD1 (by omega))) hD;have b2:Bt 4000 (r i).2:=DH h5 hD2;have hg:0<Int.gcd (cbN r i) (r i).2:=Int.gcd_pos_iff.mpr (.inl (by omega))
     have b3:Bt 4000 ((Int.gcd (cbN r i) (r i).2:Nat):Int):=by
      refine b2.of_le ?_;have:=FQ.mpr (WR (cbN r i) (r i).2);exact Nat.le_of_dvd (by omega) (by simpa using this)
     refine ⟨_,rfl,[some (.val (frD m r)),some (.val (.int (cbN r (i+1)))),some (.val (DR (r i)))], .inl ?_,_,rfl⟩;simp only [mFrz,frz1,mAsg,mBin,mPk,mVar,mK,mCall,mCons,mNil,IW,IV,CT,BW,DZ,BV,kO,Sl.dat,nF];rw [YD ⟨by omega,b3.mono (by decide)⟩];simp only [BV];rw [J7 (.inr (TL (n:=4000) (m:=4000) b1.fdiv b2 rfl))];rfl
   . rw [BX (l:=List.range m) (by simpa using hi)] at hd;cases hd)
 rw [A4,AI] at hf
 refine IL (ρ:= [some (.val (frD m r)),none,none]) rfl rfl ?_;unfold b_q19;refine I0 (EL (r:= .val (.int 1)) rfl) (I0 (Q4 (ds:=(List.range m).map fun j=>DR (r j)) rfl hf) (JU rfl))
theorem aU{m D:Nat}{r:Nat->Int×Int}(h:∀j,j<m->0<(r j).2/\(r j).2.natAbs<=D)(hT:∀j,j<m->Bt 4000 (r j).1)(hm:m<=1000)(hD:D ^ m<2 ^ 4000)(hD1:1<=D)(hD2:D<2 ^ 4000):NF [frD m r]=some (.own ((List.range m).map fun j=> .int (whN m r j))):=by
 obtain ⟨c1,c2,c3⟩:=NQ (r:=r) (D:=D) (m:=m) h;refine IL (ρ:= [some (.val (frD m r)),none]) rfl rfl ?_;unfold b_q43;refine I0 (EL (BF (ds:= [frD m r]) rfl (aH h hD hD1 hD2))) (JU (EY (ds:=(List.range m).map fun j=>DR (r j)) rfl ?_ ?_))
 . rw [A4,AI];have:1000<sizeLine:=by decide
   omega
 . refine CG fun j hj=> ?_;have hj:=List.mem_range.mp hj;show elM _ _ _ [some (.val (.int (cbN r m))),none] _=_;unfold elM;obtain ⟨h4,h5⟩:=h j hj;have b1:Bt 4000 (cbN r m):=Nat.lt_of_le_of_lt c2 hD;have b2:Bt 4000 (r j).2:=Nat.lt_of_le_of_lt h5 hD2;simp only [gVar,mYes,mBin,mPk,mK,List.set_cons_succ,List.set_cons_zero,List.getElem?_cons_zero,List.getElem?_cons_succ,Option.join_some,Option.bind_some,A28,kO];rw [YD ⟨by omega,b2.mono (by decide)⟩];simp only [Option.bind_some];rw [J7 (.inr (TL (n:=4000) (m:=4000) (hT j hj) b1.fdiv rfl))];rfl
theorem mN{a b:Int}(hb:0<b):(a.fdiv b).natAbs<=a.natAbs:=by
 rw [LQ a (LK hb)];exact pL a b
def W(m:Nat)(t:Tb):Ba.Mx:=fun i=>whN m (t i)
structure TabOk (n m D T:Nat) (t:Tb):Prop where
 n1:1<=n
 n32:n<=32
 m1000:m<=1000
 D1:1<=D
 T1:1<=T
 bot:∀i,i<n->∀j,j<m->0<(t i j).2/\(t i j).2.natAbs<=D
 top:∀i,i<n->∀j,j<m->(t i j).1.natAbs<=T
 size:(32*(T*D ^ m)) ^ n<2 ^ 4000
theorem TabOk.TD{n m D T:Nat}{t:Tb}(k:TabOk n m D T t):T*D ^ m<2 ^ 4000:=by
 refine DH ?_ k.size;have p:1<=T*D ^ m:=Nat.mul_pos k.T1 (bP k.D1)
 calc T*D ^ m<=32*(T*D ^ m):=by omega
  _=(32*(T*D ^ m)) ^ 1:=(bQ _).symm
  _<=_:=CJ (by omega) k.n1
theorem TabOk.Dm{n m D T:Nat}{t:Tb}(k:TabOk n m D T t):D ^ m<2 ^ 4000:=DH (wI _ k.T1) k.TD
theorem TabOk.Tl{n m D T:Nat}{t:Tb}(k:TabOk n m D T t):T<2 ^ 4000:=DH (Nat.le_mul_of_pos_right _ (bP k.D1)) k.TD
theorem TabOk.Dl{n m D T:Nat}{t:Tb}(k:TabOk n m D T t)(hm:1<=m):D<2 ^ 4000:=by
 refine DH ?_ k.Dm
 calc D=D ^ 1:=(bQ _).symm
  _<=_:=CJ k.D1 hm
theorem TabOk.Wb{n m D T:Nat}{t:Tb}(k:TabOk n m D T t):∀i,i<n->∀j,j<m->(W m t i j).natAbs<=T*D ^ m:=by
 intro i hi j hj;obtain ⟨c1,c2,_⟩:=NQ (r:=t i) (D:=D) (m:=m) fun j hj=>k.bot i hi j hj;show ((t i j).1*(cbN (t i) m).fdiv (t i j).2).natAbs<=_;rw [HK];exact G7 (k.top i hi j hj) (AY (mN (k.bot i hi j hj).1) c2)
theorem zF{n m D T:Nat}{t:Tb}(k:TabOk n m D T t)(hm1:1<=m):∃R l L last B,Ba.BI n m (W m t) R l L last m B/\TH [FI n m t]=some (NY n m R l L last):=by
 have hY1:1<=T*D ^ m:=Nat.mul_pos k.T1 (Nat.pow_pos k.D1);obtain ⟨R,l,L,last,B,I,hi⟩:=kD (A:=W m t) k.n1 k.n32 k.m1000 hY1 k.size k.Wb;refine ⟨R,l,L,last,B,I,?_⟩;unfold TH oO;rw [if_pos (show [FI n m t].length=1 from rfl)]
 have lc:(mLC (CP [none]) (mItems (mVar 0)) (gVar 0) mYes (mCall NF (mCons (mVar 0) mNil))) [some (.val (FI n m t))]=some (.own (CD n m (W m t))):=by
  refine EY (ds:=(List.range n).map fun i=>frD m (t i)) rfl ?_ ?_
  . rw [A4,AI];have:1000<sizeLine:=by decide
    have:=k.n32;omega
  . refine CG fun i hi=> ?_;have hi:=List.mem_range.mp hi;show elM _ _ _ [none] _=_;unfold elM;simp only [gVar,mYes,mCall,mCons,mNil,mVar,List.set_cons_zero,List.getElem?_cons_zero,Option.join_some,Option.bind_some,Sl.dat,aU (k.bot i hi) (fun j hj=>Nat.lt_of_le_of_lt (k.top i hi j hj) k.Tl) k.m1000 k.Dm k.D1 (k.Dl hm1)];rfl
 show YK 3 aQ _ [some (.val (FI n m t))]=_;unfold YK;simp only [mCons,mNil,lc,Option.bind_some,Sl.dat];show Option.bind (aQ [none,none,none] [.list (CD n m (W m t))]) _=_;rw [hi];rfl
theorem A09{n s:Nat}{fo:En->Option En}{g:En->Option Out}{ρ φ:En}{r:Sl}(hl:ρ.length=n)(h:fo ρ=some φ)(k:Rts g (ρ.set s none++φ) r):Rts (bG n s fo g) ρ r:=by
 obtain ⟨ρ',k⟩:=k;refine ⟨List.replicate ρ.length none,?_⟩;unfold bG;rw [if_pos hl,h];simp only [Option.bind_some,k]
theorem AH{op:Sl->Sl->Option Sl}{fa fb:En->Option Sl}{ρ:En}{a b:Sl}(ha:fa ρ=some a)(hb:fb ρ=some b):mBin op fa fb ρ=op a b:=by
 unfold mBin;rw [ha];show Option.bind (fb ρ) _=_;rw [hb];rfl
theorem FY{f:En->Option Sl}{ρ:En}{b:Bool}(h:f ρ=some (.val (.bool b))):mTest f ρ=some b:=by
 unfold mTest;rw [h];rfl
theorem rA(i j:Int):deq (.val (.int i)) (.val (.int j))=some (.val (.bool (decide (i=j)))):=by
 show (eqD (.int i) (.int j)).map _=_;rw [eqD_int];rfl
theorem aY{i j:Nat}{k:Int}{fj f:En->Option Sl}{ρ:En}{r:Sl}{ds:List PyData}(h:f ρ=some r)(ho:(ρ[i]?).join=some (.own ds))(hj:fj ρ=some (.val (.int k)))(hx:ixN ds.length k=some j):mSet i fj f ρ=some (.nx (ρ.set i (some (.own (ds.set j r.dat))))):=by
 unfold mSet;rw [h];show (match (ρ[i]?).join with | some (.own ds)=>_ | _=>_)=_;rw [ho];show Option.bind (fj ρ) _=_;rw [hj];show (ixN ds.length k).map _=_;rw [hx];rfl
theorem SN{i:Nat}{f:En->Option Sl}{ρ:En}{r:Sl}{ds:List PyData}(h:f ρ=some r)(ho:(ρ[i]?).join=some (.own ds))(hl:ds.length<sizeLine):mApp i f ρ=some (.nx (ρ.set i (some (.own (ds ++ [r.dat]))))):=by
 unfold mApp;rw [ho];show Option.bind (f ρ) _=_;rw [h];show (if ds.length<sizeLine then _ else _)=_;rw [if_pos hl]
theorem D5{F:List Sl->Option Sl}{f:En->Option (List Sl)}{ρ:En}{ss:List Sl}{r:Sl}(h:f ρ=some ss)(k:F ss=some r):mCallP F f ρ=some r:=by
 unfold mCallP;rw [h];exact k
theorem AZ{f:En->Option Sl}{g:En->Option (List PyData)}{ρ:En}{a:Sl}{as:List PyData}(h:f ρ=some a)(k:g ρ=some as):mCons f g ρ=some (a.dat::as):=by
 unfold mCons;rw [h];show Option.bind (g ρ) _=_;rw [k];rfl
theorem EC{f:En->Option Sl}{g:En->Option (List Sl)}{ρ:En}{a:Sl}{as:List Sl}(h:f ρ=some a)(k:g ρ=some as):mConsP f g ρ=some (a::as):=by
 unfold mConsP;rw [h];show Option.bind (g ρ) _=_;rw [k];rfl
theorem uD{n m k:Nat}{g:En->Option Out}{fd ds:List PyData}{ρ:En}{r:Sl}(hl:ds.length+1=m)(hk:fd.length=k)(e:(none::ds.map (fun d=>some (Sl.val d)))++List.replicate (n - (ds.length+1)) none++fd.map (fun d=>some (Sl.val d))=ρ)(h:Rts g ρ r):iW n m k g fd ds=some r:=by
 obtain ⟨ρ',h⟩:=h;unfold iW;rw [if_pos ⟨hl,hk⟩,e,h];rfl
theorem M4(f:Nat->Int):∀n,List.sum ((List.range n).map f)=Ba.sumN n f
 | 0=>rfl
 | n+1=>by
  rw [IS,D0,fV,M4 f n,Ba.sumN];simp
theorem nO{f:Nat->Int}{n:Nat}:dSum [.own ((List.range n).map fun i=> .int (f i))]=some (.val (.int (Ba.sumN n f))):=by
 unfold dSum;simp only [Sl.dat];have e:((List.range n).map fun i=>PyData.int (f i))=((List.range n).map f).map PyData.int:=by rw [List.map_map];rfl
 rw [e,KZ,F2,M4]
theorem oQ{n m i:Nat}{R:Ba.Mx}(h:i<n):dix (.val (.list (CD n m R))) (.val (.int (i:Int)))=some (.val (DD m (R i))):=by
 unfold dix;simp only [Sl.dat,QZ h,Option.map_some]
theorem dB{k t:Nat}{L:Nat->Nat}(h:t<k):dix (.val (.list (ldD k L))) (.val (.int (t:Int)))=some (.val (.int (L t:Nat))):=by
 unfold dix ldD;simp only [Sl.dat,HC h,Option.map_some]
theorem sJ{k t:Nat}{f:Nat->PyData}(h:t<k):dix (.own ((List.range k).map f)) (.val (.int (t:Int)))=some (.val (f t)):=by
 unfold dix;simp only [Sl.dat,HC h,Option.map_some]
theorem RN{α:Type}{x:α}:∀k:Nat,(List.replicate k [x]).flatten=(List.range k).map fun _=>x
 | 0=>rfl
 | k+1=>by
  rw [List.replicate_succ',List.flatten_append,RN k,IS,D0];rfl
theorem VH{x:PyData}{k:Nat}(h:k<=200):dRep (.own [x]) (.val (.int (k:Int)))=some (.own ((List.range k).map fun _=>x)):=by
 have hs:(200:Nat)<=sizeLine:=WD;have c : -(2 ^ 63)<=(k:Int)/\(k:Int)<2 ^ 63 /\ [x].length*(k:Int).toNat<=sizeLine:=⟨by omega,by omega,by rw [FZ,GU];omega⟩;simp only [dRep];rw [AU c,FZ,RN]
def LO(k s:Nat)(x:Nat->Int):List PyData:=(List.range k).map fun t=> .int (if k - s<=t then x t else 0)
def rcP(n m k j:Nat)(R:Ba.Mx)(L:Nat->Nat)(last:Int)(num:List PyData)(a b c:Option Sl):En:=
 [none,some (.val (.int j)),some (.val (.int k)),some (.own num),a,b,c,some (.val (.list (CD n m R))),some (.val (.list (ldD k L))),some (.val (.int last))]
theorem A29 {n m k j : Nat} {A R B : Ba.Mx} {L : Nat -> Nat} {last : Int} (I : Ba.BI n m A R k L last m B) (hj : j < m) (hn : n <= 32) (hm : m <= 1000)
 (hR:∀i,i<n->∀j,j<m->Bt 4000 (R i j)) (hl:Bt 4000 last) (hx:∀t,t<k->Bt 8000 (Ba.redx B k L j t)) :
 aL [.list (CD n m R), .list (ldD k L), .int last] [.int (j:Int)]=some (.own ((List.range k).map fun t=> .int (Ba.redx B k L j t))):=by
 have hk:=I.kn;have hL:∀t,t<k->L t<m:=fun t ht=>Nat.lt_of_lt_of_le (I.Lc t ht) I.cm;refine uD (ρ:= [none,some (.val (.int (j:Int))),none,none,none,none,none,some (.val (.list (CD n m R))),some (.val (.list (ldD k L))),some (.val (.int last))]) rfl rfl rfl ?_;unfold b_q3;refine I0 (EL (r:= .val (.int k)) ?_) ?_
 . walk_at "ev"
   rw [WC]
 refine I0 (EL (r:= .own (LO k 0 (Ba.redx B k L j))) ?_) ?_
 . walk_at "ev"
   have e:LO k 0 (Ba.redx B k L j)=(List.range k).map fun _=>PyData.int 0:=by
    unfold LO;refine List.map_congr_left fun t ht=> ?_;have:=List.mem_range.mp ht;rw [if_neg (by omega)]
   rw [e];rw [AU (show 0+1<=sizeLine from AY (by decide) WD),BV];refine VH (k:=k) ?_;omega
 show Rts _ (rcP n m k j R L last (LO k 0 (Ba.redx B k L j)) none none none) _
 obtain ⟨ρ',hf,a,b,c,rfl⟩:=PK (fg:=gVar 4) (gb:=(mSeq (mAsg 5 (mBin dix (mPk 7) (mPk 4)))
  (mSeq (mAsg 6 (mCallP dSum (mConsP (mLC (Q8 [some 5,some 0,some 3,none] 7) (ON (mConsP (mBin dAdd (mPk 4) (mK (.int 1))) (mConsP (mPk 2) mNilP))) (gVar 3) mYes (mBin dRep (mBin dix (mPk 0) (mBin dix (mPk 5) (mPk 3))) (mBin dix (mPk 2) (mPk 3)))) mNilP)))
  (mSet 3 (mPk 4) (mBin DN (mBin dSub (mBin dRep (mPk 9) (mBin dix (mPk 5) (mPk 1))) (mPk 6)) (mBin dix (mPk 5) (mBin dix (mPk 8) (mPk 4))))))))
  (ds:=OJ ((k:Int) - 1) k) (ρ:=rcP n m k j R L last (LO k 0 (Ba.redx B k L j)) none none none)
  (fun s ρ=>∃a b c,ρ=rcP n m k j R L last (LO k s (Ba.redx B k L j)) a b c) ⟨none,none,none,rfl⟩ (by
   rintro s d ρ hd ⟨a,b,c,rfl⟩;unfold OJ at hd
   rw [B3] at hd
   by_cases hs:s<k
   . rw [BU hs] at hd
     have hd:PyData.int ((k:Int) - 1 - (s:Nat))=d:=B6 hd;subst hd;obtain ⟨i,hi,hik⟩:∃i:Nat,(k:Int) - 1 - (s:Nat)=(i:Int)/\i+s+1=k:=⟨k - 1 - s,by omega,by omega⟩;rw [hi];refine ⟨_,rfl,_, .inl ?_,some (.val (.int i)),some (.val (DD m (R i))),some (.val (.int (Ba.sumN (k - (i+1)) (fun t=>R i (L (i+1+t))*Ba.redx B k L j (i+1+t))))),rfl⟩;have hin:i<n:=by omega
     have hL':=hL i (by omega);refine FM (EL (r:= .val (DD m (R i))) (AH (a:= .val (.list (CD n m R))) (b:= .val (.int i)) rfl rfl |>.trans (oQ hin))) ?_;refine FM (EL (r:= .val (.int (Ba.sumN (k - (i+1)) (fun t=>R i (L (i+1+t))*Ba.redx B k L j (i+1+t))))) (D5 (EC (a:= .own ((List.range (k - (i+1))).map fun t=> .int (R i (L (i+1+t))*Ba.redx B k L j (i+1+t)))) (EY (ds:=G5 ((i+1:Nat):Int) (k - (i+1))) ?_ ?_ ?_) rfl) nO)) ?_
     . refine VU (i:=i+1) (j:=k) ?_ (by omega) (by omega);rfl
     . have:(200:Nat)<=sizeLine:=WD;simp only [G5,A4,AI];omega
     . refine K0 fun t ht=> ?_;show elM _ _ _ [some (.val (DD m (R i))),none,some (.own (LO k s (Ba.redx B k L j))),none,some (.val (.list (CD n m R))),some (.val (.list (ldD k L))),some (.val (.int last))] _=_;rw [show ((i+1:Nat):Int)+(t:Nat)=((i+1+t:Nat):Int) by omega];have hit:i+1+t<k:=by omega
       have hv:(mBin dRep (mBin dix (mPk 0) (mBin dix (mPk 5) (mPk 3))) (mBin dix (mPk 2) (mPk 3))) [some (.val (DD m (R i))),none,some (.own (LO k s (Ba.redx B k L j))),some (.val (.int ((i+1+t:Nat):Int))),some (.val (.list (CD n m R))),some (.val (.list (ldD k L))),some (.val (.int last))]=some (.val (.int (R i (L (i+1+t))*Ba.redx B k L j (i+1+t)))):=by
        refine (AH (a:= .val (.int (R i (L (i+1+t))))) (b:= .val (.int (Ba.redx B k L j (i+1+t)))) ?_ ?_).trans (J7 (.inr (TL (hR i hin _ (hL _ hit)) (hx _ hit) rfl)))
        . refine (AH (a:= .val (DD m (R i))) (b:= .val (.int (L (i+1+t):Nat))) rfl ?_).trans (MH (hL _ hit));exact (AH (a:= .val (.list (ldD k L))) (b:= .val (.int ((i+1+t:Nat):Int))) rfl rfl).trans (dB hit)
        . refine (AH (a:= .own (LO k s (Ba.redx B k L j))) (b:= .val (.int ((i+1+t:Nat):Int))) rfl rfl).trans ?_;unfold LO;rw [sJ hit,if_pos (by omega)]
       unfold elM;simp only [gVar,mYes,List.set_cons_zero,List.set_cons_succ,Option.bind_some,if_true,hv,Option.map_some,Sl.dat]
     . refine (aY (r:= .val (.int (Ba.redx B k L j i))) (j:=i) (k:=(i:Int)) (ds:=LO k s (Ba.redx B k L j)) ?_ rfl rfl (by rw [show (LO k s (Ba.redx B k L j)).length=k by simp [LO]];exact QV (by omega))).trans ?_
       . refine (AH (a:= .val (.int (last*R i j - Ba.sumN (k - (i+1)) (fun t=>R i (L (i+1+t))*Ba.redx B k L j (i+1+t))))) (b:= .val (.int (R i (L i)))) ?_ ?_).trans ?_
         . refine (AH (a:= .val (.int (last*R i j))) (b:= .val (.int (Ba.sumN (k - (i+1)) (fun t=>R i (L (i+1+t))*Ba.redx B k L j (i+1+t))))) ?_ rfl).trans rfl;refine (AH (a:= .val (.int last)) (b:= .val (.int (R i j))) rfl ?_).trans (J7 (.inr (TL hl (hR i hin j hj) rfl)));exact (AH (a:= .val (DD m (R i))) (b:= .val (.int (j:Int))) rfl rfl).trans (MH hj)
         . refine (AH (a:= .val (DD m (R i))) (b:= .val (.int (L i:Nat))) rfl ?_).trans (MH hL');exact (AH (a:= .val (.list (ldD k L))) (b:= .val (.int (i:Int))) rfl rfl).trans (dB (by omega))
         . rw [YD ⟨I.topn i (by omega),(hR i hin _ hL').mono (by decide)⟩,I.back_div (by omega) hj]
       . have e : (LO k s (Ba.redx B k L j)).set i (.int (Ba.redx B k L j i)) = LO k (s + 1) (Ba.redx B k L j) := by
          unfold LO;rw [PZ];refine List.map_congr_left fun t ht=> ?_;have ht:=List.mem_range.mp ht
          by_cases h1:t=i
          . subst h1;rw [AU rfl,AU (by omega)]
          . rw [AR h1]
            by_cases h2:k - s<=t
            . rw [AU h2,AU (by omega)]
            . rw [AR h2,AR (by omega)]
         simp only [Sl.dat,e];rfl
   . rw [BX (l:=List.range k) (by simpa using hs)] at hd;cases hd)
 rw [show (OJ ((k:Int) - 1) k).length=k by simp [OJ]] at hf
 refine I0 (Q4 (ds:=OJ ((k:Int) - 1) k) ?_ hf) (JU ?_)
 . unfold bY rcP
   walk_at "ev"
   show (if inB ((k:Int) - 1)/\inB (-1) then _ else _)=_;rw [AU ⟨⟨by omega,by omega⟩,⟨by decide,by decide⟩⟩];congr 2
   omega
 . show some (Sl.own (LO k k (Ba.redx B k L j)))=_;unfold LO;congr 2
   exact C7 fun t _=>by rw [AU (by omega)]
theorem lQ{k:Nat}{x:Nat->Int}{b:Int}(hk:k<=200)(hb:b≠0)(hB:Bt 9000 b):QG [.list ((List.range k).map fun t=> .int (x t)), .int b]=some (.own ((List.range k).map fun t=>DR (fr (x t) b))):=by
 refine IL (ρ:= [some (.val (.list ((List.range k).map fun t=> .int (x t)))),some (.val (.int b))]) rfl rfl ?_;unfold b_q23;refine JU (EY (ds:=(List.range k).map fun t=> .int (x t)) rfl ?_ (CG fun t ht=> ?_))
 . rw [A4,AI];have:1000<sizeLine:=by decide
   omega
 . show elM _ _ _ [some (.val (.int b)),none] _=_;unfold elM;simp only [gVar,mYes,mCall,mCons,mNil,mVar,List.set_cons_zero,List.set_cons_succ,List.getElem?_cons_zero,List.getElem?_cons_succ,Option.join_some,Option.bind_some,Sl.dat,YN hb hB,if_true,Option.map_some]
theorem jO{n m:Nat}{f:Nat->Nat->PyData}(hn:n<=200)(hm1:1<=m)(hm:m<=1000):RW [.list ((List.range m).map fun c=> .list ((List.range n).map fun i=>f c i))]=some (.own ((List.range n).map fun i=> .list ((List.range m).map fun c=>f c i))):=by
 refine IL (ρ:= [some (.val (.list ((List.range m).map fun c=> .list ((List.range n).map fun i=>f c i))))]) rfl rfl ?_;unfold b_q27;have hs:1000<sizeLine:=by decide
 refine JU (EY (ds:=G5 0 n) ?_ ?_ (K0 fun i hi=> ?_))
 . refine J8 ?_ (by omega)
   have e:dix (.val (.list ((List.range m).map fun c=> .list ((List.range n).map fun i=>f c i)))) (.val (.int 0))=some (.val (.list ((List.range n).map fun i=>f 0 i))):=by
    unfold dix;simp only [Sl.dat];rw [show (0:Int)=((0:Nat):Int) from rfl,HC (show 0<m by omega)];rfl
   refine EC (a:= .val (.int n)) (D5 (EC (AH (a:= .val (.list ((List.range m).map fun c=> .list ((List.range n).map fun i=>f c i)))) (b:= .val (.int 0)) rfl rfl |>.trans e) rfl) ?_) rfl;simp only [dLen,Sl.dat,A4,AI]
 . simp only [G5,A4,AI];omega
 . show elM _ _ _ [some (.val (.list ((List.range m).map fun c=> .list ((List.range n).map fun i=>f c i)))),none] _=_
   have inner:(mLC (CP [some 1,none]) (mItems (mVar 0)) (gVar 1) mYes (mBin dix (mPk 1) (mPk 0))) [some (.val (.list ((List.range m).map fun c=> .list ((List.range n).map fun i=>f c i)))),some (.val (.int (0+(i:Nat))))]=some (.own ((List.range m).map fun c=>f c i)):=by
    refine EY (ds:=(List.range m).map fun c=> .list ((List.range n).map fun i=>f c i)) rfl (by rw [A4,AI];omega) (CG fun c hc=> ?_);show elM _ _ _ [some (.val (.int (0+(i:Nat)))),none] _=_
    have e:dix (.val (.list ((List.range n).map fun i=>f c i))) (.val (.int (0+(i:Nat))))=some (.val (f c i)):=by
     unfold dix;simp only [Sl.dat];rw [Int.zero_add,HC hi];rfl
    unfold elM;simp only [gVar,mYes,mBin,mPk,List.set_cons_zero,List.set_cons_succ,List.getElem?_cons_zero,List.getElem?_cons_succ,Option.join_some,Option.bind_some,e,if_true,Option.map_some,Sl.dat]
   unfold elM;simp only [gVar,mYes,List.set_cons_zero,List.set_cons_succ,Option.bind_some,inner,if_true,Option.map_some,Sl.dat]
theorem xQ{n l Y:Nat}{x:Int}(h1:1<=n)(hn:n<=32)(hl:l<=n)(hY1:1<=Y)(hY:(32*Y) ^ n<2 ^ 4000)(hx:x.natAbs<=l*((n*Y) ^ l*Y)):Bt 8000 x:=by
 have a1:(n*Y) ^ l<=(32*Y) ^ n:=AY (AD4 (HL Y hn) l) (CJ (by omega) hl)
 have a2:l*Y<=(32*Y) ^ n:=AY (HL Y (by omega:l<=32)) (by
  calc 32*Y=(32*Y) ^ 1:=(bQ _).symm
   _<=_:=CJ (by omega) h1)
 have a3:l*((n*Y) ^ l*Y)=(n*Y) ^ l*(l*Y):=by
  rw [WZ]
 unfold Bt;refine Nat.lt_of_le_of_lt hx ?_;rw [a3];refine Nat.lt_of_le_of_lt (Nat.mul_le_mul a1 a2) ?_;have e:(2:Nat) ^ 8000=2 ^ 4000*2 ^ 4000:=Nat.pow_add 2 4000 4000;rw [e];exact Nat.mul_lt_mul'' hY hY
theorem hJ{k:Nat}{x:Nat->Int}:c0 (.own ((List.range k).map fun t=> .int (x t)))=true:=by
 show (HW ((List.range k).map fun t=>PyData.int (x t))).isSome=true;have e:((List.range k).map fun t=>PyData.int (x t))=((List.range k).map x).map PyData.int:=by rw [E1];rfl
 rw [e,KZ];rfl
theorem jY{n:Nat}{F:List PyData->List PyData->Option Sl}{fa:En->Option (List PyData)}{ρ:En}{ds fd:List PyData}{r:Sl}(h1:fa ρ=some ds)(h2:Q0 (ρ.drop n)=some fd)(h3:F fd ds=some r)(h4:c0 r=true):O0 n F fa ρ=some r:=by
 unfold O0;rw [h1,Option.bind_some,h2,Option.bind_some,h3,Option.bind_some,if_pos h4]
theorem ED:1000<sizeLine:=by decide
theorem TW{f:En->Option Sl}{ρ:En}{a:Sl}(h:f ρ=some a):mLst (mCons f mNil) ρ=some (.own [a.dat]):=by
 unfold mLst;rw [AZ h (show mNil ρ=some [] from rfl)];exact if_pos (e:=none) (show 1<=sizeLine by decide)
theorem R0{a b:Sl}{xs ys:List PyData}(ha:a.dat = .list xs)(hb:b.dat = .list ys)(h:xs.length+ys.length<=sizeLine):dAdd a b=some (.own (xs++ys)):=by
 unfold dAdd;rw [ha,hb];exact if_pos (h)
theorem tS{xs:List PyData}{k:Nat}(h:xs.length*k<=sizeLine)(hk:k<=1000):dRep (.own xs) (.val (.int k))=some (.own (List.replicate k xs).flatten):=by
 unfold dRep;simp only;rw [if_pos ⟨by omega,by omega,by simpa using h⟩];simp
theorem HD{fg:PyData->En->Option En}{fe:En->Option Sl}{ρ0 ρ1:En}{d:PyData}{r:Sl}(h1:fg d ρ0=some ρ1)(h2:fe ρ1=some r):elM fg mYes fe ρ0 d=some (some r.dat):=by
 unfold elM;rw [h1];simp only [Option.bind_some,mYes,if_true,h2,Option.map_some]
theorem AF3{j:Int}(h0:0<j)(h:j<=1000):Bt 9000 j:=by
 unfold Bt;have:2 ^ 10<=2 ^ 9000:=Nat.pow_le_pow_right (by decide) (by decide);have e:(2:Nat) ^ 10=1024:=by decide
 rw [e] at this
 refine B4 ?_ this;omega
theorem MC{i j:Int}(h0:0<j)(h:j<=1000):DN (.val (.int i)) (.val (.int j))=some (.val (.int (i.fdiv j))):=YD ⟨by omega,AF3 h0 h⟩
theorem O1{α:Type}{f:PyData->Option (Option PyData)}{en g:α->PyData}{b:α->Bool}:∀ {xs:List α},(∀x ∈ xs,f (en x)=some (if b x then some (g x) else none))->MA f (xs.map en)=some ((xs.filter b).map g)
 | [],_=>rfl
 | x::xs,h=>by
  rw [BN,MA,h x B5,O1 fun y hy=>h y (AN _ hy)]
  cases e:b x <;> simp [e]
theorem w5{fg:PyData->En->Option En}{ft:En->Option Bool}{fe:En->Option Sl}{ρ0 ρ1:En}{d:PyData}{r:Sl}{b:Bool}(h1:fg d ρ0=some ρ1)(h2:ft ρ1=some b)(h3:fe ρ1=some r):elM fg ft fe ρ0 d=some (if b then some r.dat else none):=by
 unfold elM;rw [h1,Option.bind_some,h2,Option.bind_some]
 cases b
 . rfl
 . rw [AU rfl,h3];rfl
theorem q5{f g:En->Option Sl}{ρ:En}{r:Sl}(h:f ρ=some (.val (.bool true)))(k:g ρ=some r):mAndV f g ρ=some r:=by
 unfold mAndV;rw [FY h];exact k
theorem PU{i:Nat}{g:En->Option Out}{ρ:En}:mFrz i g ρ=g (frz1 i ρ):=rfl
theorem ZV{f g:En->Option Sl}{ρ:En}{a b:Sl}(h1:f ρ=some a)(h2:g ρ=some b):mTup (mCons f (mCons g mNil)) ρ=some (.val (.tuple [a.dat,b.dat])):=by
 unfold mTup;rw [AZ h1 (AZ h2 (show mNil ρ=some [] from rfl))];exact if_pos (e:=none) (show 2<=sizeLine by decide)
theorem zS{f:En->Option Sl}{ρ:En}{a:Sl}(h1:f ρ=some a):mTup (mCons f mNil) ρ=some (.val (.tuple [a.dat])):=by
 unfold mTup;rw [AZ h1 (show mNil ρ=some [] from rfl)];exact if_pos (e:=none) (show 1<=sizeLine by decide)
theorem qF{fg:PyData->En->Option En}{f:En->Option Sl}{ρ ρ':En}{r:Sl}(h:f ρ=some r)(k:fg r.dat ρ=some ρ'):mAsgT fg f ρ=some (.nx ρ'):=by
 unfold mAsgT;rw [h,Option.bind_some,k];rfl
theorem cmL{i j:Int}(h1 : -(2 ^ 64)<i)(h2:i<2 ^ 64):TJ i j:= .inl (.inl ⟨h1,h2⟩)
theorem cmR{i j:Int}(h1 : -(2 ^ 64)<j)(h2:j<2 ^ 64):TJ i j:= .inl (.inr ⟨h1,h2⟩)
theorem iL(c:Int){k:Int}(h0:0<=k)(h1:k<1000000):∃v,gU [.int c, .int k]=some (.val (.int v))/\0<=v:=by
 let o1:=((c.fmod 2147483647+40503*k*k+17*k)*48271).fmod 2147483647
 refine ⟨(o1*(o1.fmod 65537+3*k+1)).fmod 2147483629,DV (ρ:= [some (.val (.int c)),some (.val (.int k)),none]) rfl rfl ?_,Int.fmod_nonneg_of_pos _ (by decide)⟩;unfold b_q6;have a1:=Int.fmod_nonneg_of_pos ((c.fmod 2147483647+40503*k*k+17*k)*48271) (show (0:Int)<2147483647 by decide);have a2:=Int.fmod_lt_of_pos ((c.fmod 2147483647+40503*k*k+17*k)*48271) (show (0:Int)<2147483647 by decide);refine C5 (r:= .val (.int o1)) ?_ (CW (r:= .val (.int ((o1*(o1.fmod 65537+3*k+1)).fmod 2147483629))) ?_ rfl)
 . refine (AH (op:=EH) ((AH (op:=dRep) ((AH (op:=dAdd) ((AH (op:=dAdd) ((AH (op:=EH) rfl rfl).trans (NR (by decide))) ((AH (op:=dRep) ((AH (op:=dRep) rfl rfl).trans (J7 (cmL (by decide) (by decide)))) rfl).trans (J7 (cmR (by omega) (by omega))))).trans rfl) ((AH (op:=dRep) rfl rfl).trans (J7 (cmL (by decide) (by decide))))).trans rfl) rfl).trans (J7 (cmR (by decide) (by decide)))) rfl).trans (NR (by decide))
 . refine (AH (op:=EH) ((AH (op:=dRep) (a:= .val (.int o1)) rfl ((AH (op:=dAdd) ((AH (op:=dAdd) ((AH (op:=EH) rfl rfl).trans (NR (by decide))) ((AH (op:=dRep) rfl rfl).trans (J7 (cmL (by decide) (by decide))))).trans rfl) rfl).trans rfl)).trans (J7 (cmL (by show _<o1;omega) (by show o1<_;omega)))) rfl).trans (NR (by decide))
theorem p9{args:En->Option (List PyData)}{ρ:En}{c j:Int}(ha:args ρ=some [.int c, .int j])(h0:0<=j)(h1:j<1000000):∃v:Nat,mCall gU args ρ=some (.val (.int v)):=by
 obtain ⟨v,hv,v0⟩:=iL c h0 h1;exact ⟨v.toNat,by rw [IE v0];exact BF ha hv⟩
theorem IJ{fa fb:En->Option Sl}{ρ:En}{i m:Int}(ha:fa ρ=some (.val (.int i)))(hb:fb ρ=some (.val (.int m)))(hp:0<m):∃v:Nat,mBin EH fa fb ρ=some (.val (.int v))/\(v:Int)<m:=by
 refine ⟨(i.fmod m).toNat,?_,?_⟩
 . rw [IE (F8 _ hp)];exact (AH (op:=EH) ha hb).trans (NR (by omega))
 . rw [IE (F8 _ hp)];exact LR _ hp
abbrev enN:Nat->PyData:=fun n=> .int (n:Int)
def AB(t:List Nat):PyData:= .tuple (nl t)
theorem PL{ρ:En}:mLst mNil ρ=some (.own []):=by
 exact AU (e:=none) (show 0<=sizeLine by decide)
theorem lB{L:List Nat}(hL:∀c ∈ L,c<=1000):YU [.list (nl L)]=some (.val (.int (Tr.prodN L:Nat))):=by
 refine DV (ρ:= [some (.val (.list (nl L))),none,none]) rfl rfl ?_;unfold b_q31;refine C5 (r:= .val (.int 1)) rfl ?_;refine GC (P:=fun ρ=>∃z,ρ = [some (.val (.list (nl L))),some (.val (.int (Tr.prodN L:Nat))),z]) ?_ ?_
 . refine JB (en:=enN) (xs:=L) (fun k ρ=>∃z,ρ = [some (.val (.list (nl L))),some (.val (.int (Tr.prodN (L.take k):Nat))),z]) rfl ⟨_,rfl⟩ ?_ ?_
   . rintro k s ρ hs ⟨z,rfl⟩;have hs1:=hL s (B2 hs);refine ⟨_,rfl,K9 (r:= .val (.int ((Tr.prodN (L.take k):Int)*(s:Int)))) ((AH (op:=dRep) rfl rfl).trans (J7 (cmR (by omega) (by omega)))) ⟨some (.val (.int s)),?_⟩⟩;rw [HA,hs];show _=([some (.val (.list (nl L))),some (.val (.int (Tr.prodN (L.take k ++ [s]):Nat))),some (.val (.int s))]:En);rw [Tr.prodN_app,show Tr.prodN [s]=s by simp [Tr.prodN],KQ];rfl
   . rintro ρ ⟨z,rfl⟩;rw [CI (A8 _)];exact ⟨z,rfl⟩
 . rintro ρ ⟨z,rfl⟩;exact CW rfl rfl
theorem mM{c:Nat}(h:c<=1000):Bt 9000 (c:Int):=by
 unfold Bt;have:2 ^ 10<=2 ^ 9000:=Nat.pow_le_pow_right (by decide) (by decide);have e:(2:Nat) ^ 10=1024:=by decide
 rw [e] at this
 refine B4 ?_ this;omega
theorem iS{L:List Nat}(hL:∀c ∈ L,0<c/\c<=1000)(hl:L.length<=900)(x:Nat):YG [.list (nl L), .int x]=some (.val (AB (Tr.tri L x))):=by
 have sl:=ED;refine DV (ρ:= [some (.val (.list (nl L))),some (.val (.int x)),none,none]) rfl rfl ?_;unfold b_q41;refine C5 PL ?_;refine GC (P:=fun ρ=>∃z1 z3,ρ = [some (.val (.list (nl L))),z1,some (.own (nl (Tr.dg L.reverse x))),z3]) ?_ ?_
 . refine JB (en:=enN) (xs:=L.reverse) (fun k ρ=>∃(A:List Nat) (y:Nat) (z:Option Sl),ρ = [some (.val (.list (nl L))),some (.val (.int y)),some (.own (nl A)),z]/\A.length=k/\A++Tr.dg (L.reverse.drop k) y=Tr.dg L.reverse x) ?_ ⟨[],x,none,rfl,rfl,rfl⟩ ?_ ?_
   . show some (nl L).reverse=_;rw [nl,List.map_reverse]
   . rintro k c ρ hc ⟨A,y,z,rfl,hA,he⟩;have hc1:=hL c (List.mem_reverse.mp (B2 hc));obtain ⟨hk,ek⟩:=AX.mp hc;have hk':k<L.length:=by simpa using hk
     rw [FU hk,ek] at he
     refine ⟨_,rfl,?_⟩;have nz:(c:Int)≠0:=by omega
     refine GS (SN (r:= .val (.int ((y % c:Nat):Int))) (ds:=nl A) ((AH (op:=EH) (a:= .val (.int y)) (b:= .val (.int c)) rfl rfl).trans ((NR nz).trans ?_)) rfl (by rw [GZ];omega)) ?_
     . rw [FL _ (by omega)];rfl
     refine K9 (r:= .val (.int ((y / c:Nat):Int))) ((AH (op:=DN) (a:= .val (.int y)) (b:= .val (.int c)) rfl rfl).trans ((YD ⟨nz,mM hc1.2⟩).trans ?_)) ⟨A ++ [y % c],y / c,some (.val (.int c)),?_,by simp [hA],?_⟩
     . rw [LQ _ (by omega)];rfl
     . rw [WE];rfl
     . rw [<-he,N7];rfl
   . rintro ρ ⟨A,y,z,rfl,hA,he⟩;rw [F7 (A8 _)] at he
     simp only [Tr.dg,DK] at he
     subst he;exact ⟨_,_,rfl⟩
 . rintro ρ ⟨z1,z3,rfl⟩;refine CW (r:= .val (AB (Tr.tri L x))) (D5 (ss:= [.own (nl (Tr.dg L.reverse x))]) rfl ?_) rfl;show some (Sl.val (.tuple (nl (Tr.dg L.reverse x)).reverse))=_;rw [nl, <-List.map_reverse];rfl
theorem dE{L:List Nat}(hL:∀c ∈ L,0<c/\c<=1000)(hl:L.length<=900)(hp:Tr.prodN L<=900):QF [.list (nl L)]=some (.own ((Tr.allT L).map AB)):=by
 have sl:=ED;refine DV (ρ:= [some (.val (.list (nl L)))]) rfl rfl ?_;unfold b_q13;refine CW (EY (ds:=G5 0 (Tr.prodN L)) ?_ ?_ ?_) rfl
 . exact J8 (j:=Tr.prodN L) (EC (as:= []) (BF (ds:= [.list (nl L)]) rfl (lB fun c hc=>(hL c hc).2)) rfl) (by omega)
 . rw [show (G5 0 (Tr.prodN L)).length=Tr.prodN L by simp [G5]];omega
 . refine (K0 (g:=fun i=>AB (Tr.tri L i)) fun i hi=>HD (r:= .val (AB (Tr.tri L i))) rfl (BF (ds:= [.list (nl L), .int (i:Nat)]) ?_ (iS hL hl i))).trans ?_
   . show some [PyData.list (nl L), .int (0+(i:Nat))]=_;rw [LM]
   . rw [Tr.allT,E1];rfl
theorem qI{n l Y:Nat}{x:Int}(h1:1<=n)(hn:n<=32)(hl:l<=n)(hY1:1<=Y)(hx:x.natAbs<=l*((n*Y) ^ l*Y)):x.natAbs<=(32*Y) ^ n*(32*Y) ^ n:=by
 have a1:(n*Y) ^ l<=(32*Y) ^ n:=AY (AD4 (HL Y hn) l) (CJ (by omega) hl)
 have a2:l*Y<=(32*Y) ^ n:=AY (HL Y (by omega:l<=32)) (by
  calc 32*Y=(32*Y) ^ 1:=(bQ _).symm
   _<=_:=CJ (by omega) h1)
 have a3:l*((n*Y) ^ l*Y)=(n*Y) ^ l*(l*Y):=by
  rw [WZ]
 refine AY hx ?_;rw [a3];exact G7 a1 a2
theorem xD{g:En->Option Out}{ρ:En}{r:Sl}(h:Wp g ρ (Rt r)):Rts g ρ r:=by
 obtain ⟨o,h1,h2⟩:=h
 cases o with
 | rt r' ρ'=>cases h2;exact ⟨_,h1⟩
 | _=>exact h2.elim
theorem yI{n s:Nat}{fo:En->Option En}{g:En->Option Out}{ρ φ:En}{r:Sl}(hl:ρ.length=n)(h:fo ρ=some φ)(k:Wp g (ρ.set s none++φ) (Rt r)):Wp (bG n s fo g) ρ (Rt r):=by
 obtain ⟨ρ',k⟩:=A09 hl h (xD k);exact ⟨_,k,rfl⟩
theorem AA4{l m:Nat}{L:Nat->Nat}:inD false (.int (m:Int)) (ldD l L)=some (.val (.bool (decide (∃s,s<l/\L s=m)))):=by
 unfold inD;rw [if_pos ⟨rfl,by simp [ldD,PyData.canLay0],by simp [PyData.depth]⟩];refine congrArg (fun b=>some (Sl.val (.bool b))) ?_;simp only [ldD,List.any_map,Bool.false_eq_true,if_false];rw [Bool.eq_iff_iff];simp only [List.any_eq_true,Function.comp,List.mem_range,decide_eq_true_eq,PyData.eqv]
 constructor
 . rintro ⟨x,hx,h⟩;refine ⟨x,hx,?_⟩;simp at h
   omega
 . rintro ⟨x,hx,h⟩;refine ⟨x,hx,?_⟩;simp [h]
def aug(m:Nat)(t:Tb)(c:Nat->Int×Int):Tb:=fun i j=>if j<m then t i j else c i
def fnd(L:Nat->Nat)(f:Nat->Int×Int):Nat->Nat->Int×Int
 | 0,_=>(0,1)
 | s+1,j=>if j=L s then f s else fnd L f s j
theorem ZB{L:Nat->Nat}{f:Nat->Int×Int}:∀ {l j:Nat},(∀s,s<l->L s≠j)->fnd L f l j=(0,1)
 | 0,_,_=>rfl
 | l+1,j,h=>by
  rw [fnd,AR (fun e=>h l (by omega) e.symm)];exact ZB fun s hs=>h s (by omega)
theorem j5{L:Nat->Nat}{f:Nat->Int×Int}:∀ {l s:Nat},(∀s t,s<t->t<l->L s<L t)->s<l->fnd L f l (L s)=f s
 | 0,_,_,h=>absurd h (by omega)
 | l+1,s,hi,h=>by
  rw [fnd]
  by_cases e:s=l
  . subst e;rw [AU rfl]
  . have:=hi s l (by omega) (by omega);rw [AR (by omega)];exact j5 (fun s t h1 h2=>hi s t h1 (by omega)) (by omega)
theorem tH{m i:Nat}{t:Tb}{c:Nat->Int×Int}:((List.range m).map fun j=>DR (t i j)) ++ [DR (c i)]=(List.range (m+1)).map fun j=>DR (aug m t c i j):=by
 rw [IS,D0];congr 1
 . exact List.map_congr_left fun j hj=>by unfold aug;rw [if_pos (List.mem_range.mp hj)]
 . show [DR (c i)] = [DR (aug m t c i m)];unfold aug;rw [if_neg (by omega)]
theorem tJ {n m : Nat} {t : Tb} {c : Nat -> Int × Int} {ρ : En} (h0 : (ρ[0]?).join = some (.val (FI n m t))) (h1 : (ρ[1]?).join = some (.val (frD n c))) (hn : n <= 200) (hm : m <= 200) :
 (mLC (CP [none,none]) (SR (mCons (mVar 0) (mCons (mVar 1) mNil))) (gTupD [(gVar 0),(gVar 1)]) mYes (mBin dAdd (mPk 0) (mLst (mCons (mVar 1) mNil)))) ρ=some (.own ((List.range n).map fun i=>frD (m+1) (aug m t c i))):=by
 have hs:=ED;have v0:mVar 0 ρ=some (.val (FI n m t)):=by unfold mVar;rw [h0]
 have v1:mVar 1 ρ=some (.val (frD n c)):=by unfold mVar;rw [h1]
 refine EY (ds:=(List.range n).map fun i=> .tuple [frD m (t i),DR (c i)]) ?_ (by rw [A4,AI];omega) (CG fun i hi=> ?_)
 . unfold SR;rw [AZ v0 (AZ v1 rfl)];show some (JK ((List.range n).map fun i=>frD m (t i)) ((List.range n).map fun i=>DR (c i)))=_;rw [MK]
 . show elM _ _ _ [none,none] _=_;refine (HD (r:= .own ((List.range (m+1)).map fun j=>DR (aug m t c i j))) (ρ1:= [some (.val (frD m (t i))),some (.val (DR (c i)))]) rfl ?_);refine (AH (op:=dAdd) (a:= .val (frD m (t i))) (b:= .own [DR (c i)]) rfl (TW (a:= .val (DR (c i))) rfl)).trans ?_;refine (R0 (xs:=(List.range m).map fun j=>DR (t i j)) (ys:= [DR (c i)]) rfl rfl ?_).trans ?_
   . rw [A4,AI];show m+1<=_;omega
   . rw [tH]
theorem rQ {n m D T : Nat} {t : Tb} {c : Nat -> Int × Int} (k : TabOk n (m + 1) D T (aug m t c)) (hm1 : 1 <= m) (hm : m <= 199) : ∃ R l L last B, Ba.BI n (m + 1) (W (m + 1) (aug m t c)) R l L last (m + 1) B /\ last.natAbs <= (32 * (T * D ^ (m + 1))) ^ n /\ (∀ s, s < l -> (Ba.redx B l L m s).natAbs <= (32 * (T * D ^ (m + 1))) ^ n * (32 * (T * D ^ (m + 1))) ^ n) /\
 ((∃s,s<l/\L s=m)->LG [FI n m t,frD n c]=some (.val .none)) /\
 ((∀s,s<l->L s≠m)->LG [FI n m t,frD n c]=some (.own ((List.range m).map fun j=>DR (fnd L (fun s=>fr (Ba.redx B l L m s) last) l j)))):=by
 obtain ⟨R,l,L,last,B,I,hs⟩:=zF k (by omega);have hY1:1<=T*D ^ (m+1):=Nat.mul_pos k.T1 (bP k.D1);have bd:=I.bound k.n32 hY1 k.Wb;have hl:l<=n:=I.kn;have n32:=k.n32;have n1:=k.n1;have hlast:Bt 4000 last:=eY bd.2 k.size;have hR:∀i,i<n->∀j,j<m+1->Bt 4000 (R i j):=fun i hi j hj=>eY (bd.1 i hi j hj) k.size;have hx:∀s,s<l->Bt 8000 (Ba.redx B l L m s):=fun s _=>xQ k.n1 k.n32 I.kn hY1 k.size (I.red_abs hY1 k.Wb (by omega) s);have hsz:=ED;refine ⟨R,l,L,last,B,I,bd.2,fun s _=>qI k.n1 k.n32 I.kn hY1 (I.red_abs hY1 k.Wb (by omega) s),?_⟩
 have w:∀ {r:Sl},Wp (mSeq (mIf (mTest (mBin (IG false) (mPk 2) (mPk 9))) (mRet (mK .none)) mNext)
  (mSeq (mFrz 2 (mAsg 4 (mCall QG (mCons (O0 8 aL (mCons (mVar 2) mNil)) (mCons (mVar 10) mNil)))))
  (mSeq (mAsg 5 (mBin dRep (mLst (mCons (mK c_NOUGHT) mNil)) (mPk 2)))
  (mSeq (mFrz 9 (mFrz 4 (IB (SR (mCons (mVar 9) (mCons (mVar 4) mNil))) (gTupD [(gVar 6),(gVar 7)]) (mSet 5 (mPk 6) (mVar 7)))))
  (mRet (mPk 5)))))) [some (.val (FI n m t)),some (.val (frD n c)),some (.val (.int m)),none,none,none,none,none,some (.own (CD n (m+1) R)),some (.own (ldD l L)),some (.val (.int last))] (Rt r)->LG [FI n m t,frD n c]=some r:=fun {r} h=>by
  refine DV (ρ:= [some (.val (FI n m t)),some (.val (frD n c)),none,none,none,none,none,none]) rfl rfl ?_;unfold b_q32;refine C5 (r:= .val (.int m)) ?_ ?_
  . have e : dix (.val (FI n m t)) (.val (.int 0)) = some (.val (frD m (t 0))) := by
     unfold dix FI;simp only [Sl.dat];rw [show (0:Int)=((0:Nat):Int) from rfl,HC (show 0<n by omega)];rfl
    refine D5 (EC (AH (a:= .val (FI n m t)) (b:= .val (.int 0)) rfl rfl |>.trans e) rfl) ?_;simp only [dLen,Sl.dat,frD,A4,AI]
  . refine yI (φ:=NY n (m+1) R l L last) rfl ?_ h;show S8 TH _ [some (.val (FI n m t)),some (.val (frD n c)),some (.val (.int m)),none,none,none,none,none]=_;unfold S8;rw [AZ (tJ (n:=n) (m:=m) (t:=t) (c:=c) rfl rfl (by omega) (by omega)) (show mNil _=some [] from rfl)];exact hs
 have tst:(mTest (mBin (IG false) (mPk 2) (mPk 9))) [some (.val (FI n m t)),some (.val (frD n c)),some (.val (.int m)),none,none,none,none,none,some (.own (CD n (m+1) R)),some (.own (ldD l L)),some (.val (.int last))]=some (decide (∃s,s<l/\L s=m)) :=
  FY ((AH (op:=IG false) (a:= .val (.int m)) (b:= .own (ldD l L)) rfl rfl).trans AA4)
 refine ⟨fun h=>w ?_,fun h=>w ?_⟩
 . refine JA (L5 (tst.trans (by rw [BG h])) (CW rfl rfl))
 . refine JY (tst.trans (by rw [B8 (by rintro ⟨s,h1,h2⟩;exact h s h1 h2)])) ?_;have rc:=A29 I (j:=m) (by omega) k.n32 k.m1000 hR hlast hx;refine GS (ρ':= [some (.val (FI n m t)),some (.val (frD n c)),some (.val (.int m)),none,some (.own ((List.range l).map fun s=>DR (fr (Ba.redx B l L m s) last))),none,none,none,some (.own (CD n (m+1) R)),some (.own (ldD l L)),some (.val (.int last))]) ?_ ?_
   . rw [PU];refine EL (BF (ds:= [.list ((List.range l).map fun t=> .int (Ba.redx B l L m t)), .int last]) ?_ (lQ (AY hl (AY n32 (by decide))) I.nz (hlast.mono (by decide))))
     have e:(O0 8 aL (mCons (mVar 2) mNil)) [some (.val (FI n m t)),some (.val (frD n c)),some (.val (.int m)),none,none,none,none,none,some (.own (CD n (m+1) R)),some (.own (ldD l L)),some (.val (.int last))]=some (.own ((List.range l).map fun t=> .int (Ba.redx B l L m t))) :=
      jY (ds:= [.int (m:Int)]) (fd:= [.list (CD n (m+1) R), .list (ldD l L), .int last]) rfl rfl rc hJ
     exact AZ e (AZ (a:= .val (.int last)) (as:= []) rfl rfl)
   . refine C5 (r:= .own ((List.range m).map fun _=>c_NOUGHT)) ((AH (a:= .own [c_NOUGHT]) (b:= .val (.int ((m:Nat):Int))) (TW (a:= .val c_NOUGHT) rfl) rfl).trans (VH (by omega))) ?_;show Wp _ [some (.val (FI n m t)),some (.val (frD n c)),some (.val (.int m)),none,some (.own ((List.range l).map fun s=>DR (fr (Ba.redx B l L m s) last))),some (.own ((List.range m).map fun _=>c_NOUGHT)),none,none,some (.own (CD n (m+1) R)),some (.own (ldD l L)),some (.val (.int last))] _;refine GC (P:=fun ρ=>∃z6 z7,ρ = [some (.val (FI n m t)),some (.val (frD n c)),some (.val (.int m)),none,some (.val (.list ((List.range l).map fun s=>DR (fr (Ba.redx B l L m s) last)))),some (.own ((List.range m).map fun j=>DR (fnd L (fun s=>fr (Ba.redx B l L m s) last) l j))),z6,z7,some (.own (CD n (m+1) R)),some (.val (.list (ldD l L))),some (.val (.int last))]) (FW (FW ?_)) ?_
     . refine aR (ds:=(List.range l).map fun s=> .tuple [.int (L s),DR (fr (Ba.redx B l L m s) last)]) (fun s ρ=>∃z6 z7,ρ = [some (.val (FI n m t)),some (.val (frD n c)),some (.val (.int m)),none,some (.val (.list ((List.range l).map fun s=>DR (fr (Ba.redx B l L m s) last)))),some (.own ((List.range m).map fun j=>DR (fnd L (fun s=>fr (Ba.redx B l L m s) last) s j))),z6,z7,some (.own (CD n (m+1) R)),some (.val (.list (ldD l L))),some (.val (.int last))]) ?_ ⟨_,_,rfl⟩ ?_ ?_
       . unfold SR;rw [AZ (a:= .val (.list (ldD l L))) rfl (AZ (a:= .val (.list ((List.range l).map fun s=>DR (fr (Ba.redx B l L m s) last)))) rfl rfl)];show some (JK ((List.range l).map fun s=> .int (L s)) ((List.range l).map fun s=>DR (fr (Ba.redx B l L m s) last)))=_;rw [MK]
       . rintro s d ρ hd ⟨z6,z7,rfl⟩
         have hs:s<l:=by
          have:=(AX.mp hd).1;simpa using this
         rw [B3,BU hs] at hd
         cases hd
         refine ⟨_,rfl,?_⟩
         have hLm:L s<m:=by
          have h1:=I.Lc s hs;have h2:=h s hs;omega
         refine QE (aY (r:= .val (DR (fr (Ba.redx B l L m s) last))) (k:=((L s:Nat):Int)) (j:=L s) rfl rfl rfl (by rw [A4,AI];exact QV hLm)) ?_;refine ⟨some (.val (.int (L s))),some (.val (DR (fr (Ba.redx B l L m s) last))),?_⟩;show [some (Sl.val (FI n m t)),some (.val (frD n c)),some (.val (.int m)),none,some (.val (.list ((List.range l).map fun s=>DR (fr (Ba.redx B l L m s) last)))),some (.own (((List.range m).map fun j=>DR (fnd L (fun s=>fr (Ba.redx B l L m s) last) s j)).set (L s) (DR (fr (Ba.redx B l L m s) last)))),some (.val (.int (L s))),some (.val (DR (fr (Ba.redx B l L m s) last))),some (.own (CD n (m+1) R)),some (.val (.list (ldD l L))),some (.val (.int last))]=_;rw [PZ]
         have e:((List.range m).map fun i=>if i=L s then DR (fr (Ba.redx B l L m s) last) else DR (fnd L (fun s=>fr (Ba.redx B l L m s) last) s i))=(List.range m).map fun j=>DR (fnd L (fun s=>fr (Ba.redx B l L m s) last) (s+1) j):=C7 fun j _=>by
          rw [fnd]
          by_cases hj:j=L s
          . rw [AU hj,AU hj]
          . rw [AR hj,AR hj]
         rw [e]
       . rintro ρ ⟨z6,z7,rfl⟩;rw [A4,AI];exact ⟨_,_,rfl⟩
     . rintro ρ ⟨z6,z7,rfl⟩;exact CW rfl rfl
theorem NS{a b c d:Int}(hb:0<b)(hd:0<d)(g1:Int.gcd a b=1)(g2:Int.gcd c d=1)(e:a*d=c*b):(a,b)=(c,d):=by
 have d1:b ∣ d:=by
  have:b ∣ a*d:=⟨c,by rw [e];ac_rfl⟩;refine FQ.mp (ZM (m:=a.natAbs) (by rw [Nat.coprime_comm];exact g1) ?_);rw [<-HK];exact FQ.mpr this
 have d2:d ∣ b:=by
  have:d ∣ c*b:=⟨a,by rw [<-e];ac_rfl⟩;refine FQ.mp (ZM (m:=c.natAbs) (by rw [Nat.coprime_comm];exact g2) ?_);rw [<-HK];exact FQ.mpr this
 have ebd:b=d:=Int.dvd_antisymm (by omega) (by omega) d1 d2;subst ebd;have:a=c:=LU (by omega) e;rw [this]
theorem nL{a b c d:Int}(hb:b≠0)(hd:d≠0)(e:a*d=c*b):fr a b=fr c d:=by
 have h:=NS (a:=(fr a b).1) (b:=(fr a b).2) (c:=(fr c d).1) (d:=(fr c d).2) (PX hb) (PX hd) (WH hb) (WH hd) (by
  have h1:=KK (a:=a) hb;have h2:=KK (a:=c) hd;refine Ba.mul_cancel (a:=b*d) (KR hb hd) ?_
  calc b*d*((fr a b).1*(fr c d).2)=((fr a b).1*b)*(d*(fr c d).2):=by ac_rfl
   _=(a*d)*((fr a b).2*(fr c d).2):=by rw [h1];ac_rfl
   _=(c*(fr c d).2)*(b*(fr a b).2):=by rw [e];ac_rfl
   _=b*d*((fr c d).1*(fr a b).2):=by rw [<-h2];ac_rfl)
 exact h
theorem xR(a:Int):fr a 1=(a,1):=by
 have h:=KK (a:=a) (b:=1) (by decide);have p:=PX (a:=a) (b:=1) (by decide);have g:=WH (a:=a) (b:=1) (by decide);have:=NS (a:=(fr a 1).1) (b:=(fr a 1).2) (c:=a) (d:=1) p (by decide) g (Int.gcd_one_right ..) h;exact this
theorem uP{e:Int}(he:e≠0):fr 0 e=(0,1):=by
 rw [<-xR];exact nL he (by decide) (by rw [FA,FA])
theorem nE{a b a' b':List PyData}(h1:a=a')(h2:b=b'):some (Sl.own (a++b))=some (Sl.own (a'++b')):=by rw [h1,h2]
def tz(A:Ba.Mx):Tb:=fun i j=>(A i j,1)
def p8(m:Nat)(A:Ba.Mx)(c:Nat->Int):Ba.Mx:=fun i j=>if j<m then A i j else c i
theorem lM{m:Nat}{A:Ba.Mx}{c:Nat->Int}:aug m (tz A) (fun i=>(c i,1))=tz (p8 m A c):=by
 funext i j;unfold aug tz p8
 by_cases h:j<m
 . rw [AU h,AU h]
 . rw [AR h,AR h]
theorem n9{a:Nat->Int}:∀m,cbN (fun j=>(a j,1)) m=1
 | 0=>rfl
 | m+1=>by
  rw [cbN,n9 m];show Int.fdiv 1 ((Int.gcd 1 1:Nat):Int)*1=1;decide
theorem AF2{m:Nat}{A:Ba.Mx}:W m (tz A)=A:=by
 funext i j;show A i j*(cbN (fun j=>(A i j,1)) m).fdiv 1=_;rw [n9];show A i j*1=_;rw [N6]
theorem A34{n m Y:Nat}{A:Ba.Mx}(h1:1<=n)(hn:n<=32)(hm:m<=1000)(hY1:1<=Y)(hA:∀i,i<n->∀j,j<m->(A i j).natAbs<=Y)(hY:(32*Y) ^ n<2 ^ 4000):TabOk n m 1 Y (tz A) :=
 ⟨h1,hn,hm,A8 _,hY1,fun i hi j hj=>⟨by show (0:Int)<1;decide,by show (1:Int).natAbs<=1;decide⟩,hA,by rw [Nat.one_pow,bO];exact hY⟩
theorem XO {n m Y : Nat} {A : Ba.Mx} {c : Nat -> Int} (h1 : 1 <= n) (hn : n <= 32) (hm1 : 1 <= m) (hm : m <= 199) (hY1 : 1 <= Y) (hA : ∀ i, i < n -> ∀ j, j < m -> (A i j).natAbs <= Y) (hc : ∀ i, i < n -> (c i).natAbs <= Y) (hY : (32 * Y) ^ n < 2 ^ 4000) :
 (∃q:Nat->Int,(∀j,j<m->Ba.sumN n (fun i=>q i*A i j)=0)/\Ba.sumN n (fun i=>q i*c i)≠0/\LG [FI n m (tz A),frD n (fun i=>(c i,1))]=some (.val .none)) \/
 (∃(X:Nat->Int) (e:Int),e≠0/\e.natAbs<=(32*Y) ^ n/\(∀j,j<m->(X j).natAbs<=(32*Y) ^ n*(32*Y) ^ n)/\(∀i,i<n->Ba.sumN m (fun j=>A i j*X j)=e*c i)/\LG [FI n m (tz A),frD n (fun i=>(c i,1))]=some (.own ((List.range m).map fun j=>DR (fr (X j) e)))):=by
 have k:TabOk n (m+1) 1 Y (aug m (tz A) (fun i=>(c i,1))):=by
  rw [lM];refine A34 h1 hn (by omega) hY1 (fun i hi j _=> ?_) hY;unfold p8
  by_cases h:j<m
  . rw [AU h];exact hA i hi j h
  . rw [AR h];exact hc i hi
 obtain ⟨R,l,L,last,B,I,hlast,hx,s1,s2⟩:=rQ k hm1 hm;rw [lM,AF2] at I
 rw [Nat.one_pow,bO] at hlast hx
 have lo:∀i j,j<m->p8 m A c i j=A i j:=fun i j h=>AU h;have hi:∀i,p8 m A c i m=c i:=fun i=>AR (by omega)
 by_cases h:∃s,s<l/\L s=m
 . left;obtain ⟨s,hs,e⟩:=h;obtain ⟨q,q1,q2⟩:=I.never hs e;refine ⟨q,fun j hj=> ?_,?_,s1 ⟨s,hs,e⟩⟩
   . rw [<-q1 j hj];exact Ba.sum_congr fun i _=>by rw [lo i j hj]
   . intro z;apply q2;rw [<-z];exact Ba.sum_congr fun i _=>by rw [hi i]
 . right;have h:∀s,s<l->L s≠m:=fun s hs e=>h ⟨s,hs,e⟩;have at1:∀t,t<l -> - Ba.kv l L (fun t j=>Ba.redx B l L j t) last m (L t)=Ba.redx B l L m t:=fun t ht=>by rw [I.rr.kv_L ht (h t ht),Int.neg_neg]
   have at0:∀j,j<m->(∀t,t<l->L t≠j) -> - Ba.kv l L (fun t j=>Ba.redx B l L j t) last m j=0:=fun j hj hn=>by rw [Ba.kv_else (by omega) hn,Int.neg_zero]
   refine ⟨fun j=> - Ba.kv l L (fun t j=>Ba.redx B l L j t) last m j,last,I.nz,hlast,fun j hj=> ?_,fun i hin=> ?_,?_⟩
   . by_cases hx':∃t,t<l/\L t=j
     . obtain ⟨t,ht,rfl⟩:=hx';show (- Ba.kv l L (fun t j=>Ba.redx B l L j t) last m (L t)).natAbs<=_;rw [at1 t ht];exact hx t ht
     . show (- Ba.kv l L (fun t j=>Ba.redx B l L j t) last m j).natAbs<=_;rw [at0 j hj fun t ht e=>hx' ⟨t,ht,e⟩];exact DF _
   . have f:=I.found h (X:=fun j=> - Ba.kv l L (fun t j=>Ba.redx B l L j t) last m j) at1 at0 i hin;rw [hi i] at f
     rw [<-f];exact Ba.sum_congr fun j hj=>by rw [lo i j hj]
   . rw [s2 h];congr 2
     refine C7 fun j hj=> ?_;have hj:=BC.mp hj
     by_cases hx':∃t,t<l/\L t=j
     . obtain ⟨t,ht,rfl⟩:=hx';show _=DR (fr (- Ba.kv l L (fun t j=>Ba.redx B l L j t) last m (L t)) last);rw [j5 I.Li ht,at1 t ht]
     . have hx':∀t,t<l->L t≠j:=fun t ht e=>hx' ⟨t,ht,e⟩;show _=DR (fr (- Ba.kv l L (fun t j=>Ba.redx B l L j t) last m j) last);rw [ZB hx',at0 j hj hx',uP I.nz]
def Q5(m:Nat)(A:Ba.Mx)(c:Nat->Int):Ba.Mx:=fun j i=>if j<m then A i j else c i
theorem nC {n m : Nat} {A : Ba.Mx} {c : Nat -> Int} {r : Sl} (h1 : 1 <= n) (hn : n <= 32) (hm : m <= 32)
 (h:LG [FI (m+1) n (tz (Q5 m A c)),frD (m+1) (fun j=>(if j<m then 0 else 1,1))]=some r):XX [FI n m (tz A),frD n (fun i=>(c i,1))]=some r:=by
 have hs:=ED;have lo:=jO (n:=m) (m:=n) (f:=fun i j=>DR (tz A i j)) (by omega) h1 (by omega);refine DV (ρ:= [some (.val (FI n m (tz A))),some (.val (frD n (fun i=>(c i,1)))),none]) rfl rfl ?_;unfold b_q44;refine C5 (BF (ds:= [FI n m (tz A)]) rfl lo) ?_;show Wp _ [some (.val (FI n m (tz A))),some (.val (frD n (fun i=>(c i,1)))),some (.own ((List.range m).map fun j=> .list ((List.range n).map fun i=>DR (tz A i j))))] _;refine CW (BF (ds:= [FI (m+1) n (tz (Q5 m A c)),frD (m+1) (fun j=>(if j<m then 0 else 1,1))]) ?_ h) rfl;refine AZ (a:= .own ((List.range (m+1)).map fun j=>frD n (tz (Q5 m A c) j))) ?_ (AZ (a:= .own ((List.range (m+1)).map fun j=>DR (if j<m then 0 else 1,1))) ?_ rfl)
 . refine (AH (op:=dAdd) rfl (TW (a:= .own ((List.range n).map fun i=>DR (c i,1))) rfl)).trans ((R0 rfl rfl ?_).trans ?_)
   . rw [A4,AI];show m+1<=_;omega
   . rw [IS,D0];refine nE ?_ ?_
     . refine List.map_congr_left fun j hj=> ?_;show PyData.list _=PyData.list _;refine congrArg PyData.list (List.map_congr_left fun i _=> ?_);unfold tz Q5;rw [if_pos (List.mem_range.mp hj)]
     . show [PyData.list _] = [PyData.list _];refine congrArg (fun x=> [PyData.list x]) (List.map_congr_left fun i _=> ?_);unfold tz Q5;rw [if_neg (by omega)]
 . have e : (mBin dRep (mLst (mCons (mK c_NOUGHT) mNil)) (mCallP dLen (mConsP (mPk 2) mNilP))) [some (.val (FI n m (tz A))), some (.val (frD n (fun i => (c i, 1)))), some (.own ((List.range m).map fun j => .list ((List.range n).map fun i => DR (tz A i j))))] = some (.own ((List.range m).map fun _ => c_NOUGHT)) := by
    refine (AH (a:= .own [c_NOUGHT]) (b:= .val (.int ((m:Nat):Int))) (TW (a:= .val c_NOUGHT) rfl) ?_).trans (VH (by omega));exact D5 (EC rfl rfl) (by simp only [dLen,Sl.dat,A4,AI])
   refine (AH (op:=dAdd) e (TW (a:= .val c_UNIT) rfl)).trans ((R0 rfl rfl ?_).trans ?_)
   . rw [A4,AI];show m+1<=_;omega
   . rw [IS,D0];refine nE ?_ ?_
     . refine C7 fun j hj=> ?_;rw [AU (BC.mp hj)];rfl
     . show [c_UNIT] = [DR _];rw [AR (by omega)];rfl
theorem XD {n m Y : Nat} {A : Ba.Mx} {c : Nat -> Int} (h1 : 1 <= n) (hn : n <= 32) (hm1 : 1 <= m) (hm : m <= 31) (hY1 : 1 <= Y) (hA : ∀ i, i < n -> ∀ j, j < m -> (A i j).natAbs <= Y) (hc : ∀ i, i < n -> (c i).natAbs <= Y) (hY : (32 * Y) ^ n < 2 ^ 4000) (hY2 : (32 * Y) ^ (m + 1) < 2 ^ 4000) :
 (∃(q:Nat->Int) (X:Nat->Int) (e:Int),(∀j,j<m->Ba.sumN n (fun i=>q i*A i j)=0)/\Ba.sumN n (fun i=>q i*c i)≠0/\e≠0/\e.natAbs<=(32*Y) ^ (m+1)/\(∀i,i<n->(X i).natAbs<=(32*Y) ^ (m+1)*(32*Y) ^ (m+1))/\(∀j,j<m->Ba.sumN n (fun i=>A i j*X i)=0)/\Ba.sumN n (fun i=>c i*X i)=e /\
  RK [FI n m (tz A),frD n (fun i=>(c i,1))]=some (.val (.tuple [.str "never", .list ((List.range n).map fun i=>DR (fr (X i) e))]))) \/
 (∃(X:Nat->Int) (e:Int),e≠0/\e.natAbs<=(32*Y) ^ n/\(∀j,j<m->(X j).natAbs<=(32*Y) ^ n*(32*Y) ^ n)/\(∀i,i<n->Ba.sumN m (fun j=>A i j*X j)=e*c i)/\RK [FI n m (tz A),frD n (fun i=>(c i,1))]=some (.val (.tuple [.str "found", .list ((List.range m).map fun j=>DR (fr (X j) e))]))):=by
 rcases XO h1 hn hm1 (by omega) hY1 hA hc hY with ⟨q,q1,q2,hq⟩ | ⟨X,e,e0,eb,xb,hx,hs⟩
 . left;have lo:∀j i,j<m->Q5 m A c j i=A i j:=fun j i h=>AU h;have hi:∀i,Q5 m A c m i=c i:=fun i=>AR (by omega)
   rcases XO (n:=m+1) (m:=n) (A:=Q5 m A c) (c:=fun j=>if j<m then 0 else 1) (by omega) (by omega) h1 (by omega) hY1 (fun j _ i hi'=>by
    unfold Q5
    by_cases h:j<m
    . rw [AU h];exact hA i hi' j h
    . rw [AR h];exact hc i hi') (fun j _=>by
    show ((if j<m then 0 else 1:Int)).natAbs<=Y
    split
    . exact DF _
    . exact hY1) hY2 with ⟨p,p1,p2,_⟩ | ⟨X,e,e0,eb,xb,hx,hs⟩
   . exfalso
     have p2:p m≠0:=by
      intro z;apply p2;show Ba.sumN m (fun j=>p j*if j<m then 0 else 1)+p m*(if m<m then 0 else 1)=0;rw [z,FA,LN];exact Ba.sum_zero fun j hj=>by rw [AU hj,C8]
     have key:∀i,i<n->Ba.sumN m (fun j=>p j*A i j)+p m*c i=0:=fun i hin=>by
      have:=p1 i hin;have t:Ba.sumN m (fun j=>p j*Q5 m A c j i)+p m*Q5 m A c m i=0:=this;rw [hi i] at t
      rw [<-t];congr 1
      exact Ba.sum_congr fun j hj=>by rw [lo j i hj]
     have z:Ba.sumN n (fun i=>q i*(Ba.sumN m (fun j=>p j*A i j)+p m*c i))=0:=Ba.sum_zero fun i hin=>by rw [key i hin,C8]
     have s:Ba.sumN n (fun i=>q i*(Ba.sumN m (fun j=>p j*A i j)+p m*c i))=Ba.sumN n (fun i=>Ba.sumN m (fun j=>p j*(q i*A i j)))+p m*Ba.sumN n (fun i=>q i*c i):=by
      rw [<-Ba.sum_mul, <-Ba.sum_add];refine Ba.sum_congr fun i _=> ?_;rw [IZ, <-Ba.sum_mul];congr 1
      . exact Ba.sum_congr fun j _=>by ac_rfl
      . ac_rfl
     rw [z,Ba.sum_comm] at s
     have s0:Ba.sumN m (fun j=>Ba.sumN n (fun i=>p j*(q i*A i j)))=0:=Ba.sum_zero fun j hj=>by rw [Ba.sum_mul,q1 j hj,C8]
     rw [s0,LM] at s
     rcases DL.mp s.symm with h | h
     . exact p2 h
     . exact q2 h
   . refine ⟨q,X,e,q1,q2,e0,eb,xb,fun j hj=> ?_,?_,?_⟩
     . have:=hx j (by omega);have t:Ba.sumN n (fun i=>Q5 m A c j i*X i)=e*(if j<m then 0 else 1):=this;rw [AU hj,C8] at t
       rw [<-t];exact Ba.sum_congr fun i _=>by rw [lo j i hj]
     . have:=hx m (by omega);have t:Ba.sumN n (fun i=>Q5 m A c m i*X i)=e*(if m<m then 0 else 1):=this;rw [AR (by omega),N6] at t
       rw [<-t];exact Ba.sum_congr fun i _=>by rw [hi i]
     . have w:=nC (A:=A) (c:=c) h1 hn (by omega) hs;refine DV (ρ:= [some (.val (FI n m (tz A))),some (.val (frD n (fun i=>(c i,1)))),none]) rfl rfl ?_;unfold b_q33;refine C5 (BF (ds:= [FI n m (tz A),frD n (fun i=>(c i,1))]) rfl hq) ?_;show Wp _ [some (.val (FI n m (tz A))),some (.val (frD n (fun i=>(c i,1)))),some (.val .none)] _;exact JA (L5 rfl (CW (ZV (a:= .val (.str "never")) rfl (BF (ds:= [FI n m (tz A),frD n (fun i=>(c i,1))]) rfl w)) rfl))
 . right;refine ⟨X,e,e0,eb,xb,hx,?_⟩;refine DV (ρ:= [some (.val (FI n m (tz A))),some (.val (frD n (fun i=>(c i,1)))),none]) rfl rfl ?_;unfold b_q33;refine C5 (BF (ds:= [FI n m (tz A),frD n (fun i=>(c i,1))]) rfl hs) ?_;show Wp _ [some (.val (FI n m (tz A))),some (.val (frD n (fun i=>(c i,1)))),some (.own ((List.range m).map fun j=>DR (fr (X j) e)))] _;exact JY rfl (FW (CW (ZV (a:= .val (.str "found")) (b:= .val (.list ((List.range m).map fun j=>DR (fr (X j) e)))) rfl rfl) rfl))
def EM(p n:Nat)(w:List Nat):Prop:=w.length=n/\∀r ∈ w,r<p
theorem RM(c:Int){k p n:Nat}(hk:k<=99)(p2:2<=p)(p7:p<=7)(n6:n<=6):∃w:List Nat,P6 [.int c, .int k, .int p, .int n]=some (.val (AB w))/\EM p n w:=by
 have sl:=ED
 let C:Option Sl:=some (.val (.int c))
 let K1:Option Sl:=some (.val (.int k))
 let P2:Option Sl:=some (.val (.int p))
 let N3:Option Sl:=some (.val (.int n))
 have key:Wp b_q11 [C,K1,P2,N3,none,none,none,none,none] (fun o=>∃(w:List Nat) (ρ':En),o = .rt (.val (AB w)) ρ'/\EM p n w):=by
  unfold b_q11;refine C5 (r:= .val (.int (c.fdiv 2))) ((AH (op:=DN) rfl rfl).trans (MC (by decide) (by decide))) ?_;refine GC (P:=fun ρ=>∃(l:Int) (z5:Option Sl),ρ = [C,K1,P2,N3,some (.val (.int l)),z5,none,none,none]) ?_ ?_
  . refine OF (n:=k % 10*n) (fun _ ρ=>∃(l:Int) (z5:Option Sl),ρ = [C,K1,P2,N3,some (.val (.int l)),z5,none,none,none]) ?_ ⟨_,_,rfl⟩ ?_ (fun ρ h=>h)
    . refine J8 (j:=k % 10*n) (EC (a:= .val (.int ((k % 10*n:Nat):Int))) (as:= []) ((AH (op:=dRep) ((AH (op:=EH) (a:= .val (.int k)) (b:= .val (.int 10)) rfl rfl).trans (NR (by decide))) (b:= .val (.int n)) rfl).trans ((J7 (cmR (by omega) (by omega))).trans ?_)) rfl) ?_
      . rw [FL _ (by decide),KQ];rfl
      . have:k % 10*n<=9*6:=G7 (by omega) n6;omega
    . rintro j ρ hj ⟨l,z5,rfl⟩;exact ⟨_,rfl,K9 (r:= .val (.int (l.fdiv p))) ((AH (op:=DN) (a:= .val (.int l)) (b:= .val (.int p)) rfl rfl).trans (MC (by omega) (by omega))) ⟨_,_,rfl⟩⟩
  rintro ρ ⟨l,z5,rfl⟩;refine C5 PL ?_;refine GC (P:=fun ρ=>∃(w:List Nat) (l:Int) (z5 z7 z8:Option Sl),ρ = [C,K1,P2,N3,some (.val (.int l)),z5,some (.own (nl w)),z7,z8]/\w.length=n/\∀r ∈ w,r<p) ?_ ?_
  . refine OF (n:=n) (fun j ρ=>∃(w:List Nat) (l:Int) (z5 z7 z8:Option Sl),ρ = [C,K1,P2,N3,some (.val (.int l)),z5,some (.own (nl w)),z7,z8]/\w.length=j/\∀r ∈ w,r<p) (J8 (j:=n) rfl (by omega)) ⟨[],_,_,_,_,rfl,rfl,by simp⟩ ?_ (fun ρ h=>h);rintro j ρ hj ⟨w,l,z5,z7,z8,rfl,hw,hr⟩;refine ⟨_,rfl,?_⟩
    let J5:Option Sl:=some (.val (.int (j:Nat)))
    let WO:Option Sl:=some (.own (nl w))
    show Wp _ [C,K1,P2,N3,some (.val (.int l)),J5,WO,z7,z8] _;obtain ⟨x,ex⟩:=p9 (args:=(mCons (mVar 0) (mCons (mBin dAdd (mBin dRep (mK (.int 10)) (mPk 1)) (mPk 5)) mNil))) (ρ:= [C,K1,P2,N3,some (.val (.int l)),J5,WO,z7,z8]) (c:=c) (j:=10*(k:Int)+(j:Nat)) (AZ (a:= .val (.int c)) rfl (AZ (a:= .val (.int (10*(k:Int)+(j:Nat)))) (as:= []) ((AH (op:=dAdd) ((AH (op:=dRep) (a:= .val (.int 10)) (b:= .val (.int k)) rfl rfl).trans (J7 (cmL (by decide) (by decide)))) (b:= .val (.int (j:Nat))) rfl).trans rfl) rfl)) (by omega) (by omega);refine C5 ex ?_
    let X7:Option Sl:=some (.val (.int x))
    show Wp _ [C,K1,P2,N3,some (.val (.int l)),J5,WO,X7,z8] _;obtain ⟨y,ey,by1⟩:=IJ (fa:=mBin DN (mPk 7) (mK (.int 2))) (fb:=mPk 2) (ρ:= [C,K1,P2,N3,some (.val (.int l)),J5,WO,X7,z8]) (i:=(x:Int).fdiv 2) (m:=p) ((AH (op:=DN) (a:= .val (.int x)) (b:= .val (.int 2)) rfl rfl).trans (MC (by decide) (by decide))) rfl (by omega)
    obtain ⟨r8,e8,b8⟩:∃r8:Nat,(mBin dRep (mBin EH (mBin DN (mPk 7) (mK (.int 2))) (mPk 2)) (mCallP dInt (mConsP (mBin dGt (mBin dAdd (mBin EH (mPk 7) (mK (.int 2))) (mBin EH (mBin DN (mPk 0) (mK (.int 11))) (mK (.int 2)))) (mK (.int 0))) mNilP))) [C,K1,P2,N3,some (.val (.int l)),J5,WO,X7,z8]=some (.val (.int r8))/\r8<p:=by
     obtain ⟨a,ea,_⟩:=IJ (fa:=mPk 7) (fb:=mK (.int 2)) (ρ:= [C,K1,P2,N3,some (.val (.int l)),J5,WO,X7,z8]) (i:=x) rfl rfl (by decide);obtain ⟨b,eb,_⟩:=IJ (fa:=mBin DN (mPk 0) (mK (.int 11))) (fb:=mK (.int 2)) (ρ:= [C,K1,P2,N3,some (.val (.int l)),J5,WO,X7,z8]) (i:=c.fdiv 11) ((AH (op:=DN) (a:= .val (.int c)) (b:= .val (.int 11)) rfl rfl).trans (MC (by decide) (by decide))) rfl (by decide);have eg:(mCallP dInt (mConsP (mBin dGt (mBin dAdd (mBin EH (mPk 7) (mK (.int 2))) (mBin EH (mBin DN (mPk 0) (mK (.int 11))) (mK (.int 2)))) (mK (.int 0))) mNilP)) [C,K1,P2,N3,some (.val (.int l)),J5,WO,X7,z8]=some (.val (.int (if decide ((a:Int)+(b:Int)>0) then 1 else 0))):=D5 (ss:= [.val (.bool (decide ((a:Int)+(b:Int)>0)))]) (EC (as:= []) ((AH (op:=dGt) ((AH (op:=dAdd) ea eb).trans rfl) (b:= .val (.int 0)) rfl).trans rfl) rfl) rfl;generalize decide ((a:Int)+(b:Int)>0)=bb at eg
     cases bb
     . exact ⟨0,((AH (op:=dRep) ey eg).trans (J7 (cmR (by decide) (by decide)))).trans (by simp),by omega⟩
     . exact ⟨y,((AH (op:=dRep) ey eg).trans (J7 (cmR (by decide) (by decide)))).trans (by simp),by omega⟩
    refine C5 e8 ?_;refine GC (P:=fun ρ=>∃(r8:Nat) (l:Int),ρ = [C,K1,P2,N3,some (.val (.int l)),J5,WO,X7,some (.val (.int r8))]/\r8<p) ?_ ?_
    . obtain ⟨q,eq,_⟩:=IJ (fa:=mPk 0) (fb:=mK (.int 2)) (ρ:= [C,K1,P2,N3,some (.val (.int l)),J5,WO,X7,some (.val (.int r8))]) (i:=c) rfl rfl (by decide);refine UJ (NV eq rfl) ?_
      cases decide ((q:Int)=1)
      . exact MR ⟨r8,l,rfl,b8⟩
      . obtain ⟨t,et,bt⟩:=IJ (fa:=mPk 4) (fb:=mPk 2) (ρ:= [C,K1,P2,N3,some (.val (.int l)),J5,WO,X7,some (.val (.int r8))]) (i:=l) (m:=p) rfl rfl (by omega);exact C5 et (K9 (r:= .val (.int (l.fdiv p))) ((AH (op:=DN) (a:= .val (.int l)) (b:= .val (.int p)) rfl rfl).trans (MC (by omega) (by omega))) ⟨t,_,rfl,by omega⟩)
    . rintro ρ ⟨r8,l,rfl,b8⟩;refine FW (QE (SN (r:= .val (.int r8)) (ds:=nl w) rfl rfl (by rw [GZ];omega)) ⟨w ++ [r8],l,J5,X7,some (.val (.int r8)),?_,by simp [hw],?_⟩)
      . rw [WE];rfl
      . intro r hr';rcases CM.mp hr' with h | h
        . exact hr r h
        . cases AJ.mp h
          exact b8
  . rintro ρ ⟨w,l,z5,z7,z8,rfl,hw,hr⟩;exact CW (r:= .val (AB w)) rfl ⟨w,_,rfl,hw,hr⟩
 obtain ⟨o,h1,w,ρ',rfl,h2⟩:=key;exact ⟨w,IL (ρ:= [C,K1,P2,N3,none,none,none,none,none]) rfl rfl ⟨ρ',h1⟩,h2⟩
def enP(q:Nat×Nat):PyData:= .tuple [.int (q.1:Int), .int (q.2:Int)]
theorem MW:∀a b:List Nat,JK (nl a) (nl b)=(List.zip a b).map enP
 | [],_=>by simp [JK,nl]
 | _::_,[]=>by simp [JK,nl]
 | x::a,y::b=>by
  have:=MW a b;unfold JK nl at this ⊢
  simp only [BN,wJ,AE2,this];rfl
theorem cZ{a b:List Nat}{q:Nat×Nat}(h:q ∈ List.zip a b):q.1 ∈ a/\q.2 ∈ b:=AG9 h
theorem iN{p n:Nat}(p2:2<=p)(p7:p<=7)(n6:n<=6)(cs:List Int)(hc:cs.length<=900):∃W:List (List Nat),YV [.list (il cs), .int p, .int n]=some (.own (W.map AB))/\W.length=cs.length/\∀w ∈ W,EM p n w:=by
 have sl:=ED
 let CS:Option Sl:=some (.val (.list (il cs)))
 let P1:Option Sl:=some (.val (.int p))
 let N2:Option Sl:=some (.val (.int n))
 have key:Wp b_q12 [CS,P1,N2,none,none,none,none] (fun o=>∃(W:List (List Nat)) (ρ':En),o = .rt (.own (W.map AB)) ρ'/\W.length=cs.length/\∀w ∈ W,EM p n w):=by
  unfold b_q12;refine C5 PL ?_;refine GC (P:=fun ρ=>∃(W:List (List Nat)) (z4 z5 z6:Option Sl),ρ = [CS,P1,N2,some (.own (W.map AB)),z4,z5,z6]/\W.length=cs.length/\∀w ∈ W,EM p n w) ?_ ?_
  . refine JB (en:=PyData.int) (xs:=cs) (fun i ρ=>∃(W:List (List Nat)) (z4 z5 z6:Option Sl),ρ = [CS,P1,N2,some (.own (W.map AB)),z4,z5,z6]/\W.length=i/\∀w ∈ W,EM p n w) rfl ⟨[],_,_,_,rfl,rfl,by simp⟩ ?_ (fun ρ h=>h);rintro i c ρ hi ⟨W,z4,z5,z6,rfl,hW,hw⟩;obtain ⟨hil,_⟩:=AX.mp hi;refine ⟨_,rfl,?_⟩;obtain ⟨w,ew,ok⟩:=RM c (k:=1) (by decide) p2 p7 n6
    let C4:Option Sl:=some (.val (.int c))
    let WO:Option Sl:=some (.own (W.map AB))
    refine C5 (r:= .val (AB w)) (BF (ds:= [.int c, .int (1:Nat), .int p, .int n]) rfl ew) ?_;show Wp _ [CS,P1,N2,WO,C4,some (.val (AB w)),z6] _;refine GC (P:=fun ρ=>∃(w:List Nat) (z6:Option Sl),ρ = [CS,P1,N2,WO,C4,some (.val (AB w)),z6]/\EM p n w) ?_ ?_
    . let ρ0:En:= [CS,P1,N2,WO,C4,some (.val (AB w)),z6]
      obtain ⟨a,ea,_⟩:=IJ (fa:=mPk 4) (fb:=mK (.int 2)) (ρ:=ρ0) (i:=c) rfl rfl (by decide);obtain ⟨b,eb,_⟩:=IJ (fa:=mBin DN (mPk 4) (mK (.int 5))) (fb:=mK (.int 4)) (ρ:=ρ0) (i:=c.fdiv 5) ((AH (op:=DN) (a:= .val (.int c)) (b:= .val (.int 5)) rfl rfl).trans (MC (by decide) (by decide))) rfl (by decide)
      have eg:(mTest (mBin dGt (mCallP dLen (mConsP (mPk 3) mNilP)) (mK (.int 0)))) ρ0=some (decide (((W.length:Nat):Int)>0)):=by
       refine FY ((AH (op:=dGt) (a:= .val (.int ((W.length:Nat):Int))) (b:= .val (.int 0)) (D5 (ss:= [.own (W.map AB)]) rfl ?_) rfl).trans rfl);show some (Sl.val (.int ((W.map AB).length:Nat)))=_;rw [A4]
      refine UJ (jB (NV ea rfl) (jB eg (NV eb rfl))) ?_;generalize hb:(decide ((a:Int)=0) && (decide (((W.length:Nat):Int)>0) && decide ((b:Int)=0)))=bb
      cases bb
      . exact MR ⟨w,z6,rfl,ok⟩
      . have hpos : 0 < W.length := by
         simp only [FG,H9] at hb
         omega
        have g1:W[W.length - 1]? = some W[W.length - 1]:=AD (by omega);have g0:W[0]? = some W[0]:=AD hpos;have o1:=hw _ (B2 g1);have o0:=hw _ (B2 g0);generalize W[W.length - 1]=wl at g1 o1
        generalize W[0]=wf at g0 o0
        refine C5 (r:= .val (AB wl)) ((AH (op:=dix) (a:= .own (W.map AB)) (b:= .val (.int ((W.length - 1:Nat):Int))) rfl ?_).trans (J9 (.inl rfl) (by rw [B3,g1];rfl))) ?_
        . refine (AH (op:=dSub) (a:= .val (.int ((W.length:Nat):Int))) (b:= .val (.int 1)) (D5 (ss:= [.own (W.map AB)]) rfl ?_) rfl).trans ?_
          . show some (Sl.val (.int ((W.map AB).length:Nat)))=_;rw [A4]
          . show some (Sl.val (.int (((W.length:Nat):Int) - 1)))=_;rw [show ((W.length:Nat):Int) - 1=((W.length - 1:Nat):Int) by omega]
        . let ρ1:En:= [CS,P1,N2,WO,C4,some (.val (AB w)),some (.val (AB wl))]
          let el:Nat×Nat->Int:=fun q=>((q.1:Int)*(1+c.fmod p)+(q.2:Int)*((c.fdiv 7).fmod 2)).fmod p
          let nw:List Nat:=(List.zip wl wf).map fun q=>(el q).toNat
          have el0:∀q,0<=el q/\el q<p:=fun q=>⟨F8 _ (by omega),LR _ (by omega)⟩;have zl:(List.zip wl wf).length=n:=by rw [IT,o1.1,o0.1,wK]
          refine FW (K9 (r:= .val (AB nw)) (D5 (EC (a:= .own (nl nw)) (as:= []) (EY (ds:=(List.zip wl wf).map enP) ?_ ?_ ?_) rfl) rfl) ⟨nw,some (.val (AB wl)),rfl,by simp [nw,zl],?_⟩)
          . have ar:(mCons (mVar 6) (mCons (mBin dix (mPk 3) (mK (.int 0))) mNil)) ρ1=some [AB wl,AB wf]:=AZ (a:= .val (AB wl)) rfl (AZ (a:= .val (AB wf)) (as:= []) ((AH (op:=dix) (a:= .own (W.map AB)) (b:= .val (.int ((0:Nat):Int))) rfl rfl).trans (J9 (.inl rfl) (by rw [List.getElem?_map,g0];rfl))) rfl);show GQ (mCons (mVar 6) (mCons (mBin dix (mPk 3) (mK (.int 0))) mNil)) ρ1=_;unfold GQ;rw [ar];show some (JK (nl wl) (nl wf))=_;rw [MW]
          . rw [A4];omega
          . refine (CG (en:=enP) (g:=fun q=> .int (((el q).toNat:Nat):Int)) (xs:=List.zip wl wf) fun q hq=> ?_).trans (by simp [nl,nw]);have zm:=cZ hq;have b1:=o1.2 _ zm.1;have b2:=o0.2 _ zm.2;rw [IE (el0 q).1];have f2a:=F8 (c.fdiv 7) (show (0:Int)<2 by decide);exact HD (fg:=gTupD [gVar 2,gVar 3]) (ρ0:= [C4,P1,none,none]) (d:=enP q) (ρ1:= [C4,P1,some (.val (.int (q.1:Nat))),some (.val (.int (q.2:Nat)))]) (r:= .val (.int (el q))) rfl ((AH (op:=EH) ((AH (op:=dAdd) ((AH (op:=dRep) (a:= .val (.int (q.1:Nat))) rfl ((AH (op:=dAdd) (a:= .val (.int 1)) rfl ((AH (op:=EH) (a:= .val (.int c)) (b:= .val (.int p)) rfl rfl).trans (NR (by omega)))).trans rfl)).trans (J7 (cmL (by omega) (by omega)))) ((AH (op:=dRep) (a:= .val (.int (q.2:Nat))) rfl ((AH (op:=EH) ((AH (op:=DN) (a:= .val (.int c)) (b:= .val (.int 7)) rfl rfl).trans (MC (by decide) (by decide))) (b:= .val (.int 2)) rfl).trans (NR (by decide)))).trans (J7 (cmL (by omega) (by omega))))).trans rfl) (b:= .val (.int p)) rfl).trans (NR (by omega)))
          . intro r hr;obtain ⟨q,_,rfl⟩:=BK.mp hr;have:=el0 q;show (el q).toNat<p;omega
    . rintro ρ ⟨w,z6,rfl,ok⟩;refine FW (QE (SN (r:= .val (AB w)) (ds:=W.map AB) rfl rfl (by rw [A4];omega)) ⟨W ++ [w],C4,some (.val (AB w)),z6,?_,by simp [hW],?_⟩)
      . rw [D0];rfl
      . intro v hv;rcases CM.mp hv with h | h
        . exact hw v h
        . cases AJ.mp h
          exact ok
  . rintro ρ ⟨W,z4,z5,z6,rfl,hW,hw⟩;exact CW rfl ⟨W,_,rfl,hW,hw⟩
 obtain ⟨o,h1,W,ρ',rfl,h2⟩:=key;exact ⟨W,IL (ρ:= [CS,P1,N2,none,none,none,none]) rfl rfl ⟨ρ',h1⟩,h2⟩
def FS(w x:List Nat):Nat:=((List.zip w x).map fun q=>q.1*q.2).sum
theorem pA(l:List Nat):(l.map fun n:Nat=>(n:Int)).sum=((l.sum:Nat):Int):=by
 induction l with
 | nil=>rfl
 | cons a l ih=>simp only [BN,pT,ih,fW]
theorem YM {p : Nat} (hp : 0 < p) {w x : List Nat} (hw : w.length <= 900) (hx : ∀ r ∈ w, r <= 1000) {ρ : En} (h0 : (ρ[0]?).join = some (.val (.int p))) (h1 : (ρ[1]?).join = some (.val (AB w))) (h2 : (ρ[2]?).join = some (.val (AB x))) :
 (mBin EH (mCallP dSum (mConsP (mLC (CP [none,none]) (GQ (mCons (mVar 1) (mCons (mVar 2) mNil))) (gTupD [(gVar 0),(gVar 1)]) mYes (mBin dRep (mPk 0) (mPk 1))) mNilP)) (mPk 0)) ρ=some (.val (.int ((FS w x % p:Nat):Int))):=by
 have sl:=ED;have v1:mVar 1 ρ=some (.val (AB w)):=by unfold mVar;rw [h1]
 have v2:mVar 2 ρ=some (.val (AB x)):=by unfold mVar;rw [h2]
 have zi:GQ (mCons (mVar 1) (mCons (mVar 2) mNil)) ρ=some ((List.zip w x).map enP):=by
  unfold GQ;rw [AZ v1 (AZ v2 (show mNil ρ=some [] from rfl))];show some (JK (nl w) (nl x))=_;rw [MW]
 have zl:((List.zip w x).map enP).length<sizeLine:=by
  rw [A4,IT];omega
 have sm:(mCallP dSum (mConsP (mLC (CP [none,none]) (GQ (mCons (mVar 1) (mCons (mVar 2) mNil))) (gTupD [(gVar 0),(gVar 1)]) mYes (mBin dRep (mPk 0) (mPk 1))) mNilP)) ρ=some (.val (.int ((FS w x:Nat):Int))):=by
  refine D5 (EC (a:= .own (nl ((List.zip w x).map fun q=>q.1*q.2))) (as:= []) (EY zi zl ?_) rfl) ?_
  . refine (CG (en:=enP) (g:=fun q=> .int ((q.1*q.2:Nat):Int)) (xs:=List.zip w x) fun q hq=> ?_).trans (by simp [nl]);have b1:=hx _ (cZ hq).1;refine HD (fg:=gTupD [gVar 0,gVar 1]) (ρ0:= [none,none]) (d:=enP q) (ρ1:= [some (.val (.int (q.1:Nat))),some (.val (.int (q.2:Nat)))]) (r:= .val (.int ((q.1*q.2:Nat):Int))) rfl ((AH (op:=dRep) (a:= .val (.int (q.1:Nat))) (b:= .val (.int (q.2:Nat))) rfl rfl).trans ((J7 (cmL (by omega) (by omega))).trans (by rw [KQ])))
  . have e:nl ((List.zip w x).map fun q=>q.1*q.2)=il (((List.zip w x).map fun q=>q.1*q.2).map fun n:Nat=>(n:Int)):=by simp [nl,il]
    show (HW (nl _)).map _=_;rw [e,iA,F2,pA];rfl
 have v0:mPk 0 ρ=some (.val (.int p)):=h0;refine (AH (op:=EH) sm v0).trans ((NR (by omega)).trans ?_);rw [FL _ (by omega)];rfl
theorem XJ{p:Nat}(hp:0<p){w x:List Nat}(hw:w.length<=900)(hx:∀r ∈ w,r<=1000):SZ [.int p,AB w,AB x]=some (.val (.int ((FS w x % p:Nat):Int))):=by
 refine DV (ρ:= [some (.val (.int p)),some (.val (AB w)),some (.val (AB x))]) rfl rfl ?_;unfold b_q18;exact CW (YM hp hw hx rfl rfl rfl) rfl
theorem fX{p:Nat}(hp:0<p){w x:List Nat}(hw:w.length<=900)(hx:∀r ∈ w,r<=1000):iK [.int p,AB w,AB x]=some (.val (.int ((FS w x % p:Nat):Int))):=by
 refine DV (ρ:= [some (.val (.int p)),some (.val (AB w)),some (.val (AB x))]) rfl rfl ?_;unfold b_q5;exact CW (YM hp hw hx rfl rfl rfl) rfl
abbrev Rule:=List Nat×Nat
def LH(q:Rule):PyData:= .tuple [AB q.1, .int (q.2:Int)]
def eZ(p:Nat)(R:List Rule)(x:List Nat):Bool:=R.all fun q=>decide (FS q.1 x % p=q.2)
theorem gP{α:Type}(xs:List α)(b:α->Bool):dAll [.own (xs.map fun x=>PyData.bool (b x))]=some (.val (.bool (xs.all b))):=by
 have:∀xs:List α,KY (xs.map fun x=>PyData.bool (b x))=some (xs.map b):=by
  intro xs
  induction xs with
  | nil=>rfl
  | cons x xs ih=>rw [BN,KY,ih];rfl
 show (KY (xs.map fun x=>PyData.bool (b x))).map _=_;rw [this,F2];congr 3
 simp [List.all_map]
def A04(p n:Nat)(q:Rule):Prop:=EM p n q.1
theorem ZT {F : List PyData -> Option Sl} {p n : Nat} {R : List Rule} {x : List Nat} {ρ0 : En} (hp : 2 <= p) (p7 : p <= 7) (n6 : n <= 6) (hR : ∀ q ∈ R, A04 p n q) (hF : ∀ w, EM p n w -> F [.int p, AB w, AB x] = some (.val (.int ((FS w x % p : Nat) : Int))))
 (e0:ρ0 = [some (.val (.int p)),some (.val (AB x)),none,none]) :
 MA (elM (gTupD [(gVar 2),(gVar 3)]) mYes (mBin deq (mCall F (mCons (mVar 0) (mCons (mVar 2) (mCons (mVar 1) mNil)))) (mPk 3)) ρ0) (R.map LH)=some (R.map fun q=> .bool (decide (FS q.1 x % p=q.2))):=by
 subst e0;refine CG fun q hq=> ?_;refine HD (fg:=gTupD [gVar 2,gVar 3]) (ρ0:= [some (.val (.int p)),some (.val (AB x)),none,none]) (d:=LH q) (ρ1:= [some (.val (.int p)),some (.val (AB x)),some (.val (AB q.1)),some (.val (.int (q.2:Nat)))]) (r:= .val (.bool (decide (FS q.1 x % p=q.2)))) rfl ?_;refine (AH (op:=deq) (BF (ds:= [.int p,AB q.1,AB x]) rfl (hF q.1 (hR q hq))) (b:= .val (.int (q.2:Nat))) rfl).trans ((rA _ _).trans ?_);congr 3
 exact IA.mpr (by omega)
theorem gR{p n:Nat}{R:List Rule}(hp:2<=p)(p7:p<=7)(n6:n<=6)(hR:∀q ∈ R,A04 p n q)(hl:R.length<=900)(x:List Nat):Y6 [.int p, .list (R.map LH),AB x]=some (.val (.bool (eZ p R x))):=by
 have sl:=ED;refine DV (ρ:= [some (.val (.int p)),some (.val (.list (R.map LH))),some (.val (AB x))]) rfl rfl ?_;unfold b_q26;refine CW (D5 (EC (as:= []) (EY (ds:=R.map LH) rfl (by rw [List.length_map];omega) (ZT (F:=SZ) hp p7 n6 hR (fun w hw=>XJ (by omega) (by rw [hw.1];omega) fun r hr=>by have:=hw.2 r hr;omega) rfl)) rfl) (gP _ _)) rfl
theorem nZ(p n:Nat):(List.replicate n [PyData.int (p:Int)]).flatten=nl (List.replicate n p):=by
 induction n with
 | zero=>rfl
 | succ n ih=>rw [C6,EI,ih,C6];rfl
theorem YC(p n:Nat):Tr.prodN (List.replicate n p)=p ^ n:=by
 induction n with
 | zero=>rfl
 | succ n ih=>rw [C6,Tr.prodN,ih,WX,G1]
theorem qO{p n:Nat}{R:List Rule}(hp:2<=p)(p7:p<=7)(n6:n<=6)(hpn:p ^ n<=125)(hR:∀q ∈ R,A04 p n q)(hl:R.length<=900):Y4 [.int p, .int n, .list (R.map LH)]=some (.own (((Tr.allT (List.replicate n p)).filter (eZ p R)).map AB)):=by
 have sl:=ED
 let P0:Option Sl:=some (.val (.int p))
 let RV:Option Sl:=some (.val (.list (R.map LH)))
 refine DV (ρ:= [P0,some (.val (.int n)),RV]) rfl rfl ?_;unfold b_cut
 have all:(mCall QF (mCons (mBin dRep (mLst (mCons (mVar 0) mNil)) (mPk 1)) mNil)) [P0,some (.val (.int n)),RV]=some (.own ((Tr.allT (List.replicate n p)).map AB)):=by
  refine BF (ds:= [.list (nl (List.replicate n p))]) (AZ (a:= .own (nl (List.replicate n p))) (as:= []) ((AH (op:=dRep) (TW (a:= .val (.int p)) rfl) (b:= .val (.int n)) rfl).trans ((tS (by show 1*n<=_;omega) (by omega)).trans ?_)) rfl) (dE (fun c hc=> ?_) (by simp;omega) (by rw [YC];omega))
  . rw [<-nZ];rfl
  . have:=(LS.mp hc).2;omega
 have al:(Tr.allT (List.replicate n p)).length<=900:=by
  simp [Tr.allT,YC];omega
 refine CW (EY (ds:=(Tr.allT (List.replicate n p)).map AB) ?_ (by rw [A4];omega) ?_) rfl
 . unfold EN;rw [all];rfl
 . exact O1 fun x _=>w5 (fg:=gVar 2) (ρ0:= [P0,RV,none]) (d:=AB x) (ρ1:= [P0,RV,some (.val (AB x))]) (r:= .val (AB x)) rfl (FY (BF (ds:= [.int p, .list (R.map LH),AB x]) rfl (gR hp p7 n6 hR hl x))) rfl
theorem AA8(a:PyData):∀n:Nat,(List.replicate n [a]).flatten=List.replicate n a
 | 0=>rfl
 | n+1=>by rw [C6,EI,AA8 a n,C6];rfl
theorem ZD{n:Nat}(r:Nat)(h1:1<=n)(h2:n<=900):dRepT (.val (.tuple [.int (r:Int)])) (.val (.int (n:Int)))=some (.val (AB (List.replicate n r))):=by
 show (if [PyData.int (r:Int)] ≠ []/\1<=(n:Int)/\(n:Int)<=1000 /\ [PyData.int (r:Int)].length*(n:Int).toNat<=1000 then some (Sl.val (.tuple (List.replicate (n:Int).toNat [PyData.int (r:Int)]).flatten)) else none)=_;rw [if_pos ⟨by simp,by omega,by omega,by simp;omega⟩,Int.toNat_natCast,AA8];unfold AB nl;rw [List.map_replicate]
theorem ZU{n:Nat}(h1:1<=n)(h2:n<=900):YQ [.int (n:Int)]=some (.val (AB (Sp.zero n))):=by
 refine DV (ρ:= [some (.val (.int n))]) rfl rfl ?_;unfold b_q30;exact CW ((AH (op:=dRepT) (zS (a:= .val (.int 0)) rfl) (b:= .val (.int n)) rfl).trans (ZD 0 h1 h2)) rfl
theorem eR(p f:Nat):∀u w:List Nat,Sp.put p u f w=(List.zip u w).map fun q=>(q.1+f*q.2) % p
 | [],_=>by simp [Sp.put]
 | _::_,[]=>by simp [Sp.put]
 | a::u,b::w=>by
  have:=eR p f u w;unfold Sp.put at this ⊢
  rw [wJ,AE2,BN,this]
theorem Y8 {p f : Nat} (hp : 0 < p) (p7 : p <= 7) (hf : f <= 7) {u w : List Nat} (hu : u.length <= 900) {jf jp ju jw : Nat} {ρ : En} (hs : CP [some jf, some jp, none, none] ρ = [some (.val (.int (f : Int))), some (.val (.int (p : Int))), none, none]) (h1 : (ρ[ju]?).join = some (.val (AB u))) (h2 : (ρ[jw]?).join = some (.val (AB w))) :
 (mCallP dTuple (mConsP (mLC (CP [some jf,some jp,none,none]) (GQ (mCons (mVar ju) (mCons (mVar jw) mNil))) (gTupD [(gVar 2),(gVar 3)]) mYes (mBin EH (mBin dAdd (mPk 2) (mBin dRep (mPk 0) (mPk 3))) (mPk 1))) mNilP)) ρ=some (.val (AB (Sp.put p u f w))):=by
 have sl:=ED;have v1:mVar ju ρ=some (.val (AB u)):=by unfold mVar;rw [h1]
 have v2:mVar jw ρ=some (.val (AB w)):=by unfold mVar;rw [h2]
 have zi:GQ (mCons (mVar ju) (mCons (mVar jw) mNil)) ρ=some ((List.zip u w).map enP):=by
  unfold GQ;rw [AZ v1 (AZ v2 (show mNil ρ=some [] from rfl))];show some (JK (nl u) (nl w))=_;rw [MW]
 have zl:((List.zip u w).map enP).length<sizeLine:=by
  rw [A4,IT];omega
 refine D5 (EC (a:= .own (nl (Sp.put p u f w))) (as:= []) (EY zi zl ?_) rfl) rfl;rw [hs,eR];refine (CG (en:=enP) (g:=fun q=> .int (((q.1+f*q.2) % p:Nat):Int)) (xs:=List.zip u w) fun q hq=> ?_).trans (by simp [nl]);refine HD (fg:=gTupD [gVar 2,gVar 3]) (ρ0:= [some (.val (.int (f:Int))),some (.val (.int (p:Int))),none,none]) (d:=enP q) (ρ1:= [some (.val (.int (f:Int))),some (.val (.int (p:Int))),some (.val (.int (q.1:Nat))),some (.val (.int (q.2:Nat)))]) (r:= .val (.int (((q.1+f*q.2) % p:Nat):Int))) rfl ?_;refine (AH (op:=EH) ((AH (op:=dAdd) (a:= .val (.int (q.1:Nat))) rfl ((AH (op:=dRep) (a:= .val (.int (f:Nat))) (b:= .val (.int (q.2:Nat))) rfl rfl).trans (J7 (cmL (by omega) (by omega))))).trans (show _=some (Sl.val (.int ((q.1:Int)+(f:Int)*(q.2:Int)))) from rfl)) (b:= .val (.int (p:Nat))) rfl).trans ((NR (by omega)).trans ?_);rw [FL _ (by omega), <-KQ, <-fW];rfl
theorem sU{p f:Nat}(hp:0<p)(p7:p<=7)(hf:f<=7){u w:List Nat}(hu:u.length<=900):Z4 [.int (p:Int),AB u, .int (f:Int),AB w]=some (.val (AB (Sp.put p u f w))):=by
 refine DV (ρ:= [some (.val (.int p)),some (.val (AB u)),some (.val (.int f)),some (.val (AB w))]) rfl rfl ?_;unfold b_q28;exact CW (Y8 (jf:=2) (jp:=0) (ju:=1) (jw:=3) hp p7 hf hu rfl rfl rfl) rfl
theorem SD(p:Nat)(F:List Nat)(f:Nat)(M:List (List Nat))(w:List Nat):Sp.mults p (F ++ [f]) M w=Sp.mults p F M w++M.map fun u=>Sp.put p u f w:=by
 unfold Sp.mults;rw [List.flatMap_append];simp
theorem V3(p:Nat)(F:List Nat)(M:List (List Nat))(w:List Nat):(Sp.mults p F M w).length=F.length*M.length:=by
 induction F with
 | nil=>simp [Sp.mults]
 | cons f F ih=>
  unfold Sp.mults at ih ⊢
  rw [NC,AO,ih,A4,B9,G0,LJ]
theorem ZH{p:Nat}(hp:0<p)(p7:p<=7){M:List (List Nat)}{F w:List Nat}(hM:∀u ∈ M,u.length<=900)(hF:∀f ∈ F,f<=7)(hl:M.length<=125)(hl2:F.length<=7):S5 [.int (p:Int), .list (M.map AB), .list (nl F),AB w]=some (.own ((Sp.mults p F M w).map AB)):=by
 have sl:=ED
 let P0:Option Sl:=some (.val (.int p))
 let MV:Option Sl:=some (.val (.list (M.map AB)))
 let FV:Option Sl:=some (.val (.list (nl F)))
 let WV:Option Sl:=some (.val (AB w))
 refine DV (ρ:= [P0,MV,FV,WV,none,none]) rfl rfl ?_;unfold b_q29;refine C5 PL ?_;refine GC (P:=fun ρ=>∃z,ρ = [P0,MV,FV,WV,some (.own ((Sp.mults p F M w).map AB)),z]) ?_ (by rintro ρ ⟨z,rfl⟩;exact CW rfl rfl);refine JB (en:=enN) (xs:=F) (fun k ρ=>∃z,ρ = [P0,MV,FV,WV,some (.own ((Sp.mults p (F.take k) M w).map AB)),z]) rfl ⟨_,rfl⟩ ?_ ?_
 . rintro k f ρ hk ⟨z,rfl⟩;have tk:F.take (k+1)=F.take k ++ [f]:=by rw [HA,hk];rfl
   have hkl:=(AX.mp hk).1;refine ⟨_,rfl,?_⟩;refine QE (nS (ds:=(Sp.mults p (F.take k) M w).map AB) (es:=(M.map fun u=>Sp.put p u f w).map AB) (EY (ds:=M.map AB) rfl (by rw [A4];omega) ?_) rfl ?_) ⟨some (.val (.int (f:Nat))),?_⟩
   . refine (CG (g:=fun u=>AB (Sp.put p u f w)) fun u hu=> ?_).trans (by rw [E1];rfl);exact HD (fg:=gVar 3) (ρ0:= [P0,some (.val (.int (f:Nat))),WV,none]) (d:=AB u) (r:= .val (AB (Sp.put p u f w))) rfl (BF (ds:= [.int (p:Int),AB u, .int (f:Int),AB w]) rfl (sU hp p7 (hF f (B2 hk)) (hM u hu)))
   . rw [A4,V3,A4,A4,FF];have h1:min k F.length*M.length<=7*125:=G7 (by omega) hl;omega
   . rw [tk,SD,D0];rfl
 . rintro ρ ⟨z,rfl⟩;rw [CI (A8 _)];exact ⟨z,rfl⟩
def lv1(L:List Nat)(t:Nat):Nat:=L.getD t 0 - 1
theorem lF:∀a b:List Nat,PyData.eqvAll (nl a) (nl b)=decide (a=b)
 | [],[]=>by simp [nl,PyData.eqvAll]
 | [],_::_=>by simp [nl,PyData.eqvAll]
 | _::_,[]=>by simp [nl,PyData.eqvAll]
 | x::a,y::b=>by
  have:=lF a b;simp only [nl] at this
  simp only [nl,BN,PyData.eqvAll,this,PyData.eqv]
  by_cases h:x=y
  . subst h;simp
  . have:¬((x:Int)=(y:Int)):=by omega
    simp [h,this]
theorem VC(a b:List Nat):PyData.eqv (AB a) (AB b)=decide (a=b):=by
 unfold AB;simp only [PyData.eqv];exact lF a b
theorem MG(l:List Nat):(AB l).canLay0=true:=XY (en:=fun n:Nat=>PyData.int (n:Int)) (fun _=>rfl) l
theorem QT(l:List Nat):(AB l).depth<=3:=by
 have:=YW (en:=fun n:Nat=>PyData.int (n:Int)) (k:=1) (fun x=>by simp [PyData.depth]) l;simp only [AB,PyData.depth,nl];omega
theorem UO(e:List Nat)(M:List (List Nat)):inD true (AB e) (M.map AB)=some (.val (.bool (decide (e ∉ M)))):=by
 have dt:=QT e;unfold inD;rw [if_pos ⟨MG e,by simp [MG],by omega⟩];congr 3
 simp only [FP,List.any_map]
 have:(M.any ((fun d=>PyData.eqv d (AB e)) ∘ AB))=decide (e ∈ M):=by
  induction M with
  | nil=>simp
  | cons m M ih=>
   rw [U9,ih];show (PyData.eqv (AB m) (AB e) || _)=_;rw [VC]
   by_cases h:m=e
   . subst h;simp
   . have h':e≠m:=fun z=>h z.symm;simp [h,h']
 rw [this];simp
def Y5(L:List Nat)(most:Nat)(e:List Nat):Prop:=e.Pairwise (· < ·)/\(∀t ∈ e,t<L.length)/\Tr.prodN (e.map (lv1 L))<=most
theorem zW{L:List Nat}{t:Nat}(h:t<L.length):(nl L)[t]? = some (.int ((lv1 L t+1:Nat):Int))\/L.getD t 0=0:=by
 by_cases h0:L.getD t 0=0
 . exact .inr h0
 . left;unfold nl;rw [List.getElem?_map,List.getElem?_eq_getElem h];have e:L.getD t 0=L[t]:=by simp [List.getD,List.getElem?_eq_getElem h]
   rw [e] at h0
   have:lv1 L t+1=L[t]:=by unfold lv1;rw [e];omega
   rw [this];rfl
theorem eD{L:List Nat}(hL:∀s ∈ L,2<=s/\s<=7){t:Nat}(h:t<L.length):(nl L)[t]? = some (.int ((lv1 L t+1:Nat):Int))/\1<=lv1 L t/\lv1 L t<=6:=by
 have e:L.getD t 0=L[t]:=by simp [List.getD,AD h]
 have hs:=hL L[t] (List.getElem_mem h);refine ⟨?_,by unfold lv1;rw [e];omega,by unfold lv1;rw [e];omega⟩;rcases zW h with h1 | h1
 . exact h1
 . rw [e] at h1
   omega
theorem xF(l:List Int)(lo hi:Option Int):IC (il l) lo hi=il (IC l lo hi):=by
 unfold IC il;rw [List.length_map, <-List.map_drop, <-List.map_take]
theorem cB(l:List Int)(lo hi:Option Int):(IC l lo hi).length<=l.length:=by
 unfold IC;rw [List.length_take,List.length_drop];omega
def cN(w:List Nat):List Int:=w.map fun n:Nat=>(n:Int)
def uN(w:List Int):List Nat:=w.map Int.toNat
theorem mO(w:List Nat):uN (cN w)=w:=by
 unfold uN cN;rw [List.map_map];exact (List.map_congr_left fun x _=>Int.toNat_natCast x).trans (List.map_id _)
theorem cV(w:List Nat):AB w=tI (cN w):=by
 unfold AB tI nl cN;rw [List.map_map];rfl
def KA(M:List (List Nat)):List (List Nat):=(RL (M.map cN)).map uN
theorem sI(M:List (List Nat)):(KA M).map cN=RL (M.map cN):=by
 unfold KA;rw [List.map_map];refine (List.map_congr_left fun x hx=> ?_).trans (List.map_id _);obtain ⟨w,_,rfl⟩:=List.mem_map.mp ((ML _).mem_iff.mp hx);show cN (uN (cN w))=cN w;rw [mO]
theorem IH(M:List (List Nat)):(KA M).Perm M:=by
 have:=(ML (M.map cN)).map uN;rw [E1] at this
 refine this.trans (List.Perm.of_eq ?_);exact (C7 fun x _=>mO x).trans (A60 _)
theorem VR{M:List (List Nat)}(hM:∀w ∈ M,w ≠ [])(hl:M.length<64){s:Sl}(hs:s.dat = .list (M.map AB)):dSortT [s]=some (.own ((KA M).map AB)):=by
 have e1:M.map AB=(M.map cN).map tI:=by rw [E1];exact C7 fun w _=>cV w
 have e2:(KA M).map AB=(RL (M.map cN)).map tI:=by
  rw [<-sI,E1];exact C7 fun w _=>cV w
 unfold dSortT
 dsimp only
 rw [hs,e1];show ((NU ((M.map cN).map tI)).bind fun nss=>if nss.length<64 then some (Sl.own ((RL nss).map tI)) else none)=_;rw [SL fun ns hn=> ?_,BV,A4,AU hl,e2];obtain ⟨w,hw,rfl⟩:=BK.mp hn;intro e;exact hM w hw (by have:=GM uN e;rwa [mO] at this)
abbrev Pr (p:Nat):Prop:=p=2\/p=3\/p=5\/p=7
theorem kC{p n:Nat}{w:List Nat}(h:Sp.Ok p n w)(n1:1<=n):w ≠ []:=fun e=>by
 have:=h.1;rw [e] at this
 simp at this
 omega
theorem gZ(p n:Nat)(W:List (List Nat))(w:List Nat):Sp.spanM p n (W ++ [w])=Sp.stepM p (Sp.spanM p n W) w:=by
 unfold Sp.spanM;rw [List.foldl_append];rfl
theorem aS(p n:Nat)(W:List (List Nat))(w:List Nat):Sp.spanT p n (W ++ [w])=Sp.stepT p (Sp.spanT p n W) w:=by
 unfold Sp.spanT;rw [List.foldl_append];rfl
theorem lL{p n:Nat}(hq:Pr p)(n1:1<=n)(n6:n<=6)(hpn:p ^ n<=63){W:List (List Nat)}(hW:∀w ∈ W,EM p n w):ZE [.int (p:Int), .int (n:Int), .list (W.map AB)]=some (.own ((KA (Sp.spanM p n W)).map AB)):=by
 have sl:=ED;have hp:0<p:=by omega
 have p7:p<=7:=by omega
 let P0:Option Sl:=some (.val (.int p))
 let N1:Option Sl:=some (.val (.int n))
 let WV:Option Sl:=some (.val (.list (W.map AB)))
 refine DV (ρ:= [P0,N1,WV,none,none]) rfl rfl ?_;unfold b_q34;refine C5 (r:= .own [AB (Sp.zero n)]) (TW (a:= .val (AB (Sp.zero n))) (BF (ds:= [.int (n:Int)]) rfl (ZU n1 (by omega)))) ?_
 have facts:∀k,Sp.Cl p n (Sp.spanM p n (W.take k))/\(Sp.spanM p n (W.take k)).Nodup/\(Sp.spanM p n (W.take k)).length<=63:=fun k=>by
  obtain ⟨a,b,_,_⟩:=Sp.span_take (n:=n) hq (W:=W.take k) fun w hw=>hW w (HM hw);exact ⟨a,b,AY (Sp.len_le b a.ok) hpn⟩
 refine GC (P:=fun ρ=>∃z,ρ = [P0,N1,WV,some (.own ((Sp.spanM p n W).map AB)),z]) ?_ ?_
 . refine JB (en:=AB) (xs:=W) (fun k ρ=>∃z,ρ = [P0,N1,WV,some (.own ((Sp.spanM p n (W.take k)).map AB)),z]) rfl ⟨_,rfl⟩ ?_ ?_
   . rintro k w ρ hk ⟨z,rfl⟩;have tk:W.take (k+1)=W.take k ++ [w]:=by rw [HA,hk];rfl
     obtain ⟨f1,f2,f3⟩:=facts k;rw [tk,gZ];generalize Sp.spanM p n (W.take k)=M at f1 f2 f3
     have tn:(mTest (mBin (IG true) (mPk 4) (mPk 3))) [P0,N1,WV,some (.own (M.map AB)),some (.val (AB w))]=some (decide (w ∉ M)):=FY ((AH (op:=IG true) (a:= .val (AB w)) (b:= .own (M.map AB)) rfl rfl).trans (UO w M));refine ⟨_,rfl,?_⟩
     by_cases hin:w ∈ M
     . refine lU (tn.trans (by rw [decide_eq_false (by simpa using hin)])) (MR ⟨some (.val (AB w)),?_⟩);have e:Sp.stepM p M w=M:=by unfold Sp.stepM;rw [if_pos hin]
       rw [e];rfl
     . refine L5 (tn.trans (by rw [decide_eq_true hin])) (FW (K9 (r:= .own ((Sp.stepM p M w).map AB)) ?_ ⟨some (.val (AB w)),rfl⟩));have e:Sp.stepM p M w=Sp.mults p (List.range p) M w:=by unfold Sp.stepM;rw [if_neg hin]
       rw [e]
       have lr:mLR (mPk 0) [P0,N1,WV,some (.val (.list (M.map AB))),some (.val (AB w))]=some (.own (nl (List.range p))):=by
        unfold mLR;show (if 0<=((p:Nat):Int)/\((p:Nat):Int)<=1000 then _ else _)=_;rw [if_pos ⟨by omega,by omega⟩,Int.toNat_natCast];rfl
       exact BF (ds:= [.int (p:Int), .list (M.map AB), .list (nl (List.range p)),AB w]) (AZ (a:= .val (.int p)) rfl (AZ (a:= .val (.list (M.map AB))) rfl (AZ lr (AZ (a:= .val (AB w)) (as:= []) rfl rfl)))) (ZH hp p7 (fun u hu=>by rw [(f1.ok u hu).1];omega) (fun f hf=>by have:=BC.mp hf;omega) (AY f3 (by decide)) (by rw [AI];exact p7))
   . rintro ρ ⟨z,rfl⟩;rw [CI (A8 _)];exact ⟨z,rfl⟩
 . rintro ρ ⟨z,rfl⟩;obtain ⟨f1,f2,f3⟩:=facts W.length;rw [CI (A8 _)] at f1 f2 f3
   exact CW (D5 (ss:= [.own ((Sp.spanM p n W).map AB)]) rfl (VR (fun w hw=>kC (f1.ok w hw) n1) (by omega) rfl)) rfl
theorem iU{p n:Nat}(hq:Pr p)(n1:1<=n)(n6:n<=6)(hpn:p ^ n<=63){W:List (List Nat)}(hW:∀w ∈ W,EM p n w):lC [.int (p:Int), .int (n:Int), .list (W.map AB)]=some (.own ((KA (Sp.spanT p n W)).map AB)):=by
 have sl:=ED;have hp:0<p:=by omega
 have p7:p<=7:=by omega
 let P0:Option Sl:=some (.val (.int p))
 let N1:Option Sl:=some (.val (.int n))
 let WV:Option Sl:=some (.val (.list (W.map AB)))
 refine DV (ρ:= [P0,N1,WV,none,none,none,none,none,none]) rfl rfl ?_;unfold b_q9;refine C5 (r:= .own [AB (Sp.zero n)]) (TW (a:= .val (AB (Sp.zero n))) ((AH (op:=dRepT) (zS (a:= .val (.int 0)) rfl) (b:= .val (.int n)) rfl).trans (ZD 0 n1 (by omega)))) ?_
 have facts:∀k,(∀u ∈ Sp.spanT p n (W.take k),Sp.Ok p n u)/\(Sp.spanT p n (W.take k)).Nodup/\(Sp.spanT p n (W.take k)).length<=63:=fun k=>by
  obtain ⟨a,_,b,c⟩:=Sp.span_take (n:=n) hq (W:=W.take k) fun w hw=>hW w (HM hw);have ok:∀u ∈ Sp.spanT p n (W.take k),Sp.Ok p n u:=fun u hu=>a.ok u ((c u).mpr hu);exact ⟨ok,b,AY (Sp.len_le b ok) hpn⟩
 refine GC (P:=fun ρ=>∃(s3:Sl) (z4 z5 z6 z7 z8:Option Sl),s3.dat = .list ((Sp.spanT p n W).map AB)/\ρ = [P0,N1,WV,some s3,z4,z5,z6,z7,z8]) ?_ ?_
 . refine JB (en:=AB) (xs:=W) (fun k ρ=>∃(s3:Sl) (z4 z5 z6 z7 z8:Option Sl),(s3 = .own ((Sp.spanT p n (W.take k)).map AB)\/s3 = .val (.list ((Sp.spanT p n (W.take k)).map AB)))/\ρ = [P0,N1,WV,some s3,z4,z5,z6,z7,z8]) rfl ⟨_,_,_,_,_,_, .inl rfl,rfl⟩ ?_ ?_
   . rintro k w ρ hk ⟨s3,z4,z5,z6,z7,z8,hs3,rfl⟩;have tk:W.take (k+1)=W.take k ++ [w]:=by rw [HA,hk];rfl
     have okw:Sp.Ok p n w:=hW w (B2 hk);obtain ⟨f1,f2,f3⟩:=facts k;rw [tk,aS];generalize Sp.spanT p n (W.take k)=T at hs3 f1 f2 f3
     let W4:Option Sl:=some (.val (AB w))
     let TV:Option Sl:=some (.val (.list (T.map AB)))
     refine ⟨_,rfl,?_⟩;refine C5 (r:= .own (T.map AB)) (D5 (ss:= [s3]) rfl (by rcases hs3 with rfl | rfl <;> rfl)) ?_;show Wp _ [P0,N1,WV,some s3,W4,some (.own (T.map AB)),z6,z7,z8] _;refine GC (P:=fun ρ=>∃(s3:Sl) (z6 z7 z8:Option Sl),ρ = [P0,N1,WV,some s3,W4,some (.own ((Sp.stepT p T w).map AB)),z6,z7,z8]) ?_ ?_
     . refine cK (lo:=((1:Nat):Int)) (n:=p - 1) (fun j ρ=>∃(s3:Sl) (z6 z7 z8:Option Sl),(s3 = .own (T.map AB)\/s3 = .val (.list (T.map AB)))/\ρ = [P0,N1,WV,some s3,W4,some (.own (((Sp.mults p (List.range' 1 j) T w).foldl Sp.addT T).map AB)),z6,z7,z8]) (VU (i:=1) (j:=p) rfl (by decide) (by omega)) ⟨s3,_,_,_,hs3,rfl⟩ ?_ ?_
       . rintro j ρ hj ⟨s3,z6,z7,z8,hs3,rfl⟩;refine ⟨_,rfl,FW ?_⟩
         let J6:Option Sl:=some (.val (.int ((1+j:Nat):Int)))
         have ej:((1:Nat):Int)+((j:Nat):Int)=((1+j:Nat):Int):=by omega
         have fz:frz1 3 [P0,N1,WV,some s3,W4,some (.own (((Sp.mults p (List.range' 1 j) T w).foldl Sp.addT T).map AB)),J6,z7,z8] = [P0,N1,WV,TV,W4,some (.own (((Sp.mults p (List.range' 1 j) T w).foldl Sp.addT T).map AB)),J6,z7,z8]:=by rcases hs3 with rfl | rfl <;> rfl
         show Wp _ (frz1 3 [P0,N1,WV,some s3,W4,some (.own (((Sp.mults p (List.range' 1 j) T w).foldl Sp.addT T).map AB)),some (.val (.int (((1:Nat):Int)+((j:Nat):Int)))),z7,z8]) _;rw [ej,fz];have er:List.range' 1 (j+1)=List.range' 1 j ++ [1+j]:=by rw [List.range'_1_concat]
         rw [er];refine JB (en:=AB) (xs:=T) (fun i ρ=>∃(z7 z8:Option Sl),ρ = [P0,N1,WV,TV,W4,some (.own (((Sp.mults p (List.range' 1 j) T w++(T.take i).map fun u=>Sp.put p u (1+j) w).foldl Sp.addT T).map AB)),J6,z7,z8]) rfl ⟨_,_,by rw [List.take_zero,WQ,DK]⟩ ?_ ?_
         . rintro i u ρ hi ⟨z7,z8,rfl⟩;have ti:T.take (i+1)=T.take i ++ [u]:=by rw [HA,hi];rfl
           have oku:=f1 u (B2 hi)
           have ea:(Sp.mults p (List.range' 1 j) T w++(T.take (i+1)).map fun u=>Sp.put p u (1+j) w).foldl Sp.addT T=Sp.addT ((Sp.mults p (List.range' 1 j) T w++(T.take i).map fun u=>Sp.put p u (1+j) w).foldl Sp.addT T) (Sp.put p u (1+j) w):=by
            rw [ti,D0, <-N7,List.foldl_append];rfl
           obtain ⟨g1,g2⟩:=Sp.addT_fold (Sp.mults p (List.range' 1 j) T w++(T.take i).map fun u=>Sp.put p u (1+j) w) T f2
           have gl:((Sp.mults p (List.range' 1 j) T w++(T.take i).map fun u=>Sp.put p u (1+j) w).foldl Sp.addT T).length<=63:=by
            refine AY (Sp.len_le (p:=p) (n:=n) g1 fun x hx=> ?_) hpn;rcases (g2 x).mp hx with hx | hx
            . exact f1 x hx
            . rcases CM.mp hx with hx | hx
              . obtain ⟨f,_,v,hv,rfl⟩:=Sp.mem_mults.mp hx;exact Sp.put_ok hp (f1 v hv).1 okw.1 f
              . obtain ⟨v,hv,rfl⟩:=BK.mp hx;exact Sp.put_ok hp (f1 v (HM hv)).1 okw.1 _
           rw [ea];generalize (Sp.mults p (List.range' 1 j) T w++(T.take i).map fun u=>Sp.put p u (1+j) w).foldl Sp.addT T=acc at gl
           refine ⟨_,rfl,?_⟩;refine C5 (r:= .val (AB (Sp.put p u (1+j) w))) (Y8 (jf:=6) (jp:=0) (ju:=7) (jw:=4) hp p7 (by omega) (by rw [oku.1];omega) rfl rfl rfl) ?_;generalize Sp.put p u (1+j) w=x
           let U7:Option Sl:=some (.val (AB u))
           let X8:Option Sl:=some (.val (AB x))
           show Wp _ [P0,N1,WV,TV,W4,some (.own (acc.map AB)),J6,U7,X8] _;have tn:(mTest (mBin (IG true) (mPk 8) (mPk 5))) [P0,N1,WV,TV,W4,some (.own (acc.map AB)),J6,U7,X8]=some (decide (x ∉ acc)):=FY ((AH (op:=IG true) (a:= .val (AB x)) (b:= .own (acc.map AB)) rfl rfl).trans (UO x acc))
           by_cases hin:x ∈ acc
           . refine lU (tn.trans (by rw [decide_eq_false (by simpa using hin)])) (MR ⟨U7,X8,?_⟩);have e:Sp.addT acc x=acc:=by unfold Sp.addT;rw [if_pos hin]
             rw [e]
           . refine L5 (tn.trans (by rw [decide_eq_true hin])) (FW (QE (SN (r:= .val (AB x)) (ds:=acc.map AB) rfl rfl (by rw [List.length_map];omega)) ⟨U7,X8,?_⟩));have e:Sp.addT acc x=acc ++ [x]:=by unfold Sp.addT;rw [if_neg hin]
             rw [e,D0];rfl
         . rintro ρ ⟨z7,z8,rfl⟩;rw [CI (A8 _), <-SD];exact ⟨.val (.list (T.map AB)),_,_,_, .inr rfl,rfl⟩
       . rintro ρ ⟨s3,z6,z7,z8,_,rfl⟩;exact ⟨s3,z6,z7,z8,rfl⟩
     . rintro ρ ⟨s3,z6,z7,z8,rfl⟩;exact FW (K9 (r:= .val (.list ((Sp.stepT p T w).map AB))) rfl ⟨_,_,_,_,_,_, .inr rfl,rfl⟩)
   . rintro ρ ⟨s3,z4,z5,z6,z7,z8,hs3,rfl⟩;rw [CI (A8 _)] at hs3
     exact ⟨s3,z4,z5,z6,z7,z8,by rcases hs3 with rfl | rfl <;> rfl,rfl⟩
 . rintro ρ ⟨s3,z4,z5,z6,z7,z8,hs3,rfl⟩;obtain ⟨f1,f2,f3⟩:=facts W.length;rw [CI (A8 _)] at f1 f2 f3
   exact CW (D5 (ss:= [s3]) rfl (VR (fun w hw=>kC (f1 w hw) n1) (by omega) hs3)) rfl
theorem AD5{p n:Nat}(hp:2<=p)(p7:p<=7)(n6:n<=6){w:List Nat}(hw:EM p n w)(x:List Nat):SZ [.int (p:Int),AB w,AB x]=some (.val (.int ((FS w x % p:Nat):Int))):=XJ (by omega) (by rw [hw.1];omega) fun r hr=>by have:=hw.2 r hr;omega
theorem mV{p n:Nat}(hp:2<=p)(p7:p<=7)(n6:n<=6){w:List Nat}(hw:EM p n w)(x:List Nat):iK [.int (p:Int),AB w,AB x]=some (.val (.int ((FS w x % p:Nat):Int))):=fX (by omega) (by rw [hw.1];omega) fun r hr=>by have:=hw.2 r hr;omega
theorem SO(e:List Nat)(M:List (List Nat)):inD false (AB e) (M.map AB)=some (.val (.bool (decide (e ∈ M)))):=by
 have dt:=QT e;unfold inD;rw [if_pos ⟨MG e,by simp [MG],by omega⟩];congr 3
 simp only [List.any_map]
 have:(M.any ((fun d=>PyData.eqv d (AB e)) ∘ AB))=decide (e ∈ M):=by
  induction M with
  | nil=>simp
  | cons m M ih=>
   rw [U9,ih];show (PyData.eqv (AB m) (AB e) || _)=_;rw [VC]
   by_cases h:m=e
   . subst h;simp
   . have h':e≠m:=fun z=>h z.symm;simp [h,h']
 rw [this];simp
def tK(p n:Nat)(U:List (List Nat))(e:List Nat):List (List Nat):=KA (Sp.mults p (List.range' 1 (p - 1)) (KA (Sp.spanM p n U)) e)
theorem XW{p n:Nat}{U:List (List Nat)}{e g:List Nat}:g ∈ tK p n U e↔Hi.Hid p (Sp.spanM p n U) e g:=by
 unfold tK Hi.Hid;rw [(IH _).mem_iff,Sp.mem_mults]
 constructor
 . rintro ⟨f,hf,s,hs,r⟩;obtain ⟨h1,h2⟩:=JH.mp hf;exact ⟨f,h1,by omega,s,(IH _).mem_iff.mp hs,r⟩
 . rintro ⟨f,h1,h2,s,hs,r⟩;exact ⟨f,JH.mpr ⟨h1,by omega⟩,s,(IH _).mem_iff.mpr hs,r⟩
theorem gX {p n : Nat} (hq : Pr p) (n1 : 1 <= n) (n6 : n <= 6) (hpn : p ^ n <= 63) {U : List (List Nat)} (hU : ∀ w ∈ U, EM p n w) {e : List Nat} (he : EM p n e) (ne : e ∉ Sp.spanM p n U) :
 UA [.int (p:Int), .list (U.map AB),AB e]=some (.own ((tK p n U e).map AB)):=by
 have sl:=ED;have hp:0<p:=by omega
 have p7:p<=7:=by omega
 obtain ⟨cl,nd,_,_⟩:=Sp.span_take (n:=n) hq hU;have rs:=lL hq n1 n6 hpn hU
 let F:=List.range' 1 (p - 1)
 have hF:∀f ∈ F,f<p:=fun f hf=>by have:=JH.mp hf;omega
 have lenS:(KA (Sp.spanM p n U)).length=(Sp.spanM p n U).length:=(IH _).length_eq;have okS:∀u ∈ KA (Sp.spanM p n U),Sp.Ok p n u:=fun u hu=>cl.ok u ((IH _).mem_iff.mp hu)
 have okM:∀w ∈ Sp.mults p F (KA (Sp.spanM p n U)) e,Sp.Ok p n w:=fun w hw=>by
  obtain ⟨f,_,u,hu,rfl⟩:=Sp.mem_mults.mp hw;exact Sp.put_ok hp (okS u hu).1 he.1 f
 have lenM:(Sp.mults p F (KA (Sp.spanM p n U)) e).length<=63:=by
  have ndM:=Sp.mults_nodup hq cl nd he ne (F:=F) List.nodup_range' hF
  have:=Sp.len_le ndM (n:=n) (p:=p) fun w hw=>by
   obtain ⟨f,_,u,hu,rfl⟩:=Sp.mem_mults.mp hw;exact Sp.put_ok hp (cl.ok u hu).1 he.1 f
  rw [V3] at this ⊢
  rw [lenS];omega
 have lS:(Sp.spanM p n U).length<=63:=AY (Sp.len_le nd cl.ok) hpn
 let P0:Option Sl:=some (.val (.int p))
 let U1:Option Sl:=some (.val (.list (U.map AB)))
 let E2:Option Sl:=some (.val (AB e))
 refine DV (ρ:= [P0,U1,E2,none]) rfl rfl ?_;unfold b_q25;refine C5 (r:= .own ((KA (Sp.spanM p n U)).map AB)) (BF (ds:= [.int (p:Int), .int (n:Int), .list (U.map AB)]) (AZ (a:= .val (.int p)) rfl (AZ (a:= .val (.int (n:Int))) (D5 (ss:= [.val (AB e)]) rfl ?_) (AZ (a:= .val (.list (U.map AB))) (as:= []) rfl rfl))) rs) ?_
 . show some (Sl.val (.int (((nl e).length:Nat):Int)))=_;rw [GZ,he.1]
 let M3:Option Sl:=some (.own ((KA (Sp.spanM p n U)).map AB))
 let M3v:Option Sl:=some (.val (.list ((KA (Sp.spanM p n U)).map AB)))
 show Wp _ [P0,U1,E2,M3] _;refine JY ((FY ((AH (op:=IG false) (a:= .val (AB e)) (b:= .own ((KA (Sp.spanM p n U)).map AB)) rfl rfl).trans (SO e _))).trans (by rw [B8 fun h=>ne ((IH _).mem_iff.mp h)])) (FW ?_);show Wp _ [P0,U1,E2,M3v] _
 have lr:sR (mK (.int 1)) (mPk 0) [P0,U1,E2,M3v]=some (.own (nl F)):=by
  show (if 0<=(1:Int)/\(1:Int)<=((p:Nat):Int)/\((p:Nat):Int)<=1000 then some (Sl.own ((List.range (((p:Nat):Int) - 1).toNat).map fun k:Nat=>PyData.int (1+(k:Int)))) else none)=_;rw [if_pos ⟨by decide,by omega,by omega⟩,show (((p:Nat):Int) - 1).toNat=p - 1 by omega];unfold F nl;rw [List.range'_eq_map_range,List.map_map];congr 2
 refine CW (D5 (ss:= [.own ((Sp.mults p F (KA (Sp.spanM p n U)) e).map AB)]) (EC (as:= []) (BF (ds:= [.int (p:Int), .list ((KA (Sp.spanM p n U)).map AB), .list (nl F),AB e]) (AZ (a:= .val (.int p)) rfl (AZ (a:= .val (.list ((KA (Sp.spanM p n U)).map AB))) rfl (AZ lr (AZ (a:= .val (AB e)) (as:= []) rfl rfl)))) (ZH hp p7 (fun u hu=>by rw [(okS u hu).1];omega) (fun f hf=>by have:=hF f hf;omega) (by omega) (by unfold F;rw [List.length_range'];omega))) rfl) (VR (fun w hw=>kC (okM w hw) n1) (by omega) rfl)) rfl
theorem mG{p:Nat}(hp:0<p)(n:Nat)(w:List Nat):w ∈ Tr.allT (List.replicate n p)↔EM p n w:=by
 rw [Ev.allT_mem _ _ _ rfl fun c hc=>by rw [(LS.mp hc).2];exact hp]
 have at_:∀i,i<n->(List.replicate n p).getD i 0=p:=fun i hi=>by
  rw [List.getD,D8,AU hi];rfl
 constructor
 . rintro ⟨h1,h2⟩;rw [CF] at h1 h2
   refine ⟨h1,fun r hr=> ?_⟩;obtain ⟨i,hi,rfl⟩:=RF.mp hr;have:=h2 i (by omega);rw [at_ i (by omega),List.getD,AD hi] at this
   exact this
 . rintro ⟨h1,h2⟩;refine ⟨by rw [h1,CF],fun i hi=> ?_⟩;rw [CF] at hi
   rw [at_ i hi,List.getD,AD (by omega)];exact h2 _ (G8 _)
def OP(p:Nat)(U:List (List Nat))(x0:List Nat):List Rule:=U.map fun u=>(u,FS u x0 % p)
def kG(p n:Nat)(U:List (List Nat))(x0:List Nat):List (List Nat):=(Tr.allT (List.replicate n p)).filter (eZ p (OP p U x0))
theorem lX{p n:Nat}(hp:0<p)(U:List (List Nat))(x0:List Nat):Ew.CutOk p n U x0 (kG p n U x0):=by
 refine ⟨(Ev.allT_nd _ _ rfl fun c hc=>by rw [(List.mem_replicate.mp hc).2];exact hp).filter _,fun x=> ?_⟩;unfold kG eZ OP;rw [List.mem_filter,mG hp,List.all_map,List.all_eq_true];refine and_congr Iff.rfl (forall_congr' fun u=>imp_congr Iff.rfl ?_);exact decide_eq_true_iff
def U4(e t:List Nat):PyData:= .tuple [AB e,AB t]
def bk(L e:List Nat):List (List Nat):=(Tr.allT (e.map (lv1 L))).map fun t=>t.map (· + 1)
def J0(L:List Nat)(M:List (List Nat)):List PyData:=M.flatMap fun e=>(bk L e).map (U4 e)
theorem kA(L e:List Nat):(bk L e).length=Tr.prodN (e.map (lv1 L)):=by simp [bk,Tr.allT]
theorem zD(L:List Nat):bk L [] = [[]]:=rfl
theorem sG(L e:List Nat)(t:Nat)(h:0<lv1 L t):bk L (e ++ [t])=(bk L e).flatMap fun u=>(List.range (lv1 L t)).map fun s=>u ++ [s+1]:=by
 unfold bk;rw [List.map_append];show (Tr.allT (e.map (lv1 L) ++ [lv1 L t])).map _=_;rw [Tr.allT_snoc _ _ h,List.map_flatMap,List.flatMap_map];congr 1
 funext u;rw [E1];refine C7 fun s _=> ?_;simp
theorem A16{L e u:List Nat}(h:u ∈ bk L e):u.length=e.length:=by
 unfold bk Tr.allT at h
 rw [E1] at h
 obtain ⟨x,_,rfl⟩:=BK.mp h;simp [Tr.tri_len]
theorem lD{L e:List Nat}(hL:∀s ∈ L,2<=s/\s<=7)(he:Y5 L 900 e)(hl:e.length<=900):Z9 [.list (nl L),AB e]=some (.own ((bk L e).map (U4 e))):=by
 have sl:=ED
 let LV:Option Sl:=some (.val (.list (nl L)))
 let EV:Option Sl:=some (.val (AB e))
 refine DV (ρ:= [LV,EV,none]) rfl rfl ?_;unfold b_q21
 have hpos:∀c ∈ e.map (lv1 L),0<c/\c<=1000:=fun c hc=>by
  obtain ⟨t,ht,rfl⟩:=BK.mp hc;have:=eD hL (he.2.1 t ht);omega
 refine C5 (BF (ds:= [.list (nl (e.map (lv1 L)))]) (AZ (as:= []) (EY (ds:=nl e) (es:=nl (e.map (lv1 L))) rfl (by rw [GZ];omega) ?_) rfl) (dE hpos (by simpa using hl) he.2.2)) ?_
 . refine (CG (en:=enN) (g:=fun t=> .int (lv1 L t:Nat)) (xs:=e) fun t ht=>HD (r:= .val (.int (lv1 L t:Nat))) rfl ?_).trans (by simp [nl]);obtain ⟨g1,g2,g3⟩:=eD hL (he.2.1 t ht);refine (AH (op:=dSub) ((AH (op:=dix) (a:= .val (.list (nl L))) (b:= .val (.int (t:Nat))) rfl rfl).trans (J9 (.inl rfl) g1)) rfl).trans ?_;show some (Sl.val (.int (((lv1 L t+1:Nat):Int) - 1)))=_;rw [show ((lv1 L t+1:Nat):Int) - 1=(lv1 L t:Nat) by omega]
 . have al : (Tr.allT (e.map (lv1 L))).length <= 900 := by
    have:=he.2.2;simpa [Tr.allT] using this
   refine FW (CW (EY (ds:=(Tr.allT (e.map (lv1 L))).map AB) rfl (by rw [A4];omega) ?_) rfl);refine (CG (en:=AB) (g:=fun t=>U4 e (t.map (· + 1))) (xs:=Tr.allT (e.map (lv1 L))) fun t ht=>HD (r:= .val (U4 e (t.map (· + 1)))) rfl ?_).trans ?_
   . have tl : t.length <= 900 := by
      unfold Tr.allT at ht
      obtain ⟨x,_,rfl⟩:=BK.mp ht;rw [Tr.tri_len,A4];exact hl
     refine (ZV (a:= .val (AB e)) (b:= .val (AB (t.map (· + 1)))) rfl (D5 (EC (a:= .own (nl (t.map (· + 1)))) (as:= []) (EY (ds:=nl t) rfl (by rw [GZ];omega) ?_) rfl) rfl)).trans rfl;refine (CG (en:=enN) (g:=fun s=> .int ((s:Int)+1)) (xs:=t) fun s _=>HD (r:= .val (.int ((s:Int)+1))) rfl rfl).trans ?_;simp [nl]
   . unfold bk;rw [List.map_map];rfl
theorem PN{L:List Nat}{most:Nat}:∀ {M:List (List Nat)},(∀e ∈ M,Y5 L most e)->(J0 L M).length<=M.length*most
 | [],_=>by simp [J0]
 | e::M,h=>by
  have ih:=PN (M:=M) fun e he=>h e (List.mem_cons_of_mem _ he);have h1:=(h e List.mem_cons_self).2.2;unfold J0 at ih ⊢
  rw [NC,AO,A4,kA,B9,G0];omega
theorem SA(L:List Nat)(M:List (List Nat))(e:List Nat):J0 L (M ++ [e])=J0 L M++(bk L e).map (U4 e):=by
 unfold J0;rw [List.flatMap_append];simp
theorem nV{L:List Nat}(hL:∀s ∈ L,2<=s/\s<=7){M:List (List Nat)}{most:Nat}(hM:∀e ∈ M,Y5 L most e)(hm:most<=100)(hl:M.length<=7)(h4:L.length<=6):Z3 [.list (nl L), .list (M.map AB)]=some (.own (J0 L M)):=by
 have sl:=ED
 let LV:Option Sl:=some (.val (.list (nl L)))
 let MV:Option Sl:=some (.val (.list (M.map AB)))
 refine DV (ρ:= [LV,MV,none,none]) rfl rfl ?_;unfold b_q17;refine C5 PL ?_;refine GC (P:=fun ρ=>∃z,ρ = [LV,MV,some (.own (J0 L M)),z]) ?_ (by rintro ρ ⟨z,rfl⟩;exact CW rfl rfl);refine JB (en:=AB) (xs:=M) (fun i ρ=>∃z,ρ = [LV,MV,some (.own (J0 L (M.take i))),z]) rfl ⟨_,rfl⟩ ?_ ?_
 . rintro i e ρ hi ⟨z,rfl⟩;have me:=B2 hi;obtain ⟨e1,e2,e3⟩:=hM e me;refine ⟨_,rfl,?_⟩;have tk:M.take (i+1)=M.take i ++ [e]:=by rw [HA,hi];rfl
   have le:e.length<=900:=by
    have:e.length<=(List.range L.length).length:=by
     refine ZO ?_ fun t ht=>BC.mpr (e2 t ht);exact e1.imp fun h=>D2 h
    rw [AI] at this
    omega
   have cl:=PN (L:=L) (most:=most) (M:=M.take (i+1)) fun e he=>hM e (HM he);have tl:(M.take (i+1)).length<=7:=by rw [FF];omega
   have c2:(J0 L (M.take (i+1))).length<=7*100:=AY cl (G7 tl hm);rw [tk,SA,AO] at c2
   refine QE (nS (BF (ds:= [.list (nl L),AB e]) rfl (lD hL ⟨e1,e2,by omega⟩ le)) rfl (by omega)) ⟨some (.val (AB e)),?_⟩;rw [tk,SA];rfl
 . rintro ρ ⟨z,rfl⟩;rw [CI (A8 _)];exact ⟨z,rfl⟩
theorem rX(k s:Nat):YZ [.int k, .int s]=some (.val (.int (Tr.con k s))):=by
 refine DV (ρ:= [some (.val (.int k)),some (.val (.int s))]) rfl rfl ?_;unfold b_q20 Tr.con
 by_cases h1:s<k
 . rw [AU h1];exact JA (L5 (by show some (decide ((s:Int)<(k:Int)))=_;rw [BG (by omega)]) (CW rfl rfl))
 . rw [AR h1];refine JY (by show some (decide ((s:Int)<(k:Int)))=_;rw [B8 (by omega)]) ?_
   by_cases h2:s=k
   . rw [AU h2];exact JA (L5 (by rw [NV (i:=s) (j:=k) rfl rfl,BG (by omega)]) (CW rfl rfl))
   . rw [AR h2];exact JY (by rw [NV (i:=s) (j:=k) rfl rfl,B8 (by omega)]) (CW rfl rfl)
theorem mE{a b:List Nat}{j t k:Nat}(h:(List.zip a b)[j]? = some (t,k)):a.drop j=t::a.drop (j+1)/\b.drop j=k::b.drop (j+1)/\t ∈ a/\k ∈ b:=by
 rw [List.getElem?_zip_eq_some] at h
 obtain ⟨h1,e1⟩:=AX.mp h.1;obtain ⟨h2,e2⟩:=AX.mp h.2;refine ⟨?_,?_,B2 h.1,B2 h.2⟩
 . rw [FU h1,e1]
 . rw [FU h2,e2]
theorem u9{e u x:List Nat}(hu:∀k ∈ u,k<=7)(he:∀t ∈ e,t<x.length)(hl:e.length=u.length):UT [U4 e u,AB x]=some (.val (.int (Tr.valAt e u x))):=by
 let CO:Option Sl:=some (.val (U4 e u))
 let TX:Option Sl:=some (.val (AB x))
 refine DV (ρ:= [CO,TX,none,none,none]) rfl rfl ?_;unfold b_q42;refine C5 (r:= .val (.int 1)) rfl ?_;refine GC (P:=fun ρ=>∃z3 z4,ρ = [CO,TX,some (.val (.int (Tr.valAt e u x))),z3,z4]) ?_ (by rintro ρ ⟨z3,z4,rfl⟩;exact CW rfl rfl);refine JB (en:=enP) (xs:=List.zip e u) (fun j ρ=>∃(p:Int) (z3 z4:Option Sl),ρ = [CO,TX,some (.val (.int p)),z3,z4]/\p*Tr.valAt (e.drop j) (u.drop j) x=Tr.valAt e u x) ?_ ⟨1,_,_,rfl,by simp⟩ ?_ ?_
 . show some (JK (nl e) (nl u))=_;rw [MW]
 . rintro j ⟨t,k⟩ ρ hj ⟨p,z3,z4,rfl,hp⟩;obtain ⟨d1,d2,m1,m2⟩:=mE hj;have hk:=hu k m2;have ht:=he t m1;refine ⟨[CO,TX,some (.val (.int p)),some (.val (.int (t:Nat))),some (.val (.int (k:Nat)))],rfl,?_⟩;have hc:=Tr.con_abs (k:=k) (s:=x.getD t 0) hk
   have gx:(nl x)[t]? = some (.int ((x.getD t 0:Nat):Int)):=by
    unfold nl;rw [List.getElem?_map,List.getElem?_eq_getElem ht];simp [List.getD,List.getElem?_eq_getElem ht]
   refine K9 (r:= .val (.int (p*Tr.con k (x.getD t 0)))) ((AH (op:=dRep) (a:= .val (.int p)) rfl (BF (ds:= [.int (k:Nat), .int ((x.getD t 0:Nat):Int)]) (AZ (a:= .val (.int (k:Nat))) rfl (AZ (as:= []) ((AH (op:=dix) (a:= .val (AB x)) (b:= .val (.int (t:Nat))) rfl rfl).trans (J9 (.inr rfl) gx)) rfl)) (rX k _))).trans (J7 (cmR (by omega) (by omega)))) ⟨_,_,_,rfl,?_⟩;rw [<-hp,d1,d2,Tr.valAt,CK]
 . rintro ρ ⟨p,z3,z4,rfl,hp⟩
   have e0:Tr.valAt (e.drop (List.zip e u).length) (u.drop (List.zip e u).length) x=1:=by
    rw [IT,hl,wK,F7 (by omega)];rfl
   rw [e0,N6] at hp
   subst hp;exact ⟨z3,z4,rfl⟩
def QL(L:List Nat)(M:List (List Nat)):List (List Nat×List Nat):=M.flatMap fun e=>(bk L e).map fun u=>(e,u)
theorem W9(L:List Nat)(M:List (List Nat)):J0 L M=(QL L M).map fun c=>U4 c.1 c.2:=by
 unfold J0 QL;rw [List.map_flatMap];congr 1
 funext e;rw [E1];rfl
theorem i3{L:List Nat}{M:List (List Nat)}{c:List Nat×List Nat}(h:c ∈ QL L M):c.1 ∈ M/\c.2 ∈ bk L c.1:=by
 obtain ⟨e,he,h⟩:=ZN.mp h;obtain ⟨u,hu,rfl⟩:=BK.mp h;exact ⟨he,hu⟩
theorem qZ{L e u:List Nat}(hL:∀s ∈ L,2<=s/\s<=7)(he:∀t ∈ e,t<L.length)(hu:u ∈ bk L e):Tr.Fits L e u/\(∀k ∈ u,k<=7)/\e.length=u.length:=by
 have hlen:=A16 hu;unfold bk Tr.allT at hu
 rw [E1] at hu
 obtain ⟨x,hx,hux⟩:=BK.mp hu;have hux:(Tr.tri (e.map (lv1 L)) x).map (· + 1)=u:=hux
 have hpos:∀c ∈ e.map (lv1 L),0<c:=fun c hc=>by
  obtain ⟨t,ht,rfl⟩:=BK.mp hc;have:=eD hL (he t ht);omega
 have at_:∀i,i<e.length->u.getD i 0=(Tr.tri (e.map (lv1 L)) x).getD i 0+1/\(Tr.tri (e.map (lv1 L)) x).getD i 0<lv1 L (e.getD i 0):=fun i hi=>by
  have hl:i<(Tr.tri (e.map (lv1 L)) x).length:=by rw [Tr.tri_len];simpa using hi
  refine ⟨by rw [<-hux];simp [List.getD,B3,AD hl],?_⟩;have:=Tr.tri_lt (L:=e.map (lv1 L)) (x:=x) (i:=i) hpos (by simpa using hi);have e2:(e.map (lv1 L)).getD i 0=lv1 L (e.getD i 0):=by simp [List.getD,B3,AD hi]
  rw [e2] at this
  exact this
 have ge:∀i,i<e.length->e.getD i 0 ∈ e:=fun i hi=>by simp [List.getD,AD hi]
 refine ⟨Tr.fits_of hlen.symm fun i hi=> ?_,fun k hk=> ?_,hlen.symm⟩
 . obtain ⟨a1,a2⟩:=at_ i hi;have e0:lv1 L (e.getD i 0)=L.getD (e.getD i 0) 0 - 1:=rfl;rw [a1];omega
 . obtain ⟨i,hi,rfl⟩:=RF.mp hk;have hi':i<e.length:=by rw [<-hlen];exact hi
   obtain ⟨a1,a2⟩:=at_ i hi';have:=eD hL (he _ (ge i hi'));have e3:u.getD i 0=u[i]:=by simp [List.getD,AD hi]
   rw [<-e3,a1];omega
def u0(P:List (List Nat×List Nat))(x:List Nat):PyData:= .list (il (P.map fun c=>Tr.valAt c.1 c.2 x))
theorem qR {L : List Nat} (hL : ∀ s ∈ L, 2 <= s /\ s <= 7) {M : List (List Nat)} {most : Nat} (hM : ∀ e ∈ M, Y5 L most e) (hm : most <= 100) (hl : M.length <= 7) (h4 : L.length <= 6) {X : List (List Nat)} (hX : X.length <= 900) (hx : ∀ x ∈ X, x.length = L.length) :
 ZF [.list (nl L), .list (X.map AB), .list (M.map AB)]=some (.own (X.map (u0 (QL L M)))):=by
 have sl:=ED
 let LV:Option Sl:=some (.val (.list (nl L)))
 let XV:Option Sl:=some (.val (.list (X.map AB)))
 let MV:Option Sl:=some (.val (.list (M.map AB)))
 refine DV (ρ:= [LV,XV,MV,none]) rfl rfl ?_;unfold b_q39;have cl:=PN (L:=L) (most:=most) (M:=M) hM;have cl2:(J0 L M).length<=7*100:=Nat.le_trans cl (Nat.mul_le_mul hl hm);rw [W9,List.length_map] at cl2
 refine C5 (BF (ds:= [.list (nl L), .list (M.map AB)]) rfl (nV hL hM hm hl h4)) ?_;refine FW (CW (EY (ds:=X.map AB) (es:=X.map (u0 (QL L M))) rfl (by rw [A4];omega) (CG fun x hx1=> ?_)) rfl)
 have inner:(mLC (CP [some 1,none]) (EN (mVar 0)) (gVar 1) mYes (mCall UT (mCons (mVar 1) (mCons (mVar 0) mNil)))) [some (.val (.list (J0 L M))),some (.val (AB x))]=some (.own (il ((QL L M).map fun c=>Tr.valAt c.1 c.2 x))):=by
  refine EY (ds:=J0 L M) rfl (by rw [W9,A4];omega) ?_;rw [W9];refine (CG (en:=fun c:List Nat×List Nat=>U4 c.1 c.2) (g:=fun c=> .int (Tr.valAt c.1 c.2 x)) fun c hc=> ?_).trans (by simp [il]);obtain ⟨c1,c2⟩:=i3 hc;obtain ⟨f1,f2,f3⟩:=qZ hL (hM _ c1).2.1 c2;exact HD (r:= .val (.int (Tr.valAt c.1 c.2 x))) rfl (BF (ds:= [U4 c.1 c.2,AB x]) rfl (u9 f2 (fun t ht=>by rw [hx x hx1];exact (hM _ c1).2.1 t ht) f3))
 exact HD (fg:=gVar 1) (ρ0:= [some (.val (.list (J0 L M))),none]) (d:=AB x) rfl inner
theorem US{α β:Type}(f:α->β)(d:α)(l:List α):l.map f=(List.range l.length).map fun i=>f (l.getD i d):=by
 refine List.ext_getElem (by simp) fun i h1 h2=> ?_;have h:i<l.length:=by simpa using h1
 simp [List.getD,AD h]
def A35(P:List (List Nat×List Nat))(X:List (List Nat)):Ba.Mx:=fun k j=>Tr.valAt (P.getD j ([],[])).1 (P.getD j ([],[])).2 (X.getD k [])
theorem tR(P:List (List Nat×List Nat))(X:List (List Nat)):X.map (u0 P)=CD X.length P.length (A35 P X):=by
 unfold CD;rw [US (u0 P) [] X];refine List.map_congr_left fun k _=> ?_;show PyData.list (il (P.map fun c=>Tr.valAt c.1 c.2 (X.getD k []))) = .list ((List.range P.length).map fun j=> .int (A35 P X k j));rw [US (fun c:List Nat×List Nat=>Tr.valAt c.1 c.2 (X.getD k [])) ([],[]) P];unfold il;rw [List.map_map];rfl
theorem tU{q:Int×Int}(hp:0<q.2)(hg:Int.gcd q.1 q.2=1):fr q.1 q.2=q:=by
 have n0:q.2≠0:=by omega
 have h:=NS (a:=(fr q.1 q.2).1) (b:=(fr q.1 q.2).2) (c:=q.1) (d:=q.2) (PX n0) hp (WH n0) hg (KK n0);exact h
theorem uM(q:Int×Int):(DR q).canLay0=true:=rfl
theorem sA(q:Int×Int):(DR q).depth<=60:=by simp [DR,PyData.depth,PyData.depthAll]
theorem VT{n:Nat}{a b:Nat->Int}(hn:n<=200)(ha:∀k,k<n->Bt 4000 (a k))(hb:∀k,k<n->Bt 4000 (b k)):NH [DD n a,DD n b]=some (.val (.int (Ba.sumN n fun k=>a k*b k))):=by
 have hs:=ED;refine DV (ρ:= [some (.val (DD n a)),some (.val (DD n b))]) rfl rfl ?_;unfold b_q37;refine CW (D5 (EC (a:= .own ((List.range n).map fun k=> .int (a k*b k))) (EY (ds:=(List.range n).map fun k=> .tuple [.int (a k), .int (b k)]) ?_ (by rw [List.length_map,List.length_range];omega) (CG fun k hk=> ?_)) rfl) nO) rfl
 . unfold SR;rw [AZ (a:= .val (DD n a)) rfl (AZ (a:= .val (DD n b)) rfl rfl)];show some (JK ((List.range n).map fun k=> .int (a k)) ((List.range n).map fun k=> .int (b k)))=_;rw [MK]
 . have hk:=BC.mp hk;show elM _ _ _ [none,none] _=_;exact HD (ρ1:= [some (.val (.int (a k))),some (.val (.int (b k)))]) (r:= .val (.int (a k*b k))) rfl ((AH (op:=dRep) (a:= .val (.int (a k))) (b:= .val (.int (b k))) rfl rfl).trans (J7 (.inr (TL (n:=4000) (m:=4000) (ha k hk) (hb k hk) rfl))))
theorem dS{n:Nat}{a:Nat->Int}(hn:n<=200):SG [DD n a]=some (.own ((List.range n).map fun j=>DR (a j,1))):=by
 have hs:=ED;refine DV (ρ:= [some (.val (DD n a))]) rfl rfl ?_;unfold b_q14;refine CW (EY (ds:=(List.range n).map fun j=> .int (a j)) rfl (by rw [List.length_map,List.length_range];omega) (CG fun j _=> ?_)) rfl;show elM _ _ _ [none] _=_;exact HD (ρ1:= [some (.val (.int (a j)))]) (r:= .val (DR (a j,1))) rfl (ZV (a:= .val (.int (a j))) (b:= .val (.int 1)) rfl rfl)
theorem wR{N m:Nat}{R:Ba.Mx}(h1:1<=N)(hN:N<=200)(hm:m<=200)(hR:∀k,k<N->∀j,j<m->Bt 4000 (R k j)):YH [.list (CD N m R)]=some (.own ((List.range m).map fun i=>frD m (tz (Ba.gram N R) i))):=by
 have hs:=ED;have lo:=jO (n:=m) (m:=N) (f:=fun k j=> .int (R k j)) hm h1 (by omega);refine DV (ρ:= [some (.val (.list (CD N m R))),none]) rfl rfl ?_;unfold b_q16;refine C5 (BF (ds:= [.list (CD N m R)]) rfl lo) (FW ?_)
 let C1:Option Sl:=some (.val (.list ((List.range m).map fun j=> .list ((List.range N).map fun k=> .int (R k j)))))
 show Wp _ [some (.val (.list (CD N m R))),C1] _;refine CW (EY (ds:=(List.range m).map fun j=>DD N fun k=>R k j) rfl (by rw [A4,AI];omega) (CG fun i hi=> ?_)) rfl;have hi:=BC.mp hi;show elM _ _ _ [C1,none] _=_;refine HD (ρ1:= [C1,some (.val (DD N fun k=>R k i))]) (r:= .own ((List.range m).map fun j=>DR (Ba.gram N R i j,1))) rfl ?_;refine BF (ds:= [DD m (Ba.gram N R i)]) (AZ (a:= .own ((List.range m).map fun j=> .int (Ba.gram N R i j))) ?_ rfl) (dS hm);refine EY (ds:=(List.range m).map fun j=>DD N fun k=>R k j) rfl (by rw [A4,AI];omega) (CG fun j hj=> ?_);have hj:=BC.mp hj;show elM _ _ _ [some (.val (DD N fun k=>R k i)),none] _=_;exact HD (ρ1:= [some (.val (DD N fun k=>R k i)),some (.val (DD N fun k=>R k j))]) (r:= .val (.int (Ba.gram N R i j))) rfl (BF (ds:= [DD N fun k=>R k i,DD N fun k=>R k j]) rfl (VT hN (fun k hk=>hR k hk i hi) (fun k hk=>hR k hk j hj)))
theorem xB {N m D : Nat} {R : Ba.Mx} {x : Nat -> Int × Int} (hN : N <= 200) (hm : m <= 200) (hR : ∀ k, k < N -> ∀ j, j < m -> Bt 4000 (R k j)) (h : ∀ j, j < m -> 0 < (x j).2 /\ (x j).2.natAbs <= D) (hT : ∀ j, j < m -> Bt 4000 (x j).1) (hD : D ^ m < 2 ^ 4000) (hD1 : 1 <= D) (hD2 : D < 2 ^ 4000) (hw : ∀ j, j < m -> Bt 4000 (whN m x j)) :
 UP [.list (CD N m R),frD m x]=some (.own ((List.range N).map fun k=>DR (fr (Ba.sumN m fun j=>R k j*whN m x j) (cbN x m)))):=by
 have hs:=ED;obtain ⟨c1,c2,c3⟩:=NQ (r:=x) (D:=D) (m:=m) h;refine DV (ρ:= [some (.val (.list (CD N m R))),some (.val (frD m x)),none,none]) rfl rfl ?_;unfold b_q38;refine C5 (BF (ds:= [frD m x]) rfl (aH h hD hD1 hD2)) ?_;refine C5 (BF (ds:= [frD m x]) rfl (aU h hT (by omega) hD hD1 hD2)) (FW (FW ?_))
 let W3:Option Sl:=some (.val (DD m (whN m x)))
 show Wp _ [some (.val (.list (CD N m R))),some (.val (frD m x)),some (.val (.int (cbN x m))),W3] _
 have e:(mLC (CP [some 3,none]) (mItems (mVar 0)) (gVar 1) mYes (mCall NH (mCons (mVar 1) (mCons (mVar 0) mNil)))) [some (.val (.list (CD N m R))),some (.val (frD m x)),some (.val (.int (cbN x m))),W3]=some (.own ((List.range N).map fun k=> .int (Ba.sumN m fun j=>R k j*whN m x j))):=by
  refine EY (ds:=CD N m R) rfl (by rw [QY];omega) (CG fun k hk=> ?_);have hk:=BC.mp hk;show elM _ _ _ [W3,none] _=_;exact HD (ρ1:= [W3,some (.val (DD m (R k)))]) (r:= .val (.int (Ba.sumN m fun j=>R k j*whN m x j))) rfl (BF (ds:= [DD m (R k),DD m (whN m x)]) rfl (VT hm (hR k hk) hw))
 exact CW (BF (ds:= [.list ((List.range N).map fun k=> .int (Ba.sumN m fun j=>R k j*whN m x j)), .int (cbN x m)]) (AZ e (AZ (a:= .val (.int (cbN x m))) rfl rfl)) (lQ hN (by omega) (DH c2 (B4 hD (CJ (by decide) (by decide)))))) rfl
theorem A67:eqD (.str "never") (.str "found")=some false:=by decide +kernel
theorem AB6:eqD (.str "found") (.str "found")=some true:=by decide +kernel
theorem A84{fa fb:En->Option Sl}{ρ:En}{a b:PyData}{k:Bool}(ha:fa ρ=some (.val a))(hb:fb ρ=some (.val b))(h:eqD a b=some k):mTest (mBin deq fa fb) ρ=some k:=by
 refine FY ((AH ha hb).trans ?_);show (eqD a b).map _=_;rw [h];rfl
def c3:Nat->Int:=fun j=>if j=1 then 1 else 0
theorem AE6{x:Int}{p:Nat}(h:x.natAbs<=1000)(hp:10<=p):Bt p x:=by
 unfold Bt;refine Nat.lt_of_lt_of_le (show x.natAbs<2 ^ 10 by omega) (Nat.pow_le_pow_right (by decide) hp)
theorem dG{p:Nat}{x:Int}(h:x.natAbs<=2 ^ p):Bt (p+1) x:=by
 unfold Bt;rw [Nat.pow_succ];have:=Nat.pow_pos (a:=2) (n:=p) (by decide);omega
theorem XE{f:Nat->Int}:∀ {N:Nat},(∀k,k<N->(f k).natAbs<=1)->(Ba.sumN N f).natAbs<=N
 | 0,_=>by simp [Ba.sumN]
 | N+1,h=>by
  have a:=XE (f:=f) (N:=N) fun k hk=>h k (by omega);have b:=h N (by omega);show (Ba.sumN N f+f N).natAbs<=_;omega
theorem pH{a b:Int}(ha:a.natAbs<=1)(hb:b.natAbs<=1):(a*b).natAbs<=1:=by
 rw [HK];exact G7 ha hb
theorem y3:(32*32:Nat) ^ 3=2 ^ 30:=by decide
theorem y4:(32*32:Nat) ^ (3+1)=2 ^ 40:=by decide
theorem uX {N : Nat} {R : Ba.Mx} (h1 : 1 <= N) (hN : N <= 32) (hR : ∀ k, k < N -> ∀ j, j < 3 -> (R k j).natAbs <= 1) :
 (∃(q:Nat->Int) (ds:List PyData),(∀j,j<3->Ba.sumN 3 (fun i=>q i*Ba.gram N R i j)=0)/\Ba.sumN 3 (fun i=>q i*c3 i)≠0/\P7 [.list (CD N 3 R),DD 3 c3]=some (.val (.tuple (.str "hidden" :: ds)))) \/
 (∃(X wh:Nat->Int) (e E:Int),e≠0/\0<E/\(∀i,i<3->Ba.sumN 3 (fun j=>Ba.gram N R i j*X j)=e*c3 i)/\(∀j,j<3->wh j*e=X j*E) /\
  P7 [.list (CD N 3 R),DD 3 c3]=some (.val (.tuple [.str "told",frD N (fun k=>fr (Ba.sumN 3 fun j=>R k j*wh j) E)]))):=by
 have hs:=ED;have R4:∀k,k<N->∀j,j<3->Bt 4000 (R k j):=fun k hk j hj=>AE6 (AY (hR k hk j hj) (by decide)) (by decide);have af:=dS (n:=3) (a:=c3) (by omega);have cp:=wR (R:=R) (m:=3) h1 (by omega) (by omega) R4
 have w : ∀ {r d : _}, RK [FI 3 3 (tz (Ba.gram N R)), frD 3 (fun i => (c3 i, 1))] = some (.val d) ->
  Wp (mSeq (mIf (mTest (mBin deq (mBin dix (mPk 2) (mK (.int 0))) (mK (.str "found")))) (mRet (mTup (mCons (mK (.str "told")) (mCons (mCall UP (mCons (mVar 0) (mCons (mBin dix (mPk 2) (mK (.int 1))) mNil))) mNil)))) mNext)
  (mRet (mTup (mCons (mK (.str "hidden")) (mCons (mBin dix (mPk 2) (mK (.int 1))) (mCons (mBin dRep (mLst (mCons (mK c_NOUGHT) mNil)) (mCallP dLen (mConsP (mPk 1) mNilP))) mNil)))))) [some (.val (.list (CD N 3 R))),some (.val (DD 3 c3)),some (.val d)] (Rt r)->P7 [.list (CD N 3 R),DD 3 c3]=some r:=fun {r d} hsol h=>by
  refine DV (ρ:= [some (.val (.list (CD N 3 R))),some (.val (DD 3 c3)),none]) rfl rfl ?_;unfold b_q40;refine GS (ρ':= [some (.val (.list (CD N 3 R))),some (.val (DD 3 c3)),some (.val d)]) ?_ h;exact EL (BF (ds:= [FI 3 3 (tz (Ba.gram N R)),frD 3 (fun i=>(c3 i,1))]) (AZ (BF (ds:= [.list (CD N 3 R)]) rfl cp) (AZ (BF (ds:= [DD 3 c3]) rfl af) rfl)) hsol)
 have gb:∀i,i<3->∀j,j<3->(Ba.gram N R i j).natAbs<=32:=fun i hi j hj=>Nat.le_trans (XE fun k hk=>pH (hR k hk i hi) (hR k hk j hj)) hN;have cb:∀j,j<3->(c3 j).natAbs<=32:=fun j hj=>by unfold c3;split <;> decide
 have p1:(32*32:Nat) ^ 3<2 ^ 4000:=by rw [y3];exact HN (by decide) (by decide)
 have p2:(32*32:Nat) ^ (3+1)<2 ^ 4000:=by rw [y4];exact HN (by decide) (by decide)
 rcases XD (n:=3) (m:=3) (Y:=32) (A:=Ba.gram N R) (c:=c3) (by decide) (by decide) (by decide) (by decide) (by decide) gb cb p1 p2 with ⟨q,X,e,q1,q2,e0,_,_,_,_,hsol⟩ | ⟨X,e,e0,eb,xb,hx,hsol⟩
 . left;refine ⟨q,[.list ((List.range 3).map fun i=>DR (fr (X i) e)), .list ((List.range 3).map fun _=>c_NOUGHT)],q1,q2,w hsol ?_⟩;refine JY (A84 (a:= .str "never") (b:= .str "found") rfl rfl A67) (CW ?_ rfl)
   have er:(mBin dRep (mLst (mCons (mK c_NOUGHT) mNil)) (mCallP dLen (mConsP (mPk 1) mNilP))) [some (.val (.list (CD N 3 R))),some (.val (DD 3 c3)),some (.val (.tuple [.str "never", .list ((List.range 3).map fun i=>DR (fr (X i) e))]))]=some (.own ((List.range 3).map fun _=>c_NOUGHT)):=by
    refine (AH (a:= .own [c_NOUGHT]) (b:= .val (.int ((3:Nat):Int))) (TW (a:= .val c_NOUGHT) rfl) ?_).trans (VH (by omega));exact D5 (EC rfl rfl) (by simp only [dLen,Sl.dat,DD,A4,AI])
   unfold mTup;rw [AZ (a:= .val (.str "hidden")) rfl (AZ (a:= .val (.list ((List.range 3).map fun i=>DR (fr (X i) e)))) rfl (AZ er (show mNil _=some [] from rfl)))];exact if_pos (e:=none) (show 3<=sizeLine by decide)
 . right;rw [y3] at eb xb
   have eb:Bt 31 e:=dG eb;have xb:∀i,i<3->Bt 61 (X i):=fun i hi=>dG (AY (xb i hi) (by rw [<-Nat.pow_add];exact A8 _))
   let x:Nat->Int×Int:=fun j=>fr (X j) e
   have hb:∀j,j<3->0<(x j).2/\(x j).2.natAbs<=2 ^ 31:=fun j hj=>⟨PX e0,GI (show Bt 31 (x j).2 from eb.fdiv)⟩;have hT:∀j,j<3->Bt 61 (x j).1:=fun j hj=>(xb j hj).fdiv;obtain ⟨c1,c2,c3'⟩:=NQ (r:=x) (D:=2 ^ 31) (m:=3) hb;have Dm:(2 ^ 31:Nat) ^ 3=2 ^ 93:=by rw [<-Nat.pow_mul]
   rw [Dm] at c2
   have Eb:Bt 94 (cbN x 3):=dG c2
   have wb:∀j,j<3->Bt 155 (whN 3 x j):=fun j hj=>by
    show Bt 155 ((x j).1*(cbN x 3).fdiv (x j).2);exact ((hT j hj).mul Eb.fdiv)
   have sw:=xB (N:=N) (m:=3) (D:=2 ^ 31) (R:=R) (x:=x) (by omega) (by omega) R4 hb (fun j hj=>(hT j hj).mono (by decide)) (by rw [Dm];exact HN (by decide) (by decide)) (bP (by decide)) (HN (by decide) (by decide)) (fun j hj=>(wb j hj).mono (by decide));refine ⟨X,whN 3 x,e,cbN x 3,e0,c1,hx,fun i hi=> ?_,w hsol ?_⟩
   . show (x i).1*(cbN x 3).fdiv (x i).2*e=_;have q1:(x i).1*e=X i*(x i).2:=KK e0
     have q2:(x i).2*(cbN x 3).fdiv (x i).2=cbN x 3:=by
      obtain ⟨v,hv⟩:=c3' i hi;rw [hv,IN _ (by have:=(hb i hi).1;omega)]
     calc (x i).1*(cbN x 3).fdiv (x i).2*e=((x i).1*e)*(cbN x 3).fdiv (x i).2:=by ac_rfl
      _=X i*((x i).2*(cbN x 3).fdiv (x i).2):=by rw [q1,CK]
      _=_:=by rw [q2]
   . refine JA (L5 (A84 (a:= .str "found") (b:= .str "found") rfl rfl AB6) (CW (ZV (a:= .val (.str "told")) rfl (BF (ds:= [.list (CD N 3 R),frD 3 x]) (AZ (a:= .val (.list (CD N 3 R))) rfl (AZ (a:= .val (frD 3 x)) rfl rfl)) sw)) rfl))
theorem ZP(f:Nat->Int):Ba.sumN 3 f=f 0+f 1+f 2:=by
 show 0+f 0+f 1+f 2=_;omega
theorem iD {N : Nat} {R : Ba.Mx} (h1 : 1 <= N) (hN : N <= 32) (hR : ∀ k, k < N -> ∀ j, j < 3 -> (R k j).natAbs <= 1) (hG : ∀ i, i < 3 -> ∀ j, j < 3 -> Ba.gram N R i j = if i = j then (N : Int) else 0) :
 P7 [.list (CD N 3 R),DD 3 c3]=some (.val (.tuple [.str "told",frD N (fun k=>fr (R k 1) N)])):=by
 have n0:(N:Int)≠0:=by omega
 have g:∀i j,i<3->j<3->Ba.gram N R i j=if i=j then (N:Int) else 0:=fun i j hi hj=>hG i hi j hj
 rcases uX h1 hN hR with ⟨q,ds,q1,q2,_⟩ | ⟨X,wh,e,E,e0,E0,hx,hw,ht⟩
 . have a1:=q1 1 (by decide);rw [ZP,g 0 1 (by decide) (by decide),g 1 1 (by decide) (by decide),g 2 1 (by decide) (by decide)] at a1
   simp only [show ¬(0:Nat)=1 by decide,show ¬(2:Nat)=1 by decide,FP,HJ,C8,LM,LN] at a1
   have a2:q 1=0:=(DL.mp a1).resolve_right n0;rw [ZP] at q2
   exact absurd (by simp [c3,a2]) q2
 . rw [ht];have x0:=hx 0 (by decide);have x1:=hx 1 (by decide);have x2:=hx 2 (by decide);rw [ZP,g 0 0 (by decide) (by decide),g 0 1 (by decide) (by decide),g 0 2 (by decide) (by decide)] at x0
   rw [ZP,g 1 0 (by decide) (by decide),g 1 1 (by decide) (by decide),g 1 2 (by decide) (by decide)] at x1
   rw [ZP,g 2 0 (by decide) (by decide),g 2 1 (by decide) (by decide),g 2 2 (by decide) (by decide)] at x2
   simp only [c3,show ¬(0:Nat)=1 by decide,show ¬(0:Nat)=2 by decide,show ¬(1:Nat)=0 by decide,show ¬(1:Nat)=2 by decide,show ¬(2:Nat)=0 by decide,show ¬(2:Nat)=1 by decide,FP,HJ,FA,LM,LN,C8,N6] at x0 x1 x2
   have z0:X 0=0:=(DL.mp x0).resolve_left n0;have z2:X 2=0:=(DL.mp x2).resolve_left n0
   have w0:wh 0=0:=by
    have:=hw 0 (by decide);rw [z0,FA] at this
    exact (DL.mp this).resolve_right e0
   have w2:wh 2=0:=by
    have:=hw 2 (by decide);rw [z2,FA] at this
    exact (DL.mp this).resolve_right e0
   have X1:X 1≠0:=fun z=>e0 (by rw [<-x1,z,C8])
   have w1:wh 1*N=E:=by
    have:=hw 1 (by decide);rw [<-x1] at this
    have e:(wh 1*N)*X 1=E*X 1:=by rw [CK,this,CN]
    exact LU X1 e
   suffices key:frD N (fun k=>fr (Ba.sumN 3 fun j=>R k j*wh j) E)=frD N (fun k=>fr (R k 1) N) by rw [key]
   refine GM PyData.list (C7 fun k _=>GM DR ?_);show fr (Ba.sumN 3 fun j=>R k j*wh j) E=fr (R k 1) N;rw [ZP,w0,w2,C8,C8,LM,LN];refine nL (by omega) n0 ?_;rw [<-w1,CK]
theorem a0 {N : Nat} {R : Ba.Mx} {s : Int} (h1 : 1 <= N) (hN : N <= 32) (hR : ∀ k, k < N -> ∀ j, j < 3 -> (R k j).natAbs <= 1) (hs : s ≠ 0) (ha : ∀ k, k < N -> R k 2 = s * R k 1) :
 ∃ds,P7 [.list (CD N 3 R),DD 3 c3]=some (.val (.tuple (.str "hidden" :: ds))):=by
 rcases uX h1 hN hR with ⟨q,ds,_,_,ht⟩ | ⟨X,wh,e,E,e0,E0,hx,hw,ht⟩
 . exact ⟨ds,ht⟩
 . have x1:=hx 1 (by decide);have x2:=hx 2 (by decide)
   have gr:∀j,Ba.gram N R 2 j=s*Ba.gram N R 1 j:=fun j=>by
    show Ba.sumN N _=s*Ba.sumN N _;rw [<-Ba.sum_mul];exact Ba.sum_congr fun k hk=>by rw [ha k hk,CK]
   rw [ZP] at x1 x2
   rw [gr,gr,gr] at x2
   simp only [c3,show ¬(2:Nat)=1 by decide,FP,HJ,C8,N6] at x1 x2
   have:s*e=0:=by
    rw [<-x1, <-x2,IZ,IZ]
    ac_rfl
   exact absurd ((DL.mp this).resolve_left hs) e0
theorem Y9{N:Nat}{a:Nat->Int}(h1:1<=N)(hN:N<=32)(ha:∀k,k<N->a k=1\/a k = -1):YA [frD N (fun k=>fr (a k) N)]=some (.val (DR (1,(N:Int)))):=by
 have hE:(N:Int)≠0:=by omega
 let w:Nat->Int×Int:=fun k=>fr (a k) N
 have BE:Bt 6 (N:Int):=by unfold Bt;omega
 have ab:∀k,k<N->Bt 1 (a k):=fun k hk=>by rcases ha k hk with h | h <;> rw [h] <;> (unfold Bt;decide)
 have hb:∀j,j<N->0<(w j).2/\(w j).2.natAbs<=2 ^ 6:=fun j hj=>⟨PX hE,GI (show Bt 6 (w j).2 from BE.fdiv)⟩;have hT:∀j,j<N->Bt 1 (w j).1:=fun j hj=>(ab j hj).fdiv;obtain ⟨c1,c2,c3'⟩:=NQ (r:=w) (D:=2 ^ 6) (m:=N) hb
 have Dm:(2 ^ 6:Nat) ^ N<=2 ^ 192:=by
  rw [<-Nat.pow_mul];exact CJ (by decide) (by omega)
 have Db:(2 ^ 6:Nat) ^ N<2 ^ 4000:=DH Dm (HN (by decide) (by decide));have Eb:Bt 193 (cbN w N):=dG (AY c2 Dm)
 have wb:∀j,j<N->Bt 194 (whN N w j):=fun j hj=>by
  show Bt 194 ((w j).1*(cbN w N).fdiv (w j).2);exact ((hT j hj).mul Eb.fdiv).mono (by decide)
 have b0:cbN w N≠0:=by omega
 have wx:∀i,i<N->whN N w i*N=a i*cbN w N:=fun i hi=>by
  show (w i).1*(cbN w N).fdiv (w i).2*N=_;have q1:(w i).1*N=a i*(w i).2:=KK hE
  have q2:(w i).2*(cbN w N).fdiv (w i).2=cbN w N:=by
   obtain ⟨v,hv⟩:=c3' i hi;rw [hv,IN _ (by have:=(hb i hi).1;omega)]
  calc (w i).1*(cbN w N).fdiv (w i).2*N=((w i).1*N)*(cbN w N).fdiv (w i).2:=by ac_rfl
   _=a i*((w i).2*(cbN w N).fdiv (w i).2):=by rw [q1,CK]
   _=_:=by rw [q2]
 have ones:∀M,M<=N->Ba.sumN M (fun k=>a k*a k)=M:=by
  intro M
  induction M with
  | zero=>intro _;rfl
  | succ M ih=>
   intro hM;show Ba.sumN M _+a M*a M=_;rw [ih (by omega)];rcases ha M (by omega) with h | h <;> rw [h] <;> omega
 have eq:fr (Ba.sumN N fun k=>whN N w k*whN N w k) (cbN w N*cbN w N)=(1,(N:Int)):=by
  have e1:fr (Ba.sumN N fun k=>whN N w k*whN N w k) (cbN w N*cbN w N)=fr 1 N:=by
   refine nL (KR b0 b0) hE ?_;refine LU hE ?_;rw [CK, <-Ba.sum_mul_right]
   have:Ba.sumN N (fun k=>whN N w k*whN N w k*((N:Int)*N))=Ba.sumN N (fun k=>(a k*a k)*(cbN w N*cbN w N)):=Ba.sum_congr fun k hk=>by
    calc whN N w k*whN N w k*((N:Int)*N)=(whN N w k*N)*(whN N w k*N):=by ac_rfl
     _=(a k*cbN w N)*(a k*cbN w N):=by rw [wx k hk]
     _=_:=by ac_rfl
   rw [this,Ba.sum_mul_right,ones N (A8 _),ND,CN]
  rw [e1];exact tU (q:=(1,(N:Int))) (by show (0:Int)<N;omega) (Int.gcd_one_left ..)
 rw [<-eq];refine DV (ρ:= [some (.val (frD N w)),none,none]) rfl rfl ?_;unfold b_q35;refine C5 (BF (ds:= [frD N w]) rfl (aH hb Db (Nat.pow_pos (by decide)) (Nat.pow_lt_pow_right (by decide) (by decide)))) ?_;refine C5 (BF (ds:= [frD N w]) rfl (aU hb (fun j hj=>(hT j hj).mono (by decide)) (by omega) Db (Nat.pow_pos (by decide)) (Nat.pow_lt_pow_right (by decide) (by decide)))) (FW ?_);show Wp _ [some (.val (frD N w)),some (.val (.int (cbN w N))),some (.val (DD N (whN N w)))] _;have s1:=VT (n:=N) (a:=whN N w) (b:=whN N w) (by omega) (fun k hk=>(wb k hk).mono (by decide)) (fun k hk=>(wb k hk).mono (by decide));have bb:Bt 386 (cbN w N*cbN w N):=Eb.mul Eb;refine CW (BF (ds:= [.int (Ba.sumN N fun k=>whN N w k*whN N w k), .int (cbN w N*cbN w N)]) (AZ (BF (ds:= [DD N (whN N w),DD N (whN N w)]) rfl s1) (AZ (a:= .val (.int (cbN w N*cbN w N))) ((AH (op:=dRep) (a:= .val (.int (cbN w N))) (b:= .val (.int (cbN w N))) rfl rfl).trans (J7 (.inr (TL (n:=193) (m:=193) Eb Eb rfl)))) rfl)) (YN (Int.mul_ne_zero b0 b0) (bb.mono (by decide)))) rfl
theorem cE{α:Type}{P:List α->Prop}(h0:P [])(h1:∀l a,P l->P (l ++ [a]))(l:List α):P l:=by
 have:∀m:List α,P m.reverse:=fun m=>by
  induction m with
  | nil=>exact h0
  | cons a m ih=>rw [JF];exact h1 _ _ ih
 rw [<-List.reverse_reverse l];exact this _
def EK(w:List Nat):List Nat:=(List.range w.length).filter fun k=>decide (w.getD k 0=1)
theorem X6(a:Nat)(w:List Nat):EK (a::w)=(if a=1 then [0] else [])++(EK w).map (· + 1):=by
 unfold EK;rw [List.length_cons,List.range_succ_eq_map,List.filter_cons,List.filter_map]
 have e:((fun k=>decide ((a::w).getD k 0=1)) ∘ Nat.succ)=fun k=>decide (w.getD k 0=1):=by
  funext k;simp [Function.comp]
 rw [e]
 by_cases h:a=1
 . simp [h]
 . simp [h]
def sg(m:Nat):Int:=if m % 2=0 then 1 else -1
theorem y6(a b:Nat):sg (a+b)=sg a*sg b:=by
 unfold sg;have h1:a % 2=0\/a % 2=1:=by omega
 have h2:b % 2=0\/b % 2=1:=by omega
 rcases h1 with h1 | h1 <;> rcases h2 with h2 | h2
 . have h3:(a+b) % 2=0:=by omega
   simp [h1,h2,h3]
 . have h3:(a+b) % 2=1:=by omega
   simp [h1,h2,h3]
 . have h3:(a+b) % 2=1:=by omega
   simp [h1,h2,h3]
 . have h3:(a+b) % 2=0:=by omega
   simp [h1,h2,h3]
theorem sg_abs(m:Nat):sg m=1\/sg m = -1:=by
 unfold sg
 split
 . exact .inl rfl
 . exact .inr rfl
theorem dA(x:List Nat)(hx:∀r ∈ x,r<2):∀e:List Nat,(∀t ∈ e,t<x.length)->Tr.valAt e (e.map fun _=>1) x=sg ((e.map fun t=>x.getD t 0).sum)
 | [],_=>rfl
 | t::e,h=>by
  have ht:=h t B5;show Tr.con 1 (x.getD t 0)*Tr.valAt e (e.map fun _=>1) x=_;rw [dA x hx e fun s hs=>h s (AN _ hs),BN,pT,y6];congr 1
  have e2:x.getD t 0=x[t]:=by simp [List.getD,ht]
  have:=hx x[t] (List.getElem_mem _);rw [e2];unfold Tr.con sg;have h3:x[t]=0\/x[t]=1:=by omega
  rcases h3 with h3 | h3 <;> rw [h3] <;> decide
theorem RZ:∀(w x:List Nat),w.length=x.length->(∀r ∈ w,r<2)->((EK w).map fun t=>x.getD t 0).sum=FS w x
 | [],[],_,_=>rfl
 | a::w,b::x,h,hw=>by
  have ih:=RZ w x (by simpa using h) fun r hr=>hw r (AN _ hr);have ha:=hw a B5;rw [X6,D0,fV,E1]
  have e:((fun t=>(b::x).getD t 0) ∘ fun t=>t+1)=fun t=>x.getD t 0:=by
   funext t;simp [Function.comp]
  rw [e,ih];show _=a*b+FS w x;have h3:a=0\/a=1:=by omega
  rcases h3 with rfl | rfl
  . simp
  . simp
theorem dQ{n:Nat}{w x:List Nat}(hw:EM 2 n w)(hx:EM 2 n x):Tr.valAt (EK w) ((EK w).map fun _=>1) x=sg (FS w x):=by
 rw [dA x hx.2 _ fun t ht=> ?_,RZ w x (by rw [hw.1,hx.1]) hw.2];have:=BC.mp (KP.mp ht).1;rw [hx.1, <-hw.1];exact this
theorem cA{n t:Nat}(h:t<n):lv1 (List.replicate n 2) t=1:=by
 unfold lv1;rw [List.getD,List.getElem?_replicate,if_pos h];rfl
theorem WI{n:Nat}:∀ {e:List Nat},(∀t ∈ e,t<n)->bk (List.replicate n 2) e = [e.map fun _=>1]:=by
 intro e;refine cE (P:=fun e=>(∀t ∈ e,t<n)->bk (List.replicate n 2) e = [e.map fun _=>1]) (fun _=>rfl) (fun e t ih=> ?_) e
 . intro h;have ht:=h t (by simp);rw [sG _ _ _ (by rw [cA ht];decide),ih fun s hs=>h s (by simp [hs]),cA ht];simp
theorem MT{n:Nat}{w:List Nat}(hw:EM 2 n w):∀t ∈ EK w,t<n:=fun t ht=>by
 have:=BC.mp (KP.mp ht).1;rw [hw.1] at this
 exact this
theorem g7{n:Nat}:∀ {e:List Nat},(∀t ∈ e,t<n)->Tr.prodN (e.map (lv1 (List.replicate n 2)))=1:=fun {e} h=>by
 rw [<-kA,WI h];rfl
theorem aB{n:Nat}{e:List Nat}(h:∀t ∈ e,t<n)(hp:e.Pairwise (· < ·)):Y5 (List.replicate n 2) 100 e:=⟨hp,fun t ht=>by rw [CF];exact h t ht,by rw [g7 h];decide⟩
theorem UY(w:List Nat):(EK w).Pairwise (· < ·):=List.Pairwise.filter _ List.pairwise_lt_range
def P3(e g:List Nat):List (List Nat×List Nat):= [([],[]),(EK e,(EK e).map fun _=>1),(EK g,(EK g).map fun _=>1)]
theorem A72{n:Nat}{e g:List Nat}(he:EM 2 n e)(hg:EM 2 n g):QL (List.replicate n 2) [[],EK e,EK g]=P3 e g:=by
 unfold QL P3;simp only [List.flatMap_cons,List.flatMap_nil,zD,WI (MT he),WI (MT hg),List.map_cons,List.map_nil,List.append_nil];rfl
theorem TM{n:Nat}{w:List Nat}(n6:n<=6)(hw:EM 2 n w):UR [AB w]=some (.val (AB (EK w))):=by
 have sl:=ED
 let W0:Option Sl:=some (.val (AB w))
 refine DV (ρ:= [W0]) rfl rfl ?_;unfold b_q10;have hl:=hw.1;refine CW (D5 (ss:= [.own (nl (EK w))]) (EC (as:= []) (EY (ds:=G5 0 w.length) (J8 (EC (D5 (ss:= [.val (AB w)]) rfl (by show some (Sl.val (.int (((nl w).length:Nat):Int)))=_;rw [GZ])) rfl) (by omega)) (by rw [G5,List.length_map,List.length_range];omega) ?_) rfl) rfl) rfl
 have er:G5 0 w.length=(List.range w.length).map fun k:Nat=>PyData.int (k:Int):=by
  unfold G5;exact List.map_congr_left fun k _=>by rw [Int.zero_add]
 rw [er];refine O1 (en:=fun k:Nat=>PyData.int (k:Int)) (g:=fun k:Nat=>PyData.int (k:Int)) (b:=fun k=>decide (w.getD k 0=1)) fun k hk=> ?_;have hk:=BC.mp hk;refine w5 (fg:=gVar 1) (ρ0:= [W0,none]) (d:= .int (k:Int)) (ρ1:= [W0,some (.val (.int (k:Int)))]) (r:= .val (.int (k:Int))) rfl ?_ rfl;have gk:w[k]? = some w[k]:=AD hk;have e2:w.getD k 0=w[k]:=by simp [List.getD,hk]
 rw [e2];refine (NV (i:=((w[k]:Nat):Int)) (j:=1) ((AH (op:=dix) (a:= .val (AB w)) (b:= .val (.int (k:Int))) rfl rfl).trans (J9 (.inr rfl) (by unfold nl;rw [List.getElem?_map,gk];rfl))) rfl).trans ?_;congr 1
 exact IA.mpr (by omega)
theorem gQ(f:List Nat->Int)(X:List (List Nat)):Ba.sumN X.length (fun k=>f (X.getD k []))=(X.map f).sum:=by
 refine cE (P:=fun X=>Ba.sumN X.length (fun k=>f (X.getD k []))=(X.map f).sum) rfl (fun X x ih=> ?_) X
 . rw [AO,D0,fV, <-ih];show Ba.sumN X.length _+_=_;congr 1
   . exact Ba.sum_congr fun k hk=>by rw [List.getD,A9 hk,List.getD]
   . simp [List.getD]
theorem OU(T:List (List Nat))(x e g:List Nat)(i j:Nat):Hi.cnt 2 (x::T) e g i j=(if FS e x % 2=i/\FS g x % 2=j then 1 else 0)+Hi.cnt 2 T e g i j:=by
 unfold Hi.cnt;rw [List.filter_cons]
 by_cases h:FS e x % 2=i/\FS g x % 2=j
 . have h':Sp.dot e x % 2=i/\Sp.dot g x % 2=j:=h;rw [AU h,AU (BG h'),B9,LJ]
 . have h':¬(Sp.dot e x % 2=i/\Sp.dot g x % 2=j):=h;rw [AR h,AR (by rw [H9];exact h'),I9]
theorem bU(F:Nat->Nat->Int)(e g:List Nat):∀T:List (List Nat),(T.map fun x=>F (FS e x % 2) (FS g x % 2)).sum=F 0 0*Hi.cnt 2 T e g 0 0+F 0 1*Hi.cnt 2 T e g 0 1+F 1 0*Hi.cnt 2 T e g 1 0+F 1 1*Hi.cnt 2 T e g 1 1
 | []=>by simp [Hi.cnt]
 | x::T=>by
  rw [BN,pT,bU F e g T,OU,OU,OU,OU];have h1:FS e x % 2=0\/FS e x % 2=1:=by omega
  have h2:FS g x % 2=0\/FS g x % 2=1:=by omega
  rcases h1 with h1 | h1 <;> rcases h2 with h2 | h2 <;> rw [h1,h2] <;> simp [IZ] <;> omega
def MZ(e g:List Nat)(T:List (List Nat)):Ba.Mx:=A35 (P3 e g) T
theorem VV(e g:List Nat)(T:List (List Nat))(k:Nat):MZ e g T k 0=1:=rfl
theorem Q1{n:Nat}{e g:List Nat}{T:List (List Nat)}(he:EM 2 n e)(hT:∀x ∈ T,EM 2 n x){k:Nat}(hk:k<T.length):MZ e g T k 1=sg (FS e (T.getD k [])):=by
 show Tr.valAt (EK e) ((EK e).map fun _=>1) (T.getD k [])=_;exact dQ he (hT _ (by rw [List.getD,AD hk];exact G8 _))
theorem S9{n:Nat}{e g:List Nat}{T:List (List Nat)}(hg:EM 2 n g)(hT:∀x ∈ T,EM 2 n x){k:Nat}(hk:k<T.length):MZ e g T k 2=sg (FS g (T.getD k [])):=by
 show Tr.valAt (EK g) ((EK g).map fun _=>1) (T.getD k [])=_;exact dQ hg (hT _ (by rw [List.getD,AD hk];exact G8 _))
theorem mL{n:Nat}{e g:List Nat}{T:List (List Nat)}(he:EM 2 n e)(hg:EM 2 n g)(hT:∀x ∈ T,EM 2 n x):∀k,k<T.length->∀j,j<3->(MZ e g T k j).natAbs<=1:=fun k hk j hj=>by
 have:j=0\/j=1\/j=2:=by omega
 rcases this with rfl | rfl | rfl
 . rw [VV];decide
 . rw [Q1 he hT hk];rcases sg_abs (FS e (T.getD k [])) with h | h <;> rw [h] <;> decide
 . rw [S9 hg hT hk];rcases sg_abs (FS g (T.getD k [])) with h | h <;> rw [h] <;> decide
def sF(i:Nat):Int:=if i=0 then 1 else -1
theorem U0(m:Nat):sg m=sF (m % 2):=rfl
theorem AF1{a b c d:Nat}(ha:a<2)(hb:b<2)(hc:c<2)(hd:d<2)(h:a=b↔c=d):sF c=sF d*sF b*sF a:=by
 have h1:a=0\/a=1:=by omega
 have h2:b=0\/b=1:=by omega
 have h3:c=0\/c=1:=by omega
 have h4:d=0\/d=1:=by omega
 rcases h1 with rfl | rfl <;> rcases h2 with rfl | rfl <;> rcases h3 with rfl | rfl <;> rcases h4 with rfl | rfl <;> first | rfl | (exfalso;simp at h)
theorem gN {n : Nat} {U : List (List Nat)} (hU : ∀ u ∈ U, EM 2 n u) {x0 : List Nat} {T : List (List Nat)} (C : Ew.CutOk 2 n U x0 T) {e g : List Nat} (he : EM 2 n e) (hg : EM 2 n g) (ne : e ∉ Sp.spanM 2 n U) (ng : g ∉ Sp.spanM 2 n U) (nh : ¬ Hi.Hid 2 (Sp.spanM 2 n U) e g) :
 ∀i,i<3->∀j,j<3->Ba.gram T.length (MZ e g T) i j=if i=j then (T.length:Int) else 0:=by
 have hT:∀x ∈ T,EM 2 n x:=fun x hx=>((C.mem x).mp hx).1;have ev:=fun {i j:Nat} (hi:i<2) (hj:j<2)=>Hi.even2 (.inl rfl) hU C he hg ne ng nh hi hj;have c00:=ev (i:=0) (j:=0) (by decide) (by decide);have c01:=ev (i:=0) (j:=1) (by decide) (by decide);have c10:=ev (i:=1) (j:=0) (by decide) (by decide);have c11:=ev (i:=1) (j:=1) (by decide) (by decide)
 have key:∀(a b:Nat) (F:Nat->Nat->Int),(∀k,k<T.length->MZ e g T k a*MZ e g T k b=F (FS e (T.getD k []) % 2) (FS g (T.getD k []) % 2))->Ba.gram T.length (MZ e g T) a b=F 0 0*Hi.cnt 2 T e g 0 0+F 0 1*Hi.cnt 2 T e g 0 1+F 1 0*Hi.cnt 2 T e g 1 0+F 1 1*Hi.cnt 2 T e g 1 1:=fun a b F h=>by
  rw [<-bU, <-gQ];exact Ba.sum_congr h
 have g00:=key 0 0 (fun _ _=>1) fun k hk=>by rw [VV];rfl
 have g01:=key 0 1 (fun i _=>sF i) fun k hk=>by rw [VV,Q1 he hT hk,ND,U0]
 have g02:=key 0 2 (fun _ j=>sF j) fun k hk=>by rw [VV,S9 hg hT hk,ND,U0]
 have g11:=key 1 1 (fun i _=>sF i*sF i) fun k hk=>by rw [Q1 he hT hk,U0]
 have g12:=key 1 2 (fun i j=>sF i*sF j) fun k hk=>by rw [Q1 he hT hk,S9 hg hT hk,U0,U0]
 have g22:=key 2 2 (fun _ j=>sF j*sF j) fun k hk=>by rw [S9 hg hT hk,U0]
 have g10:=Ba.gram_sym (N:=T.length) (R:=MZ e g T) 1 0;have g20:=Ba.gram_sym (N:=T.length) (R:=MZ e g T) 2 0;have g21:=Ba.gram_sym (N:=T.length) (R:=MZ e g T) 2 1;simp only [sF,FP,show ¬(1:Nat)=0 by decide,HJ] at g00 g01 g02 g11 g12 g22
 intro i hi j hj;have h1:i=0\/i=1\/i=2:=by omega
 have h2:j=0\/j=1\/j=2:=by omega
 rcases h1 with rfl | rfl | rfl <;> rcases h2 with rfl | rfl | rfl <;> simp only [FP,show ¬(0:Nat)=1 by decide,show ¬(0:Nat)=2 by decide,show ¬(1:Nat)=0 by decide,show ¬(1:Nat)=2 by decide,show ¬(2:Nat)=0 by decide,show ¬(2:Nat)=1 by decide,HJ] <;> omega
theorem bF {n : Nat} {U : List (List Nat)} (hU : ∀ u ∈ U, EM 2 n u) {x0 : List Nat} {T : List (List Nat)} (C : Ew.CutOk 2 n U x0 T) (h1 : 1 <= T.length) {e g : List Nat} (he : EM 2 n e) (hg : EM 2 n g) (h : Hi.Hid 2 (Sp.spanM 2 n U) e g) :
 ∃s:Int,s≠0/\∀k,k<T.length->MZ e g T k 2=s*MZ e g T k 1:=by
 have hT:∀x ∈ T,EM 2 n x:=fun x hx=>((C.mem x).mp hx).1;have mem:∀k,k<T.length->T.getD k [] ∈ T:=fun k hk=>by rw [List.getD,AD hk];exact G8 _
 let s:=sg (FS g (T.getD 0 []))*sg (FS e (T.getD 0 []))
 refine ⟨s,?_,fun k hk=> ?_⟩
 . show sg _*sg _≠0;rcases sg_abs (FS g (T.getD 0 [])) with a | a <;> rcases sg_abs (FS e (T.getD 0 [])) with b | b <;> rw [a,b] <;> decide
 . rw [Q1 he hT hk,S9 hg hT hk];have d:=Hi.hid_det (.inl rfl) hU C he h (mem k hk) (mem 0 (by omega));have d:FS e (T.getD k []) % 2=FS e (T.getD 0 []) % 2↔FS g (T.getD k []) % 2=FS g (T.getD 0 []) % 2:=d;show sg _=sg _*sg _*sg _;rw [U0,U0,U0,U0];exact AF1 (DC _ (by decide)) (DC _ (by decide)) (DC _ (by decide)) (DC _ (by decide)) d
theorem sP{n k:Nat}{g:En->Option Out}{ρ:En}{ds:List PyData}{Q:Sl->Prop}(hl:ds.length=k)(e:ds.map (fun d=>some (Sl.val d))++List.replicate (n - ds.length) none=ρ)(h:Wp g ρ (fun o=>∃r,Rt r o/\Q r)):∃r,EU n g k ds=some r/\Q r:=by
 obtain ⟨o,h1,r,h2,h3⟩:=h;exact ⟨r,DV hl e ⟨o,h1,h2⟩,h3⟩
theorem A62{n:Nat}(h:n<=5):2 ^ n<=32:=AY (CJ (by decide) h) (show 2 ^ 5<=32 by decide)
def gO(w:List Nat)(j:Nat):List Nat:=w.take j ++ [1 - w.getD j 0]++w.drop (j+1)
theorem qV{n:Nat}{w:List Nat}(hw:EM 2 n w){j:Nat}(hj:j<n):EM 2 n (gO w j):=by
 have hl:=hw.1;refine ⟨?_,fun r hr=> ?_⟩
 . unfold gO;simp only [List.length_append,List.length_take,List.length_drop,List.length_cons,List.length_nil];omega
 . unfold gO at hr
   rcases CM.mp hr with hr | hr
   . rcases CM.mp hr with hr | hr
     . exact hw.2 r (HM hr)
     . cases AJ.mp hr
       omega
   . exact hw.2 r (List.mem_of_mem_drop hr)
theorem A05{w:List Nat}{j:Nat}(hj:j<=w.length):IC (nl w) none (some (j:Int))=nl (w.take j):=by
 unfold IC;rw [HT.sIx_none,HT.sIx_nat,GZ,List.drop_zero,Nat.sub_zero,Nat.min_eq_left hj];unfold nl;rw [<-List.map_take]
theorem zX{w:List Nat}{j:Nat}(hj:j<=w.length):IC (nl w) (some (j:Int)) none=nl (w.drop j):=by
 unfold IC;rw [HT.sIx_none,HT.sIx_nat,GZ,Nat.min_eq_left hj];unfold nl;rw [<-List.map_drop,List.take_of_length_le (by rw [List.length_map,List.length_drop];exact Nat.le_refl _)]
theorem fG{xs ys:List PyData}(h:xs.length+ys.length<=sizeLine):dAdd (.val (.tuple xs)) (.val (.tuple ys))=some (.val (.tuple (xs++ys))):=AU h
theorem oC {n : Nat} (n5 : n <= 5) {w : List Nat} (hw : EM 2 n w) {j : Nat} (hj : j < n) {ρ : En} (h5 : (ρ[5]?).join = some (.val (AB w))) (h6 : (ρ[6]?).join = some (.val (.int (j : Nat)))) :
 (mBin dAdd (mBin dAdd (mSl (mPk 5) mNoPart (mPart (mPk 6))) (mTup (mCons (mBin dSub (mK (.int 1)) (mBin dix (mPk 5) (mPk 6))) mNil))) (mSl (mPk 5) (mPart (mBin dAdd (mPk 6) (mK (.int 1)))) mNoPart)) ρ=some (.val (AB (gO w j))):=by
 have sl:=ED;have hl:=hw.1;have p5:mPk 5 ρ=some (.val (AB w)):=h5;have p6:mPk 6 ρ=some (.val (.int (j:Nat))):=h6;have gj:w[j]? = some w[j]:=AD (by omega);have ej:w.getD j 0=w[j]:=by simp [List.getD,show j<w.length by omega]
 have b:=hw.2 w[j] (G8 _)
 have e1:mSl (mPk 5) mNoPart (mPart (mPk 6)) ρ=some (.val (.tuple (nl (w.take j)))):=by
  unfold mSl mPart;rw [p5,p6];show dSl (.val (AB w)) none (some (j:Int))=_;unfold dSl;show (if HT.sIx (nl w).length 0 none=0/\HT.sIx (nl w).length (nl w).length (some (j:Int))=(nl w).length then none else some (Sl.val (.tuple (IC (nl w) none (some (j:Int))))))=_;rw [if_neg (by rw [HT.sIx_none,HT.sIx_nat,GZ];omega),A05 (by omega)]
 have e2:mTup (mCons (mBin dSub (mK (.int 1)) (mBin dix (mPk 5) (mPk 6))) mNil) ρ=some (.val (.tuple (nl [1 - w[j]]))):=by
  refine (zS (a:= .val (.int (((1 - w[j]:Nat)):Int))) ((AH (op:=dSub) (a:= .val (.int 1)) (b:= .val (.int ((w[j]:Nat):Int))) rfl ((AH (op:=dix) p5 p6).trans (J9 (.inr rfl) (by unfold nl;rw [List.getElem?_map,gj];rfl)))).trans ?_)).trans rfl;show some (Sl.val (.int (1 - ((w[j]:Nat):Int))))=_;congr 3
  omega
 have e3:mSl (mPk 5) (mPart (mBin dAdd (mPk 6) (mK (.int 1)))) mNoPart ρ=some (.val (.tuple (nl (w.drop (j+1))))):=by
  have p7:mBin dAdd (mPk 6) (mK (.int 1)) ρ=some (.val (.int ((j+1:Nat):Int))):=(AH (op:=dAdd) p6 (b:= .val (.int 1)) rfl).trans rfl;unfold mSl mPart;rw [p5,p7];show dSl (.val (AB w)) (some ((j+1:Nat):Int)) none=_;unfold dSl;show (if HT.sIx (nl w).length 0 (some ((j+1:Nat):Int))=0/\HT.sIx (nl w).length (nl w).length none=(nl w).length then none else some (Sl.val (.tuple (IC (nl w) (some ((j+1:Nat):Int)) none))))=_;rw [if_neg (by rw [HT.sIx_nat,GZ];omega),zX (by omega)]
 have e4:=(AH (op:=dAdd) e1 e2).trans (fG (by rw [GZ,GZ,List.length_take];simp;omega));refine ((AH (op:=dAdd) e4 e3).trans (fG (by rw [List.length_append,GZ,GZ,GZ,List.length_take,List.length_drop];simp;omega))).trans ?_;rw [<-WE, <-WE];unfold gO;rw [ej];rfl
theorem nQ {n : Nat} (n1 : 1 <= n) (n5 : n <= 5) {S : List (List Nat)} (hS : ∀ w ∈ S, EM 2 n w) (h0 : 0 < S.length) (c : Int) :
 ∃r,mY [.int c, .int (n:Nat), .list (S.map AB)]=some r/\∃a b,r = .own [AB a,AB b]/\EM 2 n a/\EM 2 n b:=by
 have sl:=ED
 let C0:Option Sl:=some (.val (.int c))
 let N1:Option Sl:=some (.val (.int (n:Nat)))
 let S2:Option Sl:=some (.val (.list (S.map AB)))
 refine sP (ρ:= [C0,N1,S2,none,none,none,none,none]) rfl rfl ?_;unfold b_q7;refine C5 (r:= .own []) PL ?_;refine GC (P:=fun ρ=>∃(a b:List Nat) (z4 z5 z6:Option Sl),ρ = [C0,N1,S2,some (.own [AB a,AB b]),z4,z5,z6,none]/\EM 2 n a/\EM 2 n b) ?_ ?_
 . refine OF (n:=2) (fun k ρ=>∃(L:List (List Nat)) (z4 z5 z6:Option Sl),ρ = [C0,N1,S2,some (.own (L.map AB)),z4,z5,z6,none]/\L.length=k/\∀w ∈ L,EM 2 n w) (J8 (j:=2) rfl (by decide)) ⟨[],none,none,none,rfl,rfl,by simp⟩ ?_ ?_
   . rintro k ρ hk ⟨L,z4,z5,z6,rfl,hL,hw⟩
     let L3:Option Sl:=some (.own (L.map AB))
     let K4:Option Sl:=some (.val (.int (k:Nat)))
     obtain ⟨w,ew,ow⟩:=RM c (k:=8+k) (p:=2) (n:=n) (by omega) (by decide) (by decide) (by omega);refine ⟨_,rfl,?_⟩;refine C5 (r:= .val (AB w)) (BF (ds:= [.int c, .int ((8+k:Nat):Int), .int ((2:Nat):Int), .int (n:Nat)]) ?_ ew) ?_
     . have e8:mBin dAdd (mK (.int 8)) (mPk 4) [C0,N1,S2,L3,K4,z5,z6,none]=some (.val (.int ((8+k:Nat):Int))):=(AH (op:=dAdd) (a:= .val (.int 8)) (b:= .val (.int (k:Nat))) rfl rfl).trans (by show some (Sl.val (.int (8+(k:Int))))=_;congr 3);exact AZ (a:= .val (.int c)) rfl (AZ e8 (AZ (a:= .val (.int 2)) rfl (AZ (a:= .val (.int (n:Nat))) (as:= []) rfl rfl)))
     show Wp _ [C0,N1,S2,L3,K4,some (.val (AB w)),z6,none] _;refine GC (P:=fun ρ=>∃(w:List Nat) (z6:Option Sl),ρ = [C0,N1,S2,L3,K4,some (.val (AB w)),z6,none]/\EM 2 n w) ?_ ?_
     . refine OF (n:=n) (fun _ ρ=>∃(w:List Nat) (z6:Option Sl),ρ = [C0,N1,S2,L3,K4,some (.val (AB w)),z6,none]/\EM 2 n w) (J8 rfl (by omega)) ⟨w,_,rfl,ow⟩ ?_ (fun ρ h=>h);rintro j ρ hj ⟨w,z6,rfl,ow⟩;refine ⟨_,rfl,?_⟩;show Wp _ [C0,N1,S2,L3,K4,some (.val (AB w)),some (.val (.int (j:Nat))),none] _;have tt:=kE (FY ((AH (op:=IG false) (fa:=mPk 5) (fb:=mPk 2) (ρ:= [C0,N1,S2,L3,K4,some (.val (AB w)),some (.val (.int (j:Nat))),none]) (a:= .val (AB w)) (b:= .val (.list (S.map AB))) rfl rfl).trans (SO w S))) (FY ((AH (op:=IG false) (fa:=mPk 5) (fb:=mPk 3) (ρ:= [C0,N1,S2,L3,K4,some (.val (AB w)),some (.val (.int (j:Nat))),none]) (a:= .val (AB w)) (b:= .own (L.map AB)) rfl rfl).trans (SO w L)));refine UJ tt ?_
       split
       . exact K9 (oC n5 ow hj rfl rfl) ⟨gO w j,_,rfl,qV ow hj⟩
       . exact MR ⟨w,_,rfl,ow⟩
     . rintro ρ ⟨w,z6,rfl,ow⟩;refine FW ?_;show Wp _ [C0,N1,S2,L3,K4,some (.val (AB w)),z6,none] _;refine QE (SN (r:= .val (AB w)) rfl rfl (by rw [A4];omega)) ⟨L ++ [w],K4,some (.val (AB w)),z6,?_,by rw [AO];simp;exact hL,fun y hy=> ?_⟩
       . show [C0,N1,S2,some (Sl.own (L.map AB ++ [AB w])),K4,some (.val (AB w)),z6,none]=_;rw [D0];rfl
       . rcases CM.mp hy with hy | hy
         . exact hw y hy
         . cases AJ.mp hy
           exact ow
   . rintro ρ ⟨L,z4,z5,z6,rfl,hL,hw⟩
     match L,hL,hw with
     | [a,b],_,hw=>exact ⟨a,b,_,_,_,rfl,hw a (by simp),hw b (by simp)⟩
 . rintro ρ ⟨a,b,z4,z5,z6,rfl,oa,ob⟩
   let T3:Option Sl:=some (.own [AB a,AB b])
   have tt:mTest (mBin deq (mBin EH (mBin DN (mPk 0) (mK (.int 9))) (mK (.int 3))) (mK (.int 0))) [C0,N1,S2,T3,z4,z5,z6,none]=some (decide ((c.fdiv 9).fmod 3=0)):=NV ((AH (op:=EH) ((AH (op:=DN) (a:= .val (.int c)) (b:= .val (.int 9)) rfl rfl).trans (MC (by decide) (by decide))) (b:= .val (.int 3)) rfl).trans (NR (by decide))) rfl;refine JA (UJ tt ?_)
   split
   . obtain ⟨v, ev, hv⟩ := IJ (fa := mBin DN (mPk 0) (mK (.int 27))) (fb := mCallP dLen (mConsP (mPk 2) mNilP)) (ρ := [C0, N1, S2, T3, z4, z5, z6, none]) (i := c.fdiv 27) (m := ((S.length : Nat) : Int)) ((AH (op := DN) (a := .val (.int c)) (b := .val (.int 27)) rfl rfl).trans (MC (by decide) (by decide))) (D5 (ss := [.val (.list (S.map AB))]) rfl (by
      show some (Sl.val (.int (((S.map AB).length:Nat):Int)))=_;rw [A4])) (by omega)
     have hv':v<S.length:=by omega
     have gv:S[v]? = some S[v]:=AD hv';have os:=hS S[v] (G8 _);generalize S[v]=o at gv os
     refine C5 (r:= .val (AB o)) ((AH (op:=dix) (a:= .val (.list (S.map AB))) (b:= .val (.int (v:Nat))) rfl ev).trans (J9 (.inl rfl) (by rw [B3,gv];rfl))) (FW ?_)
     let O7:Option Sl:=some (.val (AB o))
     show Wp _ [C0,N1,S2,T3,z4,z5,z6,O7] _
     have zi:GQ (mCons (mVar 7) (mCons (mBin dix (mPk 3) (mK (.int 0))) mNil)) [C0,N1,S2,T3,z4,z5,z6,O7]=some ((List.zip o a).map enP):=by
      unfold GQ;rw [AZ (a:= .val (AB o)) rfl (AZ (a:= .val (AB a)) (as:= []) ((AH (op:=dix) (a:= .own [AB a,AB b]) (b:= .val (.int 0)) rfl rfl).trans rfl) rfl)];show some (JK (nl o) (nl a))=_;rw [MW]
     have zl:((List.zip o a).map enP).length<sizeLine:=by
      rw [A4,IT,os.1];omega
     let s:List Nat:=(List.zip o a).map fun q=>(q.1+q.2) % 2
     have ek:mCallP dTuple (mConsP (mLC (CP [none,none]) (GQ (mCons (mVar 7) (mCons (mBin dix (mPk 3) (mK (.int 0))) mNil))) (gTupD [(gVar 0),(gVar 1)]) mYes (mBin EH (mBin dAdd (mPk 0) (mPk 1)) (mK (.int 2)))) mNilP) [C0,N1,S2,T3,z4,z5,z6,O7]=some (.val (AB s)):=by
      refine D5 (EC (a:= .own (nl s)) (as:= []) (EY zi zl ?_) rfl) rfl;refine (CG (en:=enP) (g:=fun q=> .int (((q.1+q.2) % 2:Nat):Int)) (xs:=List.zip o a) fun q hq=> ?_).trans (by simp [nl,s]);refine HD (fg:=gTupD [gVar 0,gVar 1]) (ρ0:= [none,none]) (d:=enP q) (ρ1:= [some (.val (.int (q.1:Nat))),some (.val (.int (q.2:Nat)))]) (r:= .val (.int (((q.1+q.2) % 2:Nat):Int))) rfl ?_;refine (AH (op:=EH) ((AH (op:=dAdd) (a:= .val (.int (q.1:Nat))) (b:= .val (.int (q.2:Nat))) rfl rfl).trans (show _=some (Sl.val (.int ((q.1:Int)+(q.2:Int)))) from rfl)) (b:= .val (.int 2)) rfl).trans ((NR (by decide)).trans ?_);rw [FL _ (by omega), <-fW];rfl
     have okS:EM 2 n s:=by
      refine ⟨by show (List.map _ _).length=n;rw [A4,IT,os.1,oa.1,wK],fun r hr=> ?_⟩;obtain ⟨q,_,rfl⟩:=BK.mp hr;exact DC _ (by decide)
     refine QE (aY (i:=3) (j:=1) (k:=1) ek rfl rfl rfl) ?_;exact CW (r:= .own [AB a,AB s]) rfl ⟨_,rfl,a,s,rfl,oa,okS⟩
   . exact MR (CW (r:= .own [AB a,AB b]) rfl ⟨_,rfl,a,b,rfl,oa,ob⟩)
theorem lR:(PyData.str "told").canLay0=true/\(PyData.str "hidden").canLay0=true:=by decide +kernel
theorem AE7{ρ:En}:mTup mNil ρ=some (.val (AB [])):=AU (e:=none) (show 0<=sizeLine by decide)
theorem h9 {n : Nat} (n1 : 1 <= n) (n5 : n <= 5) {U : List (List Nat)} (hU : ∀ w ∈ U, EM 2 n w) (hl : U.length <= 900) (cl : Int) :
 lJ [.int (n:Nat), .list (U.map AB), .int cl]=some (.val (.bool true)):=by
 have sl:=ED;have hq:Pr 2:= .inl rfl;have n6:n<=6:=by omega
 have hpn:2 ^ n<=63:=AY (A62 n5) (by decide);obtain ⟨scl,snd,tnd,tm⟩:=Sp.span_take (n:=n) hq hU
 let S:=KA (Sp.spanT 2 n U)
 have memS:∀w,w ∈ S↔w ∈ Sp.spanM 2 n U:=fun w=>((IH _).mem_iff).trans (tm w).symm;have okS:∀w ∈ S,EM 2 n w:=fun w hw=>scl.ok w ((memS w).mp hw);have posS:0<S.length:=wH ((memS _).mpr scl.z);obtain ⟨x0,ex0,hx0⟩:=RM cl (k:=5) (p:=2) (n:=n) (by decide) (by decide) (by decide) n6;obtain ⟨_,ee,e,g,rfl,oe,og⟩:=nQ n1 n5 okS posS cl
 let N0:Option Sl:=some (.val (.int (n:Nat)))
 let U1:Option Sl:=some (.val (.list (U.map AB)))
 let C2:Option Sl:=some (.val (.int cl))
 let S3:Option Sl:=some (.val (.list (S.map AB)))
 let X4:Option Sl:=some (.val (AB x0))
 let E8:Option Sl:=some (.val (AB e))
 let G9:Option Sl:=some (.val (AB g))
 let R:=OP 2 U x0
 let T:=kG 2 n U x0
 have C:=lX (p:=2) (n:=n) (by decide) U x0;have okT:∀x ∈ T,EM 2 n x:=fun x hx=>((C.mem x).mp hx).1;have Tpos:1<=T.length:=List.length_pos_of_mem ((C.mem x0).mpr ⟨hx0,fun _ _=>rfl⟩);have Tlen:T.length<=32:=Nat.le_trans (Sp.len_le (p:=2) (n:=n) C.nd okT) (A62 n5);refine DV (ρ:= [N0,U1,C2,none,none,none,none,none,none,none]) rfl rfl ?_;unfold b_q8;refine C5 (r:= .own (S.map AB)) (BF (ds:= [.int ((2:Nat):Int), .int (n:Int), .list (U.map AB)]) rfl (iU hq n1 n6 hpn hU)) ?_;refine GS (ρ':= [N0,U1,C2,S3,none,none,none,none,E8,G9]) ?_ ?_
 . rw [PU];exact qF (ρ:= [N0,U1,C2,S3,none,none,none,none,none,none]) (r:= .own [AB e,AB g]) (BF (ds:= [.int cl, .int (n:Nat), .list (S.map AB)]) rfl ee) rfl
 have inS:∀(j:Nat) (w:List Nat),([N0,U1,C2,S3,none,none,none,none,E8,G9]:En)[j]?.join=some (.val (AB w))->(mTest (mBin (IG false) (mPk j) (mPk 3))) [N0,U1,C2,S3,none,none,none,none,E8,G9]=some (decide (w ∈ S)):=fun j w hj=>FY ((AH (op:=IG false) (a:= .val (AB w)) (b:= .val (.list (S.map AB))) (by unfold mPk;rw [hj]) rfl).trans (SO w S))
 have teq:mTest (mBin deq (mPk 8) (mPk 9)) [N0,U1,C2,S3,none,none,none,none,E8,G9]=some (decide (e=g)):=by
  refine FY ((AH (op:=deq) (a:= .val (AB e)) (b:= .val (AB g)) rfl rfl).trans ?_);have d1:=QT e;have d2:=QT g;show (eqD (AB e) (AB g)).map _=_;unfold eqD;rw [if_pos ⟨MG e,MG g,by omega⟩,VC];rfl
 have tor:=kE (inS 8 e rfl) (kE (inS 9 g rfl) teq)
 by_cases hin:e ∈ S\/g ∈ S\/e=g
 . refine JA (L5 (tor.trans ?_) (CW (r:= .val (.bool true)) rfl rfl));rcases hin with h | h | h
   . rw [BG h,Bool.true_or]
   . rw [BG h,Bool.true_or,WW]
   . rw [BG h,WW,WW]
 have ne:e ∉ S:=fun h=>hin (.inl h);have ng:g ∉ S:=fun h=>hin (.inr (.inl h));have neg:e≠g:=fun h=>hin (.inr (.inr h));refine JY (tor.trans (by rw [B8 ne,B8 ng,B8 neg];rfl)) ?_;have ne':e ∉ Sp.spanM 2 n U:=fun h=>ne ((memS e).mpr h);have ng':g ∉ Sp.spanM 2 n U:=fun h=>ng ((memS g).mpr h);refine C5 (r:= .val (AB x0)) (BF (ds:= [.int cl, .int ((5:Nat):Int), .int ((2:Nat):Int), .int (n:Nat)]) rfl ex0) ?_
 let T5:Option Sl:=some (.val (.list (T.map AB)))
 let T5o:Option Sl:=some (.own (T.map AB))
 refine GS (ρ':= [N0,U1,C2,S3,X4,T5o,none,none,E8,G9]) ?_ ?_
 . rw [PU];refine EL (ρ:= [N0,U1,C2,S3,X4,none,none,none,E8,G9]) (BF (ds:= [.int ((2:Nat):Int), .int (n:Nat), .list (R.map LH)]) ?_ ?_)
   . refine AZ (a:= .val (.int 2)) rfl (AZ (a:= .val (.int (n:Nat))) rfl (AZ (a:= .own (R.map LH)) (as:= []) (EY (ds:=U.map AB) rfl (by rw [List.length_map];omega) ?_) rfl));refine (CG (en:=AB) (g:=fun u=>LH (u,FS u x0 % 2)) (xs:=U) fun u hu=> ?_).trans (by unfold R OP;rw [List.map_map];rfl);exact HD (fg:=gVar 1) (ρ0:= [X4,none]) (d:=AB u) (ρ1:= [X4,some (.val (AB u))]) (r:= .val (LH (u,FS u x0 % 2))) rfl (ZV (a:= .val (AB u)) rfl (BF (ds:= [.int ((2:Nat):Int),AB u,AB x0]) rfl (mV (by decide) (by decide) n6 (hU u hu) x0)))
   . refine qO (by decide) (by decide) n6 (by omega) (fun q hq=> ?_) (by unfold R OP;rw [List.length_map];omega);obtain ⟨u,hu,rfl⟩:=List.mem_map.mp hq;exact hU u hu
 let Rm:=MZ e g T
 let M6o:Option Sl:=some (.own (CD T.length 3 Rm))
 let M6:Option Sl:=some (.val (.list (CD T.length 3 Rm)))
 refine GS (ρ':= [N0,U1,C2,S3,X4,T5,M6o,none,E8,G9]) ?_ ?_
 . rw [PU];refine EL (ρ:= [N0,U1,C2,S3,X4,T5,none,none,E8,G9]) (BF (ds:= [.list (nl (List.replicate n 2)), .list (T.map AB), .list ([[],EK e,EK g].map AB)]) ?_ ?_)
   . refine AZ (a:= .own (nl (List.replicate n 2))) (EY (ds:=G5 0 n) (J8 rfl (by omega)) (by rw [G5,A4,AI];omega) ?_) (AZ (a:= .val (.list (T.map AB))) rfl (AZ (a:= .own ([[],EK e,EK g].map AB)) (as:= []) ?_ rfl))
     . refine (K0 (g:=fun _=> .int ((2:Nat):Int)) fun i hi=> ?_).trans ?_
       . exact HD (fg:=gVar 0) (ρ0:= [none]) (d:= .int (0+(i:Nat))) (ρ1:= [some (.val (.int (0+(i:Nat))))]) (r:= .val (.int 2)) rfl rfl
       . congr 1
         unfold nl;rw [List.map_replicate,List.map_const',List.length_range]
     . unfold mLst;rw [AZ AE7 (AZ (BF (ds:= [AB e]) rfl (TM n6 oe)) (AZ (BF (ds:= [AB g]) rfl (TM n6 og)) (show mNil _=some [] from rfl)))];exact if_pos (e:=none) (show 3<=sizeLine by decide)
   . have tb := qR (L := List.replicate n 2) (fun s hs => by rw [(LS.mp hs).2]; decide) (M := [[], EK e, EK g]) (most := 100) (fun y hy => by
      simp only [B7,BO,FJ] at hy
      rcases hy with rfl | rfl | rfl
      . exact aB (by simp) N8
      . exact aB (MT oe) (UY e)
      . exact aB (MT og) (UY g)) (by decide) (show 3<=7 by decide) (by rw [CF];omega) (X:=T) (by omega) (fun x hx=>by rw [CF];exact (okT x hx).1)
     rw [A72 oe og,tR] at tb
     exact tb
 have hR:=mL oe og okT;have hid:=gX hq n1 n6 hpn hU oe ne'
 let Q:En:= [N0,U1,C2,S3,X4,T5,M6,none,E8,G9]
 have ec:mCons (mVar 6) (mCons (mLst (mCons (mK (.int 0)) (mCons (mK (.int 1)) (mCons (mK (.int 0)) mNil)))) mNil) Q=some [.list (CD T.length 3 Rm),DD 3 c3]:=AZ (a:= .val (.list (CD T.length 3 Rm))) rfl (AZ (a:= .own [.int 0, .int 1, .int 0]) (as:= []) (AU (e:=none) (show 3<=sizeLine by decide)) rfl);have tin:∀z7,mTest (mBin (IG false) (mPk 9) (mCall UA (mCons (mK (.int 2)) (mCons (mVar 1) (mCons (mVar 8) mNil))))) [N0,U1,C2,S3,X4,T5,M6,z7,E8,G9]=some (decide (g ∈ tK 2 n U e)):=fun z7=>FY ((AH (op:=IG false) (a:= .val (AB g)) rfl (BF (ds:= [.int ((2:Nat):Int), .list (U.map AB),AB e]) rfl hid)).trans (SO g _))
 by_cases hh:Hi.Hid 2 (Sp.spanM 2 n U) e g
 . obtain ⟨s,s0,hs⟩:=bF hU C Tpos oe og hh;obtain ⟨ds,ht⟩:=a0 Tpos Tlen hR s0 hs
   let V7:Option Sl:=some (.val (.tuple (.str "hidden" :: ds)))
   refine GS (ρ':= [N0,U1,C2,S3,X4,T5,M6,V7,E8,G9]) (f:=mFrz 6 _) (EL (ρ:=Q) (BF ec ht)) ?_;refine JA (L5 ((tin V7).trans (by rw [BG (XW.mpr hh)])) (CW (r:= .val (.bool true)) ?_ rfl));exact W2 (a:= .val (.str "hidden")) (b:= .val (.str "hidden")) ((AH (op:=dix) (a:= .val (.tuple (.str "hidden" :: ds))) (b:= .val (.int 0)) rfl rfl).trans (J9 (j:=0) (.inr rfl) rfl)) rfl rfl lR.2 (by show PyData.depth (.str _)<=60;simp [PyData.depth])
 . have ht:=iD Tpos Tlen hR (gN hU C oe og ne' ng' hh)
   let W:PyData:=frD T.length (fun k=>fr (Rm k 1) T.length)
   let V7:Option Sl:=some (.val (.tuple [.str "told",W]))
   refine GS (ρ':= [N0,U1,C2,S3,X4,T5,M6,V7,E8,G9]) (f:=mFrz 6 _) (EL (ρ:=Q) (BF ec ht)) ?_;refine JY ((tin V7).trans (by rw [B8 fun h=>hh (XW.mp h)])) (CW (r:= .val (.bool true)) (q5 ?_ ?_) rfl)
   . exact W2 (a:= .val (.str "told")) (b:= .val (.str "told")) ((AH (op:=dix) (a:= .val (.tuple [.str "told",W])) (b:= .val (.int 0)) rfl rfl).trans rfl) rfl rfl lR.1 (by show PyData.depth (.str _)<=60;simp [PyData.depth])
   . have sp := Y9 (a := fun k => Rm k 1) Tpos Tlen fun k hk => by
      show MZ e g T k 1=1\/MZ e g T k 1 = -1;rw [Q1 oe okT hk];exact sg_abs _
     refine W2 (a:= .val (DR (1,(T.length:Int)))) (b:= .val (DR (1,(T.length:Int)))) (BF (ds:= [W]) (AZ (a:= .val W) (as:= []) ((AH (op:=dix) (a:= .val (.tuple [.str "told",W])) (b:= .val (.int 1)) rfl rfl).trans rfl) rfl) sp) (ZV (a:= .val (.int 1)) (b:= .val (.int (T.length:Int))) rfl (D5 (ss:= [.val (.list (T.map AB))]) rfl (by
      show some (Sl.val (.int (((T.map AB).length:Nat):Int)))=_;rw [A4]))) rfl (uM _) (sA _)
def EZ(ns:List Int):List Int:=ns.take 42 ++ [0]
theorem Z8{ns:List Int}{ρ:En}(h:(ρ[0]?).join=some (.val (.list (ns.map .int)))):(mBin dAdd (mSl (mPk 0) mNoPart (mPart (mK (.int 42)))) (mLst (mCons (mK (.int 0)) mNil))) ρ=some (.own (il (EZ ns))):=by
 have c1:(mSl (mPk 0) mNoPart (mPart (mK (.int 42)))) ρ=some (.own (il (ns.take 42))):=by
  have e:IC (ns.map PyData.int) none (some ((42:Nat):Int))=il (ns.take 42):=by
   unfold IC il;rw [HT.sIx_none,HT.sIx_nat,List.length_map,List.drop_zero,Nat.sub_zero, <-List.map_take];congr 1
   by_cases h:42<=ns.length
   . rw [Nat.min_eq_left h]
   . rw [Nat.min_eq_right (by omega),CI (A8 _),CI (by omega)]
  rw [<-e];unfold mSl mPk;rw [h];rfl
 refine (AH (op:=dAdd) c1 (TW (a:= .val (.int 0)) rfl)).trans ?_;refine (R0 (xs:=il (ns.take 42)) (ys:= [.int 0]) rfl rfl ?_).trans ?_
 . rw [oE,FF];have:=ED;simp;omega
 . rw [EZ,yE];rfl
theorem jT(ns:List Int)(hns:ns.length<=63):vC [.list (ns.map .int)]=some (.val (.bool true)):=by
 have sl:=ED
 let S:Option Sl:=some (.val (.list (ns.map .int)))
 have hlen:(EZ ns).length<=43:=by simp [EZ];omega
 let CV:Option Sl:=some (.own (il (EZ ns)))
 refine DV (ρ:= [S,none,none,none,none,none,none]) rfl rfl ?_;unfold b_law;refine C5 (Z8 rfl) (C5 (r:= .val (.int 0)) rfl ?_);refine GC (P:=fun _=>True) ?_ (fun ρ _=>CW (r:= .val (.bool true)) rfl rfl)
 refine oR (fun ρ=>∃(a:Nat) (z3 z4 z5 z6:Option Sl),ρ = [S,CV,some (.val (.int (a:Nat))),z3,z4,z5,z6]/\a<=1000)
  (fun ρ=>match ρ with | [_,_,some (.val (.int a)),_,_,_,_]=>(64 - a).toNat | _=>0) ⟨0,_,_,_,_,rfl,by decide⟩ ?_
 rintro ρ ⟨a,z3,z4,z5,z6,rfl,ha⟩
 have tst:(mTest (mBin dLt (mPk 2) (mCallP dLen (mConsP (mPk 1) mNilP)))) [S,CV,some (.val (.int (a:Nat))),z3,z4,z5,z6]=some (decide ((a:Int)<((EZ ns).length:Nat))):=by
  refine FY ((AH (op:=dLt) (a:= .val (.int (a:Nat))) rfl (D5 (ss:= [.own (il (EZ ns))]) rfl (r:= .val (.int (((EZ ns).length:Nat):Int))) ?_)).trans rfl);exact GM (fun n:Nat=>some (Sl.val (.int (n:Int)))) (oE _)
 by_cases hlt:a<(EZ ns).length
 . right;refine ⟨tst.trans (by rw [BG (by omega)]),?_⟩;have gc:(EZ ns)[a]? = some (EZ ns)[a]:=AD hlt;generalize (EZ ns)[a]=c at gc
   let A2:Option Sl:=some (.val (.int (a:Nat)))
   let H3:Option Sl:=some (.val (.int c))
   refine C5 (r:= .val (.int c)) ((AH (op:=dix) (a:= .own (il (EZ ns))) (b:= .val (.int (a:Nat))) rfl rfl).trans (J9 (.inl rfl) (by unfold il;rw [List.getElem?_map,gc];rfl))) ?_;obtain ⟨v,ev,hv⟩:=IJ (fa:=mPk 3) (fb:=mK (.int 5)) (ρ:= [S,CV,A2,H3,z4,z5,z6]) (i:=c) (m:=5) rfl rfl (by decide)
   let N4:Option Sl:=some (.val (.int ((1+v:Nat):Int)))
   refine C5 (r:= .val (.int ((1+v:Nat):Int))) ((AH (op:=dAdd) (a:= .val (.int 1)) rfl ev).trans (by show some (Sl.val (.int (1+(v:Int))))=_;congr 3)) ?_;obtain ⟨m,em,hm⟩:=IJ (fa:=mBin DN (mPk 3) (mK (.int 5))) (fb:=mK (.int 4)) (ρ:= [S,CV,A2,H3,N4,z5,z6]) (i:=c.fdiv 5) (m:=4) ((AH (op:=DN) (a:= .val (.int c)) (b:= .val (.int 5)) rfl rfl).trans (MC (by decide) (by decide))) rfl (by decide)
   let M5:Option Sl:=some (.val (.int (m:Nat)))
   refine C5 (r:= .val (.int (m:Nat))) em ?_;have e1:mBin dAdd (mPk 2) (mK (.int 1)) [S,CV,A2,H3,N4,M5,z6]=some (.val (.int ((a:Int)+1))):=(AH (op:=dAdd) (a:= .val (.int (a:Nat))) (b:= .val (.int 1)) rfl rfl).trans rfl;have e2:∀z6,mBin dAdd (mBin dAdd (mPk 2) (mK (.int 1))) (mPk 5) [S,CV,A2,H3,N4,M5,z6]=some (.val (.int ((a:Int)+1+(m:Int)))):=fun z6=>(AH (op:=dAdd) (a:= .val (.int ((a:Int)+1))) (b:= .val (.int (m:Nat))) ((AH (op:=dAdd) (a:= .val (.int (a:Nat))) (b:= .val (.int 1)) rfl rfl).trans rfl) rfl).trans rfl
   have esl:mSl (mPk 1) (mPart (mBin dAdd (mPk 2) (mK (.int 1)))) (mPart (mBin dAdd (mBin dAdd (mPk 2) (mK (.int 1))) (mPk 5))) [S,CV,A2,H3,N4,M5,z6]=some (.own (il (IC (EZ ns) (some ((a:Int)+1)) (some ((a:Int)+1+(m:Int)))))):=by
    unfold mSl mPart;rw [show mPk 1 [S,CV,A2,H3,N4,M5,z6]=some (.own (il (EZ ns))) from rfl,e1,e2];show some (Sl.own (IC (il (EZ ns)) _ _))=_;rw [xF]
   obtain ⟨W,eW,_,hW⟩:=iN (p:=2) (n:=1+v) (by decide) (by decide) (by omega) (IC (EZ ns) (some ((a:Int)+1)) (some ((a:Int)+1+(m:Int)))) (AY (cB ..) (by omega))
   have lW:W.length<=900:=by
    rename_i hlW;rw [hlW];exact AY (cB ..) (by omega)
   let W6o:Option Sl:=some (.own (W.map AB))
   let W6:Option Sl:=some (.val (.list (W.map AB)))
   refine GS (ρ':= [S,CV,A2,H3,N4,M5,W6o]) (f:=mFrz 4 _) (EL (ρ:= [S,CV,A2,H3,N4,M5,z6]) (BF (ds:= [.list (il (IC (EZ ns) (some ((a:Int)+1)) (some ((a:Int)+1+(m:Int))))), .int ((2:Nat):Int), .int ((1+v:Nat):Int)]) (AZ esl (AZ (a:= .val (.int 2)) rfl (AZ (a:= .val (.int ((1+v:Nat):Int))) (as:= []) rfl rfl))) eW)) ?_;have rr:=h9 (n:=1+v) (by omega) (by omega) hW lW (c.fdiv 3);refine GS (ρ':= [S,CV,A2,H3,N4,M5,W6]) ?_ ?_
   . rw [PU,PU];show mIf _ _ _ [S,CV,A2,H3,N4,M5,W6]=_;refine P9 (b:=false) (A08 (k:=true) (FY (BF (ds:= [.int ((1+v:Nat):Int), .list (W.map AB), .int (c.fdiv 3)]) (AZ (a:= .val (.int ((1+v:Nat):Int))) rfl (AZ (a:= .val (.list (W.map AB))) rfl (AZ (a:= .val (.int (c.fdiv 3))) (as:= []) ((AH (op:=DN) (a:= .val (.int c)) (b:= .val (.int 3)) rfl rfl).trans (MC (by decide) (by decide))) rfl))) rr))) rfl
   . refine K9 (r:= .val (.int ((a+1+m:Nat):Int))) ((e2 W6).trans (by congr 3)) ⟨⟨a+1+m,_,_,_,_,rfl,by omega⟩,?_⟩;show (64 - ((a+1+m:Nat):Int)).toNat<(64 - (a:Int)).toNat;omega
 . left;exact ⟨tst.trans (by rw [B8 (by omega)]),E4⟩
abbrev Na_ (K:PySem.W.Frag) (n:Str) (f:Addr):Prop:=PySem.W.nsIn K mainGlobals n=some (some (.ref f))
abbrev Nz_ (K:PySem.W.Frag) (n:Str):Prop:=PySem.W.nsIn K mainGlobals n=some none
abbrev Co_ (K:PySem.W.Frag) (c:Value) (n:Str):Prop:=PySem.W.codeIn K c n=true
abbrev Ke_ (K:PySem.W.Frag) (f:Addr):Prop:=PySem.W.keepIn K (.ref f)=true
abbrev Lo_ (K:PySem.W.Frag) (f:Addr) (oc:Value) (od:Option Addr) (n q:Str) (s:Stmt) (kV dc pm:Value) (an:Option Addr) (cd ct:Value) (sl:Array (Option Value)):Prop:=K.lookup f=some ⟨oc,od, .func (PySem.W.fnOf n q (MN s) (HZ s) (AQ s) .none kV dc pm an cd ct),sl⟩
local macro_rules | `(tactic| walk_at "u1") => `(tactic| exact fun _ _ _ _ _ _ us hl => match us, hl with | [_], _ => rfl)
local macro_rules | `(tactic| walk_at "u2") => `(tactic| exact fun _ _ _ _ _ _ us hl => match us, hl with | [_, _], _ => rfl)
local macro_rules | `(tactic| walk_at "u3") => `(tactic| exact fun _ _ _ _ _ _ us hl => match us, hl with | [_, _, _], _ => rfl)
local macro_rules | `(tactic| walk_at "u4") => `(tactic| exact fun _ _ _ _ _ _ us hl => match us, hl with | [_, _, _, _], _ => rfl)
theorem all_mk {l : PySem.W.OpenLaw} {w : World} {K : PySem.W.Frag} {h : Heap} {mg : Str -> Option Value} {fa f1 f2 f3 f4 f5 f6 f7 f8 f9 f10 f11 f12 f13 f14 f15 f16 f17 f18 f19 f20 f21 f22 f23 f24 f25 f26 f27 f28 f29 f30 f31 f32 f33 f34 f35 f36 f37 f38 f39 f40 f41 f42 f43 f44 f45 f46 f47 C_S t_NOUGHT t_UNIT : Addr} {od1 an1 od2 an2 od3 an3 od4 an4 od5 an5 od6 an6 od7 an7 od8 an8 od9 an9 od10 an10 od11 an11 od12 an12 od13 an13 od14 an14 od15 an15 od16 an16 od17 an17 od18 an18 od19 an19 od20 an20 od21 an21 od22 an22 od23 an23 od24 an24 od25 an25 od26 an26 od27 an27 od28 an28 od29 an29 od30 an30 od31 an31 od32 an32 od33 an33 od34 an34 od35 an35 od36 an36 od37 an37 od38 an38 od39 an39 od40 an40 od41 an41 od42 an42 od43 an43 od44 an44 od45 an45 od46 an46 od47 an47 to_NOUGHT to_UNIT : Option Addr} {sl1 sl2 sl3 sl4 sl5 sl6 sl7 sl8 sl9 sl10 sl11 sl12 sl13 sl14 sl15 sl16 sl17 sl18 sl19 sl20 sl21 sl22 sl23 sl24 sl25 sl26 sl27 sl28 sl29 sl30 sl31 sl32 sl33 sl34 sl35 sl36 sl37 sl38 sl39 sl40 sl41 sl42 sl43 sl44 sl45 sl46 sl47 ts_NOUGHT ts_UNIT : Array (Option Value)} {oc1 kV1 dc1 pm1 cd1 ct1 oc2 kV2 dc2 pm2 cd2 ct2 oc3 kV3 dc3 pm3 cd3 ct3 oc4 kV4 dc4 pm4 cd4 ct4 oc5 kV5 dc5 pm5 cd5 ct5 oc6 kV6 dc6 pm6 cd6 ct6 oc7 kV7 dc7 pm7 cd7 ct7 oc8 kV8 dc8 pm8 cd8 ct8 oc9 kV9 dc9 pm9 cd9 ct9 oc10 kV10 dc10 pm10 cd10 ct10 oc11 kV11 dc11 pm11 cd11 ct11 oc12 kV12 dc12 pm12 cd12 ct12 oc13 kV13 dc13 pm13 cd13 ct13 oc14 kV14 dc14 pm14 cd14 ct14 oc15 kV15 dc15 pm15 cd15 ct15 oc16 kV16 dc16 pm16 cd16 ct16 oc17 kV17 dc17 pm17 cd17 ct17 oc18 kV18 dc18 pm18 cd18 ct18 oc19 kV19 dc19 pm19 cd19 ct19 oc20 kV20 dc20 pm20 cd20 ct20 oc21 kV21 dc21 pm21 cd21 ct21 oc22 kV22 dc22 pm22 cd22 ct22 oc23 kV23 dc23 pm23 cd23 ct23 oc24 kV24 dc24 pm24 cd24 ct24 oc25 kV25 dc25 pm25 cd25 ct25 oc26 kV26 dc26 pm26 cd26 ct26 oc27 kV27 dc27 pm27 cd27 ct27 oc28 kV28 dc28 pm28 cd28 ct28 oc29 kV29 dc29 pm29 cd29 ct29 oc30 kV30 dc30 pm30 cd30 ct30 oc31 kV31 dc31 pm31 cd31 ct31 oc32 kV32 dc32 pm32 cd32 ct32 oc33 kV33 dc33 pm33 cd33 ct33 oc34 kV34 dc34 pm34 cd34 ct34 oc35 kV35 dc35 pm35 cd35 ct35 oc36 kV36 dc36 pm36 cd36 ct36 oc37 kV37 dc37 pm37 cd37 ct37 oc38 kV38 dc38 pm38 cd38 ct38 oc39 kV39 dc39 pm39 cd39 ct39 oc40 kV40 dc40 pm40 cd40 ct40 oc41 kV41 dc41 pm41 cd41 ct41 oc42 kV42 dc42 pm42 cd42 ct42 oc43 kV43 dc43 pm43 cd43 ct43 oc44 kV44 dc44 pm44 cd44 ct44 oc45 kV45 dc45 pm45 cd45 ct45 oc46 kV46 dc46 pm46 cd46 ct46 oc47 kV47 dc47 pm47 cd47 ct47 : Value} {tk_NOUGHT_0 tk_NOUGHT_1 tk_UNIT_0 tk_UNIT_1 : Tok} {tn_NOUGHT tn_UNIT : Nat} (X : K.In h) (G : h.Ns mainGlobals mg) (hfa : mg "law" = some (.ref fa)) (hT : ∀ p ∈ (tbK [] K).map (·.2), h.get? p = some (PySem.W.tabObj #[]))
 (aC_Stairs:Na_ K "Stairs" C_S)
 (pg_Stairs:PySem.W.plainGet K C_S Str.empty=true)
 (hd_Stairs:PySem.W.hasDictIn K C_S=true)
 (po_Stairs:PySem.W.plainOver K C_S=true)
 (sa_Stairs:PySem.W.findIn K (.ref C_S) "__setattr__" = some (some (.builtin "object.__setattr__")))
 (mk_Stairs:PySem.W.makesIn K C_S=true)
 (kc_Stairs:Ke_ K C_S)
 (n_Stairs_rows:PySem.W.findIn K (.ref C_S) "rows" = some none)
 (n_Stairs_leads:PySem.W.findIn K (.ref C_S) "leads" = some none)
 (n_Stairs_last:PySem.W.findIn K (.ref C_S) "last" = some none)
 (a1:Na_ K "_law_mixed" f1)
 (l1:Lo_ K f1 oc1 od1 "_law_mixed" "_law_mixed" rG kV1 dc1 pm1 an1 cd1 ct1 sl1)
 (c1:Co_ K cd1 "_law_mixed")
 (k1:Ke_ K f1)
 (a2:Na_ K "_law_word" f2)
 (l2:Lo_ K f2 oc2 od2 "_law_word" "_law_word" cQ kV2 dc2 pm2 an2 cd2 ct2 sl2)
 (c2:Co_ K cd2 "_law_word")
 (k2:Ke_ K f2)
 (a3:Na_ K "_law_words" f3)
 (l3:Lo_ K f3 oc3 od3 "_law_words" "_law_words" dR kV3 dc3 pm3 an3 cd3 ct3 sl3)
 (c3:Co_ K cd3 "_law_words")
 (k3:Ke_ K f3)
 (a4:Na_ K "_law_span" f4)
 (l4:Lo_ K f4 oc4 od4 "_law_span" "_law_span" u8 kV4 dc4 pm4 an4 cd4 ct4 sl4)
 (c4:Co_ K cd4 "_law_span")
 (k4:Ke_ K f4)
 (a5:Na_ K "_law_pair" f5)
 (l5:Lo_ K f5 oc5 od5 "_law_pair" "_law_pair" rW kV5 dc5 pm5 an5 cd5 ct5 sl5)
 (c5:Co_ K cd5 "_law_pair")
 (k5:Ke_ K f5)
 (a6:Na_ K "product_of" f6)
 (l6:Lo_ K f6 oc6 od6 "product_of" "product_of" cO kV6 dc6 pm6 an6 cd6 ct6 sl6)
 (c6:Co_ K cd6 "product_of")
 (k6:Ke_ K f6)
 (a7:Na_ K "trial_at" f7)
 (l7:Lo_ K f7 oc7 od7 "trial_at" "trial_at" fL kV7 dc7 pm7 an7 cd7 ct7 sl7)
 (c7:Co_ K cd7 "trial_at")
 (k7:Ke_ K f7)
 (a8:Na_ K "all_trials" f8)
 (l8:Lo_ K f8 oc8 od8 "all_trials" "all_trials" cI kV8 dc8 pm8 an8 cd8 ct8 sl8)
 (c8:Co_ K cd8 "all_trials")
 (k8:Ke_ K f8)
 (a9:Na_ K "comes_to" f9)
 (l9:Lo_ K f9 oc9 od9 "comes_to" "comes_to" dF kV9 dc9 pm9 an9 cd9 ct9 sl9)
 (c9:Co_ K cd9 "comes_to")
 (k9:Ke_ K f9)
 (a10:Na_ K "keeps" f10)
 (l10:Lo_ K f10 oc10 od10 "keeps" "keeps" dU kV10 dc10 pm10 an10 cd10 ct10 sl10)
 (c10:Co_ K cd10 "keeps")
 (k10:Ke_ K f10)
 (a11:Na_ K "cut" f11)
 (l11:Lo_ K f11 oc11 od11 "cut" "cut" cY kV11 dc11 pm11 an11 cd11 ct11 sl11)
 (c11:Co_ K cd11 "cut")
 (k11:Ke_ K f11)
 (a12:Na_ K "_law_come" f12)
 (l12:Lo_ K f12 oc12 od12 "_law_come" "_law_come" t9 kV12 dc12 pm12 an12 cd12 ct12 sl12)
 (c12:Co_ K cd12 "_law_come")
 (k12:Ke_ K f12)
 (a13:Na_ K "effect_columns" f13)
 (l13:Lo_ K f13 oc13 od13 "effect_columns" "effect_columns" eB kV13 dc13 pm13 an13 cd13 ct13 sl13)
 (c13:Co_ K cd13 "effect_columns")
 (k13:Ke_ K f13)
 (a14:Na_ K "columns_of" f14)
 (l14:Lo_ K f14 oc14 od14 "columns_of" "columns_of" dI kV14 dc14 pm14 an14 cd14 ct14 sl14)
 (c14:Co_ K cd14 "columns_of")
 (k14:Ke_ K f14)
 (a15:Na_ K "contrast" f15)
 (l15:Lo_ K f15 oc15 od15 "contrast" "contrast" e9 kV15 dc15 pm15 an15 cd15 ct15 sl15)
 (c15:Co_ K cd15 "contrast")
 (k15:Ke_ K f15)
 (a16:Na_ K "value_at" f16)
 (l16:Lo_ K f16 oc16 od16 "value_at" "value_at" cX kV16 dc16 pm16 an16 cd16 ct16 sl16)
 (c16:Co_ K cd16 "value_at")
 (k16:Ke_ K f16)
 (a17:Na_ K "table_of" f17)
 (l17:Lo_ K f17 oc17 od17 "table_of" "table_of" fH kV17 dc17 pm17 an17 cd17 ct17 sl17)
 (c17:Co_ K cd17 "table_of")
 (k17:Ke_ K f17)
 (a18:Na_ K "_law_things" f18)
 (l18:Lo_ K f18 oc18 od18 "_law_things" "_law_things" bZ kV18 dc18 pm18 an18 cd18 ct18 sl18)
 (c18:Co_ K cd18 "_law_things")
 (k18:Ke_ K f18)
 (a19:Na_ K "greatest_divisor" f19)
 (l19:Lo_ K f19 oc19 od19 "greatest_divisor" "greatest_divisor" dP kV19 dc19 pm19 an19 cd19 ct19 sl19)
 (c19:Co_ K cd19 "greatest_divisor")
 (k19:Ke_ K f19)
 (a20:Na_ K "common_bottom" f20)
 (l20:Lo_ K f20 oc20 od20 "common_bottom" "common_bottom" fA kV20 dc20 pm20 an20 cd20 ct20 sl20)
 (c20:Co_ K cd20 "common_bottom")
 (k20:Ke_ K f20)
 (a21:Na_ K "whole_row" f21)
 (l21:Lo_ K f21 oc21 od21 "whole_row" "whole_row" eG kV21 dc21 pm21 an21 cd21 ct21 sl21)
 (c21:Co_ K cd21 "whole_row")
 (k21:Ke_ K f21)
 (a22:PySem.W.findIn K (.ref C_S) "place_of_lead" = some (some (.ref f22)))
 (i22:PySem.W.isFn K (.ref f22)=true)
 (l22:Lo_ K f22 oc22 od22 "place_of_lead" "Stairs.place_of_lead" u6 kV22 dc22 pm22 an22 cd22 ct22 sl22)
 (c22:Co_ K cd22 "Stairs.place_of_lead")
 (k22:Ke_ K f22)
 (a23:PySem.W.findIn K (.ref C_S) "exchange" = some (some (.ref f23)))
 (i23:PySem.W.isFn K (.ref f23)=true)
 (l23:Lo_ K f23 oc23 od23 "exchange" "Stairs.exchange" tG kV23 dc23 pm23 an23 cd23 ct23 sl23)
 (c23:Co_ K cd23 "Stairs.exchange")
 (k23:Ke_ K f23)
 (a24:Na_ K "cleared_row" f24)
 (l24:Lo_ K f24 oc24 od24 "cleared_row" "cleared_row" cG kV24 dc24 pm24 an24 cd24 ct24 sl24)
 (c24:Co_ K cd24 "cleared_row")
 (k24:Ke_ K f24)
 (a25:PySem.W.findIn K (.ref C_S) "step_down" = some (some (.ref f25)))
 (i25:PySem.W.isFn K (.ref f25)=true)
 (l25:Lo_ K f25 oc25 od25 "step_down" "Stairs.step_down" tE kV25 dc25 pm25 an25 cd25 ct25 sl25)
 (c25:Co_ K cd25 "Stairs.step_down")
 (k25:Ke_ K f25)
 (a26:PySem.W.findIn K (.ref C_S) "__init__" = some (some (.ref f26)))
 (i26:PySem.W.isFn K (.ref f26)=true)
 (l26:Lo_ K f26 oc26 od26 "__init__" "Stairs.__init__" sL kV26 dc26 pm26 an26 cd26 ct26 sl26)
 (c26:Co_ K cd26 "Stairs.__init__")
 (k26:Ke_ K f26)
 (a27:Na_ K "stairs_of" f27)
 (l27:Lo_ K f27 oc27 od27 "stairs_of" "stairs_of" fF kV27 dc27 pm27 an27 cd27 ct27 sl27)
 (c27:Co_ K cd27 "stairs_of")
 (k27:Ke_ K f27)
 (a28:Na_ K "fraction" f28)
 (l28:Lo_ K f28 oc28 od28 "fraction" "fraction" dM kV28 dc28 pm28 an28 cd28 ct28 sl28)
 (c28:Co_ K cd28 "fraction")
 (k28:Ke_ K f28)
 (a29:Na_ K "fractions_over" f29)
 (l29:Lo_ K f29 oc29 od29 "fractions_over" "fractions_over" e7 kV29 dc29 pm29 an29 cd29 ct29 sl29)
 (c29:Co_ K cd29 "fractions_over")
 (k29:Ke_ K f29)
 (a30:PySem.W.findIn K (.ref C_S) "reduced_column" = some (some (.ref f30)))
 (i30:PySem.W.isFn K (.ref f30)=true)
 (l30:Lo_ K f30 oc30 od30 "reduced_column" "Stairs.reduced_column" sY kV30 dc30 pm30 an30 cd30 ct30 sl30)
 (c30:Co_ K cd30 "Stairs.reduced_column")
 (k30:Ke_ K f30)
 (a31:Na_ K "solution" f31)
 (l31:Lo_ K f31 oc31 od31 "solution" "solution" eU kV31 dc31 pm31 an31 cd31 ct31 sl31)
 (c31:Co_ K cd31 "solution")
 (k31:Ke_ K f31)
 (a32:Na_ K "laid_over" f32)
 (l32:Lo_ K f32 oc32 od32 "laid_over" "laid_over" cW kV32 dc32 pm32 an32 cd32 ct32 sl32)
 (c32:Co_ K cd32 "laid_over")
 (k32:Ke_ K f32)
 (a33:Na_ K "witness" f33)
 (l33:Lo_ K f33 oc33 od33 "witness" "witness" bW kV33 dc33 pm33 an33 cd33 ct33 sl33)
 (c33:Co_ K cd33 "witness")
 (k33:Ke_ K f33)
 (a34:Na_ K "solved" f34)
 (l34:Lo_ K f34 oc34 od34 "solved" "solved" cH kV34 dc34 pm34 an34 cd34 ct34 sl34)
 (c34:Co_ K cd34 "solved")
 (k34:Ke_ K f34)
 (a35:Na_ K "as_fractions" f35)
 (l35:Lo_ K f35 oc35 od35 "as_fractions" "as_fractions" d8 kV35 dc35 pm35 an35 cd35 ct35 sl35)
 (c35:Co_ K cd35 "as_fractions")
 (k35:Ke_ K f35)
 (a36:Na_ K "sum_of_products" f36)
 (l36:Lo_ K f36 oc36 od36 "sum_of_products" "sum_of_products" cM kV36 dc36 pm36 an36 cd36 ct36 sl36)
 (c36:Co_ K cd36 "sum_of_products")
 (k36:Ke_ K f36)
 (a37:Na_ K "column_products" f37)
 (l37:Lo_ K f37 oc37 od37 "column_products" "column_products" cS kV37 dc37 pm37 an37 cd37 ct37 sl37)
 (c37:Co_ K cd37 "column_products")
 (k37:Ke_ K f37)
 (a38:Na_ K "sums_with" f38)
 (l38:Lo_ K f38 oc38 od38 "sums_with" "sums_with" cP kV38 dc38 pm38 an38 cd38 ct38 sl38)
 (c38:Co_ K cd38 "sums_with")
 (k38:Ke_ K f38)
 (a39:Na_ K "telling" f39)
 (l39:Lo_ K f39 oc39 od39 "telling" "telling" d7 kV39 dc39 pm39 an39 cd39 ct39 sl39)
 (c39:Co_ K cd39 "telling")
 (k39:Ke_ K f39)
 (a40:Na_ K "nought_word" f40)
 (l40:Lo_ K f40 oc40 od40 "nought_word" "nought_word" fC kV40 dc40 pm40 an40 cd40 ct40 sl40)
 (c40:Co_ K cd40 "nought_word")
 (k40:Ke_ K f40)
 (a41:Na_ K "multiple_put_to" f41)
 (l41:Lo_ K f41 oc41 od41 "multiple_put_to" "multiple_put_to" dD kV41 dc41 pm41 an41 cd41 ct41 sl41)
 (c41:Co_ K cd41 "multiple_put_to")
 (k41:Ke_ K f41)
 (a42:Na_ K "multiples_put_to" f42)
 (l42:Lo_ K f42 oc42 od42 "multiples_put_to" "multiples_put_to" eM kV42 dc42 pm42 an42 cd42 ct42 sl42)
 (c42:Co_ K cd42 "multiples_put_to")
 (k42:Ke_ K f42)
 (a43:Na_ K "span" f43)
 (l43:Lo_ K f43 oc43 od43 "span" "span" fK kV43 dc43 pm43 an43 cd43 ct43 sl43)
 (c43:Co_ K cd43 "span")
 (k43:Ke_ K f43)
 (a44:Na_ K "hides" f44)
 (l44:Lo_ K f44 oc44 od44 "hides" "hides" d9 kV44 dc44 pm44 an44 cd44 ct44 sl44)
 (c44:Co_ K cd44 "hides")
 (k44:Ke_ K f44)
 (a45:Na_ K "spread" f45)
 (l45:Lo_ K f45 oc45 od45 "spread" "spread" fE kV45 dc45 pm45 an45 cd45 ct45 sl45)
 (c45:Co_ K cd45 "spread")
 (k45:Ke_ K f45)
 (a46:Na_ K "_law_right" f46)
 (l46:Lo_ K f46 oc46 od46 "_law_right" "_law_right" rS kV46 dc46 pm46 an46 cd46 ct46 sl46)
 (c46:Co_ K cd46 "_law_right")
 (k46:Ke_ K f46)
 (a47:Na_ K "law" f47)
 (l47:Lo_ K f47 oc47 od47 "law" "law" SF kV47 dc47 pm47 an47 cd47 ct47 sl47)
 (c47:Co_ K cd47 "law")
 (k47:Ke_ K f47)
 (a_NOUGHT:Na_ K "NOUGHT" t_NOUGHT)
 (l_NOUGHT:K.lookup t_NOUGHT=some ⟨.type "tuple",to_NOUGHT, .seq #[.int 0 tk_NOUGHT_0, .int 1 tk_NOUGHT_1] tn_NOUGHT,ts_NOUGHT⟩)
 (a_UNIT:Na_ K "UNIT" t_UNIT)
 (l_UNIT:K.lookup t_UNIT=some ⟨.type "tuple",to_UNIT, .seq #[.int 1 tk_UNIT_0, .int 1 tk_UNIT_1] tn_UNIT,ts_UNIT⟩)
 (z0:Nz_ K "ValueError")
 (z1:Nz_ K "abs")
 (z2:Nz_ K "all")
 (z3:Nz_ K "int")
 (z4:Nz_ K "len")
 (z5:Nz_ K "list")
 (z6:Nz_ K "range")
 (z7:Nz_ K "reversed")
 (z8:Nz_ K "sorted")
 (z9:Nz_ K "sum")
 (z10:Nz_ K "tuple")
 (z11:Nz_ K "zip")
 : (∃o,K.lookup mainGlobals=some o)/\∃fd:FuncData,(∀(s:Shared) (v:Value),BindsTo s fd ⟨[v],[]⟩ [("_law_script",v)])/\∀base:Heap,(KC K).In base->base.Ns mainGlobals mg->(∀p ∈ tbK [] K,PySem.W.CodeHd base p.1 p.2)->BM base mg->FnOk l.prog w (KC K) mg base CX0 11 fa fd qvb (cC (KC K)):=by
 have e:=hfa.symm.trans (AG X G a47)
 cases e
 have F_q6:=BP X hT (CH (st:=rG) l1 c1 k1);have b_q6:=F_q6.binds (ps:=qgb) (by walk_at "u2");have F_q11:=BP X hT (CH (st:=cQ) l2 c2 k2);have b_q11:=F_q11.binds (ps:=qc) (by walk_at "u4");have F_q12:=BP X hT (CH (st:=dR) l3 c3 k3);have b_q12:=F_q12.binds (ps:=qq) (by walk_at "u3");have F_q9:=BP X hT (CH (st:=u8) l4 c4 k4);have b_q9:=F_q9.binds (ps:=qh) (by walk_at "u3");have F_q7:=BP X hT (CH (st:=rW) l5 c5 k5);have b_q7:=F_q7.binds (ps:=qo) (by walk_at "u3");have F_q31:=BP X hT (CH (st:=cO) l6 c6 k6);have b_q31:=F_q31.binds (ps:=qw) (by walk_at "u1");have F_q41:=BP X hT (CH (st:=fL) l7 c7 k7);have b_q41:=F_q41.binds (ps:=qv) (by walk_at "u2");have F_q13:=BP X hT (CH (st:=cI) l8 c8 k8);have b_q13:=F_q13.binds (ps:= ["levels"]) (by walk_at "u1");have F_q18:=BP X hT (CH (st:=dF) l9 c9 k9);have b_q18:=F_q18.binds (ps:=qx) (by walk_at "u3");have F_q26:=BP X hT (CH (st:=dU) l10 c10 k10);have b_q26:=F_q26.binds (ps:=qm) (by walk_at "u3");have F_cut:=BP X hT (CH (st:=cY) l11 c11 k11);have b_cut:=F_cut.binds (ps:=qhb) (by walk_at "u3");have F_q5:=BP X hT (CH (st:=t9) l12 c12 k12);have b_q5:=F_q5.binds (ps:=qe) (by walk_at "u3");have F_q21:=BP X hT (CH (st:=eB) l13 c13 k13);have b_q21:=F_q21.binds (ps:=qnb) (by walk_at "u2");have F_q17:=BP X hT (CH (st:=dI) l14 c14 k14);have b_q17:=F_q17.binds (ps:=qob) (by walk_at "u2");have F_q20:=BP X hT (CH (st:=e9) l15 c15 k15);have b_q20:=F_q20.binds (ps:=qjb) (by walk_at "u2");have F_q42:=BP X hT (CH (st:=cX) l16 c16 k16);have b_q42:=F_q42.binds (ps:=qpb) (by walk_at "u2");have F_q39:=BP X hT (CH (st:=fH) l17 c17 k17);have b_q39:=F_q39.binds (ps:=qt) (by walk_at "u3");have F_q10:=BP X hT (CH (st:=bZ) l18 c18 k18);have b_q10:=F_q10.binds (ps:=qkb) (by walk_at "u1");have F_q24:=BP X hT (CH (st:=dP) l19 c19 k19);have b_q24:=F_q24.binds (ps:=qd) (by walk_at "u2");have F_q19:=BP X hT (CH (st:=fA) l20 c20 k20);have b_q19:=F_q19.binds (ps:=qib) (by walk_at "u1");have F_q43:=BP X hT (CH (st:=eG) l21 c21 k21);have b_q43:=F_q43.binds (ps:=qib) (by walk_at "u1");have F_q2:=BP X hT (CH (st:=u6) l22 c22 k22);have b_q2:=F_q2.binds (ps:=qz) (by walk_at "u3");have F_q1:=BP X hT (CH (st:=tG) l23 c23 k23);have b_q1:=F_q1.binds (ps:=qcb) (by walk_at "u3");have F_q15:=BP X hT (CH (st:=cG) l24 c24 k24);have b_q15:=F_q15.binds (ps:=ql) (by walk_at "u4");have F_q4:=BP X hT (CH (st:=tE) l25 c25 k25);have b_q4:=F_q4.binds (ps:=qp) (by walk_at "u2");have F_q0:=BP X hT (CH (st:=sL) l26 c26 k26);have b_q0:=F_q0.binds (ps:=qtb) (by walk_at "u2");have F_q36:=BP X hT (CH (st:=fF) l27 c27 k27);have b_q36:=F_q36.binds (ps:=qeb) (by walk_at "u1");have F_q22:=BP X hT (CH (st:=dM) l28 c28 k28);have b_q22:=F_q22.binds (ps:=qmb) (by walk_at "u2")
 have F_q23:=BP X hT (CH (st:=e7) l29 c29 k29);have b_q23:=F_q23.binds (ps:=qr) (by walk_at "u2");have F_q3:=BP X hT (CH (st:=sY) l30 c30 k30);have b_q3:=F_q3.binds (ps:=qp) (by walk_at "u2");have F_q32:=BP X hT (CH (st:=eU) l31 c31 k31);have b_q32:=F_q32.binds (ps:=qb) (by walk_at "u2");have F_q27:=BP X hT (CH (st:=cW) l32 c32 k32);have b_q27:=F_q27.binds (ps:=qeb) (by walk_at "u1");have F_q44:=BP X hT (CH (st:=bW) l33 c33 k33);have b_q44:=F_q44.binds (ps:=qb) (by walk_at "u2");have F_q33:=BP X hT (CH (st:=cH) l34 c34 k34);have b_q33:=F_q33.binds (ps:=qb) (by walk_at "u2");have F_q14:=BP X hT (CH (st:=d8) l35 c35 k35);have b_q14:=F_q14.binds (ps:=qw) (by walk_at "u1");have F_q37:=BP X hT (CH (st:=cM) l36 c36 k36);have b_q37:=F_q37.binds (ps:=qd) (by walk_at "u2");have F_q16:=BP X hT (CH (st:=cS) l37 c37 k37);have b_q16:=F_q16.binds (ps:= ["rows"]) (by walk_at "u1");have F_q38:=BP X hT (CH (st:=cP) l38 c38 k38);have b_q38:=F_q38.binds (ps:=qlb) (by walk_at "u2");have F_q40:=BP X hT (CH (st:=d7) l39 c39 k39);have b_q40:=F_q40.binds (ps:=qfb) (by walk_at "u2");have F_q30:=BP X hT (CH (st:=fC) l40 c40 k40);have b_q30:=F_q30.binds (ps:= ["n"]) (by walk_at "u1");have F_q28:=BP X hT (CH (st:=dD) l41 c41 k41);have b_q28:=F_q28.binds (ps:=qj) (by walk_at "u4");have F_q29:=BP X hT (CH (st:=eM) l42 c42 k42);have b_q29:=F_q29.binds (ps:=qg) (by walk_at "u4");have F_q34:=BP X hT (CH (st:=fK) l43 c43 k43);have b_q34:=F_q34.binds (ps:=qqb) (by walk_at "u3");have F_q25:=BP X hT (CH (st:=d9) l44 c44 k44);have b_q25:=F_q25.binds (ps:=qbb) (by walk_at "u3");have F_q35:=BP X hT (CH (st:=fE) l45 c45 k45);have b_q35:=F_q35.binds (ps:= ["weights"]) (by walk_at "u1");have F_q8:=BP X hT (CH (st:=rS) l46 c46 k46);have b_q8:=F_q8.binds (ps:=qf) (by walk_at "u3");have F_law:=BP X hT (CH (st:=SF) l47 c47 k47);have b_law:=F_law.binds (ps:=qvb) (by walk_at "u1");have B:Bl mg:=⟨D3 X G z0,D3 X G z1,D3 X G z2,D3 X G z3,D3 X G z4,D3 X G z5,D3 X G z6,D3 X G z7,D3 X G z8,D3 X G z9,D3 X G z10,D3 X G z11⟩
 have K_S:Klass (KC K) C_S qa:=UpK.klass (MS X hT) ⟨⟨pg_Stairs,hd_Stairs,po_Stairs,sa_Stairs⟩,fun f hf=>by
  simp only [B7,BO,FJ] at hf
  rcases hf with rfl | rfl | rfl
  . exact n_Stairs_rows
  . exact n_Stairs_leads
  . exact n_Stairs_last⟩
 have C_NOUGHT:T0 (KC K) mg "NOUGHT" c_NOUGHT:=⟨.ref t_NOUGHT, .ref t_NOUGHT,AG X G a_NOUGHT,rfl,fun H0=>Rep.tuple (xs:= [V.int 0,V.int 1]) (.inr ⟨_,_,_,IF (OX X hT l_NOUGHT (fun z=>by cases z)) l_NOUGHT,rfl,rfl,by show 2<=sizeLine;decide, .cons ⟨_,rfl⟩ (.cons ⟨_,rfl⟩ (.nil))⟩) (.cons (.int _) (.cons (.int _) .nil))⟩;have C_UNIT:T0 (KC K) mg "UNIT" c_UNIT:=⟨.ref t_UNIT, .ref t_UNIT,AG X G a_UNIT,rfl,fun H0=>Rep.tuple (xs:= [V.int 1,V.int 1]) (.inr ⟨_,_,_,IF (OX X hT l_UNIT (fun z=>by cases z)) l_UNIT,rfl,rfl,by show 2<=sizeLine;decide, .cons ⟨_,rfl⟩ (.cons ⟨_,rfl⟩ (.nil))⟩) (.cons (.int _) (.cons (.int _) .nil))⟩;refine ⟨rF a47,PySem.W.fnOf "law" "law" (MN SF) (HZ SF) (AQ SF) .none kV47 dc47 pm47 an47 cd47 ct47,fun s v=> .of_eq rfl,fun base _ _ hC bm=> ?_⟩;have D_q6:Def l.prog w (KC K) mg base 1 "_law_mixed" qgb (spD (KC K) gU):=⟨_,_,A82 B F_q6,AG X G a1,F_q6.kp,b_q6⟩;have D_q11:Def l.prog w (KC K) mg base 2 "_law_word" qc (spD (KC K) P6):=⟨_,_,yL B D_q6 F_q11,AG X G a2,F_q11.kp,b_q11⟩;have D_q12:Def l.prog w (KC K) mg base 3 "_law_words" qq (spD (KC K) YV):=⟨_,_,xT B D_q11 F_q12,AG X G a3,F_q12.kp,b_q12⟩;have D_q9:Def l.prog w (KC K) mg base 1 "_law_span" qh (spD (KC K) lC):=⟨_,_,AA9 B F_q9,AG X G a4,F_q9.kp,b_q9⟩;have D_q7:Def l.prog w (KC K) mg base 3 "_law_pair" qo (spD (KC K) mY):=⟨_,_,AA0 B D_q11 F_q7,AG X G a5,F_q7.kp,b_q7⟩;have D_q31:Def l.prog w (KC K) mg base 1 "product_of" qw (spD (KC K) YU):=⟨_,_,A51 B F_q31,AG X G a6,F_q31.kp,b_q31⟩;have D_q41:Def l.prog w (KC K) mg base 1 "trial_at" qv (spD (KC K) YG):=⟨_,_,A47 B F_q41,AG X G a7,F_q41.kp,b_q41⟩;have D_q13:Def l.prog w (KC K) mg base 2 "all_trials" ["levels"] (spD (KC K) QF):=⟨_,_,A15 B D_q31 D_q41 F_q13,AG X G a8,F_q13.kp,b_q13⟩;have D_q18:Def l.prog w (KC K) mg base 1 "comes_to" qx (spD (KC K) SZ):=⟨_,_,A30 B F_q18,AG X G a9,F_q18.kp,b_q18⟩;have D_q26:Def l.prog w (KC K) mg base 2 "keeps" qm (spD (KC K) Y6):=⟨_,_,yR B D_q18 F_q26,AG X G a10,F_q26.kp,b_q26⟩;have D_cut:Def l.prog w (KC K) mg base 3 "cut" qhb (spD (KC K) Y4):=⟨_,_,zL B D_q13 D_q26 F_cut,AG X G a11,F_cut.kp,b_cut⟩;have D_q5:Def l.prog w (KC K) mg base 1 "_law_come" qe (spD (KC K) iK):=⟨_,_,AB7 B F_q5,AG X G a12,F_q5.kp,b_q5⟩;have D_q21:Def l.prog w (KC K) mg base 3 "effect_columns" qnb (spD (KC K) Z9):=⟨_,_,wP B D_q13 F_q21,AG X G a13,F_q21.kp,b_q21⟩;have D_q17:Def l.prog w (KC K) mg base 4 "columns_of" qob (spD (KC K) Z3):=⟨_,_,x6 B D_q21 F_q17,AG X G a14,F_q17.kp,b_q17⟩;have D_q20:Def l.prog w (KC K) mg base 1 "contrast" qjb (spD (KC K) YZ):=⟨_,_,A12 B F_q20,AG X G a15,F_q20.kp,b_q20⟩;have D_q42:Def l.prog w (KC K) mg base 2 "value_at" qpb (spD (KC K) UT):=⟨_,_,A10 B D_q20 F_q42,AG X G a16,F_q42.kp,b_q42⟩
 have D_q39:Def l.prog w (KC K) mg base 5 "table_of" qt (spD (KC K) ZF):=⟨_,_,xP B D_q17 D_q42 F_q39,AG X G a17,F_q39.kp,b_q39⟩;have D_q10:Def l.prog w (KC K) mg base 1 "_law_things" qkb (spD (KC K) UR):=⟨_,_,yG B F_q10,AG X G a18,F_q10.kp,b_q10⟩;have D_q24:Def l.prog w (KC K) mg base 1 "greatest_divisor" qd (spD (KC K) QJ):=⟨_,_,y0 B F_q24,AG X G a19,F_q24.kp,b_q24⟩;have D_q19:Def l.prog w (KC K) mg base 2 "common_bottom" qib (spD (KC K) OW):=⟨_,_,wV B D_q24 F_q19,AG X G a20,F_q19.kp,b_q19⟩;have D_q43:Def l.prog w (KC K) mg base 3 "whole_row" qib (spD (KC K) NF):=⟨_,_,wL B D_q19 F_q43,AG X G a21,F_q43.kp,b_q43⟩;have D_q2:MDef l.prog w (KC K) mg base 1 C_S "place_of_lead" qz (spM (KC K) C_S qa Y1):=⟨_,_,A85 B K_S F_q2,UpK.meth (MS X hT) ⟨a22,i22,k22⟩,b_q2⟩;have D_q1:MDef l.prog w (KC K) mg base 1 C_S "exchange" qcb (spM (KC K) C_S qa gM):=⟨_,_,A68 B K_S F_q1,UpK.meth (MS X hT) ⟨a23,i23,k23⟩,b_q1⟩;have D_q15:Def l.prog w (KC K) mg base 1 "cleared_row" ql (spD (KC K) XH):=⟨_,_,A11 B F_q15,AG X G a24,F_q15.kp,b_q15⟩;have D_q4:MDef l.prog w (KC K) mg base 2 C_S "step_down" qp (spM (KC K) C_S qa bL):=⟨_,_,A96 B D_q2 D_q1 D_q15 K_S F_q4,UpK.meth (MS X hT) ⟨a25,i25,k25⟩,b_q4⟩;have D_q0:KDef l.prog w (KC K) mg base 3 C_S "Stairs" qtb (spM (KC K) C_S qa aQ):=⟨_,_,AB8 B D_q4 K_S F_q0,UpK.mk (MS X hT) ⟨mk_Stairs,a26,i26,kc_Stairs⟩,AG X G aC_Stairs,b_q0⟩;have D_q36:Def l.prog w (KC K) mg base 5 "stairs_of" qeb (spO (KC K) C_S qa TH):=⟨_,_,A17 B D_q43 D_q0 K_S F_q36,AG X G a27,F_q36.kp,b_q36⟩;have D_q22:Def l.prog w (KC K) mg base 2 "fraction" qmb (spD (KC K) T9):=⟨_,_,A24 B D_q24 F_q22,AG X G a28,F_q22.kp,b_q22⟩;have D_q23:Def l.prog w (KC K) mg base 3 "fractions_over" qr (spD (KC K) QG):=⟨_,_,wQ B D_q22 F_q23,AG X G a29,F_q23.kp,b_q23⟩;have D_q3:MDef l.prog w (KC K) mg base 1 C_S "reduced_column" qp (spR (KC K) C_S qa aL):=⟨_,_,A87 B K_S F_q3,UpK.meth (MS X hT) ⟨a30,i30,k30⟩,b_q3⟩;have D_q32:Def l.prog w (KC K) mg base 6 "solution" qb (spD (KC K) LG):=⟨_,_,xG B D_q36 D_q23 D_q3 C_NOUGHT K_S F_q32,AG X G a31,F_q32.kp,b_q32⟩;have D_q27:Def l.prog w (KC K) mg base 1 "laid_over" qeb (spD (KC K) RW):=⟨_,_,zQ B F_q27,AG X G a32,F_q27.kp,b_q27⟩;have D_q44:Def l.prog w (KC K) mg base 7 "witness" qb (spD (KC K) XX):=⟨_,_,yC B D_q27 D_q32 C_NOUGHT C_UNIT F_q44,AG X G a33,F_q44.kp,b_q44⟩;have D_q33:Def l.prog w (KC K) mg base 8 "solved" qb (spD (KC K) RK):=⟨_,_,xH B D_q32 D_q44 F_q33,AG X G a34,F_q33.kp,b_q33⟩;have D_q14:Def l.prog w (KC K) mg base 1 "as_fractions" qw (spD (KC K) SG):=⟨_,_,xU B F_q14,AG X G a35,F_q14.kp,b_q14⟩;have D_q37:Def l.prog w (KC K) mg base 1 "sum_of_products" qd (spD (KC K) NH):=⟨_,_,wS B F_q37,AG X G a36,F_q37.kp,b_q37⟩;have D_q16:Def l.prog w (KC K) mg base 2 "column_products" ["rows"] (spD (KC K) YH):=⟨_,_,yM B D_q27 D_q14 D_q37 F_q16,AG X G a37,F_q16.kp,b_q16⟩
 have D_q38:Def l.prog w (KC K) mg base 4 "sums_with" qlb (spD (KC K) UP):=⟨_,_,xC B D_q19 D_q43 D_q23 D_q37 F_q38,AG X G a38,F_q38.kp,b_q38⟩;have D_q40:Def l.prog w (KC K) mg base 9 "telling" qfb (spD (KC K) P7):=⟨_,_,A01 B D_q33 D_q14 D_q16 D_q38 C_NOUGHT F_q40,AG X G a39,F_q40.kp,b_q40⟩;have D_q30:Def l.prog w (KC K) mg base 1 "nought_word" ["n"] (spD (KC K) YQ):=⟨_,_,yD B F_q30,AG X G a40,F_q30.kp,b_q30⟩;have D_q28:Def l.prog w (KC K) mg base 1 "multiple_put_to" qj (spD (KC K) Z4):=⟨_,_,zT B F_q28,AG X G a41,F_q28.kp,b_q28⟩;have D_q29:Def l.prog w (KC K) mg base 2 "multiples_put_to" qg (spD (KC K) S5):=⟨_,_,zY B D_q28 F_q29,AG X G a42,F_q29.kp,b_q29⟩;have D_q34:Def l.prog w (KC K) mg base 3 "span" qqb (spD (KC K) ZE):=⟨_,_,x9 B D_q30 D_q29 F_q34,AG X G a43,F_q34.kp,b_q34⟩;have D_q25:Def l.prog w (KC K) mg base 4 "hides" qbb (spD (KC K) UA):=⟨_,_,A19 B D_q34 D_q29 F_q25,AG X G a44,F_q25.kp,b_q25⟩;have D_q35:Def l.prog w (KC K) mg base 4 "spread" ["weights"] (spD (KC K) YA):=⟨_,_,xO B D_q19 D_q43 D_q22 D_q37 F_q35,AG X G a45,F_q35.kp,b_q35⟩;have D_q8:Def l.prog w (KC K) mg base 10 "_law_right" qf (spD (KC K) lJ):=⟨_,_,AC6 B D_q9 D_q7 D_q11 D_cut D_q5 D_q39 D_q10 D_q40 D_q25 D_q35 F_q8,AG X G a46,F_q8.kp,b_q8⟩;exact (xN B D_q12 D_q8 F_law).imp (fun vs H Q E h=>rM jT h)
theorem walk {l : PySem.W.OpenLaw} {q : Program} {loose : List Str} {XP : (Str -> Option Value) -> Heap -> Prop} {YP : World -> Heap -> Prop} {d : DefRec} {K : Params -> PySem.W.Frag} (hn : l.most = some 63) (hdf : d.params.defaults = [])
 (hY:∀(w:World) (h:Heap),YP w h->(K w.params).In h)
 (hrec:∀y ∈ ([]:List Str),∃e,(PyProof.Rows.recsOf q).find? (fun e=>e.name==y)=some e)
 (F:∀(w:World) (mg:Str->Option Value) (fa:Addr) (h:Heap),(K w.params).In h->h.Ns mainGlobals mg->mg d.name=some (.ref fa)->(∀p ∈ (tbK [] (K w.params)).map (·.2),h.get? p=some (PySem.W.tabObj #[])) ->
  (∃o,(K w.params).lookup mainGlobals=some o)/\∃fd:FuncData,(∀(s:Shared) (u:Value),BindsTo s fd ⟨[u],[]⟩ [("_law_script",u)])/\∀base:Heap,(KC (K w.params)).In base->base.Ns mainGlobals mg->(∀p ∈ tbK [] (K w.params),PySem.W.CodeHd base p.1 p.2)->BM base mg->FnOk l.prog w (KC (K w.params)) mg base CX0 11 fa fd qvb (cC (KC (K w.params)))) :
 PySem.W.WalkO q loose XP YP l.row.toRowW d [] (fun f vs=>PySem.call f vs) :=
 kT (n:=63) (k:=11) (x:= "_law_script") (sp:=cC) hn (by decide) hdf ⟨rfl,by decide,by decide⟩ hY hrec F fun _ _ a ns hl hS=>⟨a,ns,rfl,hS,hl,fun _=>rfl⟩
end
end K43
namespace PySem.W.Fast
def tw15808899893677382477:=0
def tw1036140932233904452:=0
def tw16602013334975993352:=0
def tw15538175923956520634:=0
def tw11081432221739719017:=0
def tw78946300921511554:=0
def tw18273834438468821307:=0
def tw7499024103802152670:=0
def tw2370217540529429225:=0
def tw7365299789750190119:=0
def tw3732436754486892407:=0
def tw16194812512352676687:=0
def tw10318425185865710360:=0
def tw8854793207104582160:=0
def tw11184219920486598466:=0
def tw374537107201818586:=0
def tw16555207555689293193:=0
def tw3815994253040165280:=0
end PySem.W.Fast
open PySem PySem.W PyProof.Rows
set_option maxRecDepth 100000 in
set_option maxHeartbeats 0 in
theorem PySem.Challenge.cw_trialfield_k43_whole_effects_on_cuts_holds : PySem.Challenge.rw_trialfield_k43_whole_effects_on_cuts.Holds := by
 w_on;o_law;k_head;(case hw=>w_witness2)
 k_fill
 refine K43.walk (l := PySem.Challenge.rw_trialfield_k43_whole_effects_on_cuts) rfl rfl (fun w h Y => PySem.W.kIn_of Y) ?R ?F
 case R=>
  intro y hy;exact absurd hy BO
 case F=>
  intro w mg fa h KX G hmg hT;refine' K43.all_mk KX G hmg hT ?_ ?_ ?_ ?_ ?_ ?_ ?_ ?_ ?_ ?_ ?_ ?_ ?_ ?_ ?_ ?_ ?_ ?_ ?_ ?_ ?_ ?_ ?_ ?_ ?_ ?_ ?_ ?_ ?_ ?_ ?_ ?_ ?_ ?_ ?_ ?_ ?_ ?_ ?_ ?_ ?_ ?_ ?_ ?_ ?_ ?_ ?_ ?_ ?_ ?_ ?_ ?_ ?_ ?_ ?_ ?_ ?_ ?_ ?_ ?_ ?_ ?_ ?_ ?_ ?_ ?_ ?_ ?_ ?_ ?_ ?_ ?_ ?_ ?_ ?_ ?_ ?_ ?_ ?_ ?_ ?_ ?_ ?_ ?_ ?_ ?_ ?_ ?_ ?_ ?_ ?_ ?_ ?_ ?_ ?_ ?_ ?_ ?_ ?_ ?_ ?_ ?_ ?_ ?_ ?_ ?_ ?_ ?_ ?_ ?_ ?_ ?_ ?_ ?_ ?_ ?_ ?_ ?_ ?_ ?_ ?_ ?_ ?_ ?_ ?_ ?_ ?_ ?_ ?_ ?_ ?_ ?_ ?_ ?_ ?_ ?_ ?_ ?_ ?_ ?_ ?_ ?_ ?_ ?_ ?_ ?_ ?_ ?_ ?_ ?_ ?_ ?_ ?_ ?_ ?_ ?_ ?_ ?_ ?_ ?_ ?_ ?_ ?_ ?_ ?_ ?_ ?_ ?_ ?_ ?_ ?_ ?_ ?_ ?_ ?_ ?_ ?_ ?_ ?_ ?_ ?_ ?_ ?_ ?_ ?_ ?_ ?_ ?_ ?_ ?_ ?_ ?_ ?_ ?_ ?_ ?_ ?_ ?_ ?_ ?_ ?_ ?_ ?_ ?_ ?_ ?_ ?_ ?_ ?_ ?_ ?_ ?_ ?_ ?_ ?_ ?_ ?_ ?_ ?_
  all_goals (first | ((first | unfold K43.Na_ | unfold K43.Nz_ | unfold K43.Co_ | unfold K43.Ke_ | unfold K43.Lo_);k_is) | k_is | skip)
