import PyProof.Rows.All
import Wide.All
import OpenK.AllK
import Wide.FinOn
import Lean
import PyProof.EqAt
import PyProof.EqKinds
import PyProof.TupleCall
import PySem.Challenge.RW_trialfield_k87_whole_best
set_option Elab.async false
set_option linter.all false
set_option maxRecDepth 100000
set_option maxHeartbeats 4000000
def A0:=@Option.bind_eq_some_iff
def A3:=@PySem.Heap.get?_push_of_some
def A5:=@PySem.wpAny_bind
def A8:=@List.getElem?_set_ne
def A9:=@List.length_map
def AA:=@Nat.le_refl
def AB:=@List.getElem?_append_right
def AD:=@List.mem_singleton
def AE:=@PySem.W.mg_of
def AG:=@List.getElem?_append_left
def AI:=@PySem.PassesOwn.never
def AJ:=@List.mem_of_getElem?
def AK:=@List.size_toArray
def AL:=@of_decide_eq_true
def AM:=@List.mem_append_right
def AQ:=@Option.map_eq_some_iff
def AR:=@PySem.wpAny_pure
def AU:=@PySem.Heap.lt_size
def AV:=@List.length_range
def AW:=@PySem.Heap.get?_push_size
def AX:=@List.getElem?_eq_some_iff
def AZ:=@List.mem_cons
def B2:=@Nat.lt_of_lt_of_le
def B3:=@List.length_append
def B4:=@List.getElem?_eq_getElem
def B6:=@List.mem_cons_of_mem
def B7:=@List.getElem?_set_self
def B8:=@List.getElem?_map
def B9:=@Option.some.inj
def BA:=@List.not_mem_nil
def BB:=@List.getElem?_cons_succ
def BH:=@Nat.le_trans
def BJ:=@Option.bind_some
def BL:=@List.getElem?_set_self'
def BN:=@List.getElem?_cons_zero
def BS:=@List.length_cons
def BU:=@List.mem_cons_self
def BV:=@List.take_of_length_le
def BW:=@decide_eq_false
def BY:=@List.mem_map
def BZ:=@List.mem_range
def C7:=@Or.inr
def C9:=@if_neg
def CD:=@List.length_set
def CH:=@List.getElem?_range
def CJ:=@Option.join_some
def CN:=@List.mem_append
def CP:=@List.map_append
def CQ:=@if_pos
def CU:=@List.map_cons
def CW:=@PySem.W.mg_none_of
def CY:=@PyProof.Rows.callWith_type1
def CZ:=@PySem.Heap.size_push
def D3:=@List.getElem?_eq_none
def D4:=@True.intro
def D5:=@decide_eq_true
def D6:=@List.lookup_cons
def D9:=@Nat.ne_of_lt
def DH:=@List.append_nil
def DK:=@List.length_take
def DL:=@Nat.zero_le
def DM:=@Or.inl
def DX:=@List.getElem?_replicate
def DY:=@Nat.pow_le_pow_right
def DZ:=@Nat.lt_of_le_of_lt
def E2:=@Nat.le_add_right
def E3:=@List.drop_eq_nil_of_le
def E9:=@beq_iff_eq
def EG:=@List.all_eq_true
def EH:=@or_false
def EI:=@Nat.add_sub_cancel_left
def EM:=@PySem.F.plain_max_loop
def EN:=@List.take_add_one
def ES:=@PySem.mem_of_lookup
def ET:=@Bool.false_ne_true
def EU:=@List.length_drop
def EX:=@List.map_map
def EY:=@Nat.mul_le_mul
def F7:=@List.replicate_succ
def F8:=@List.map_congr_left
def FD:=@PySem.wpAny_newObj_type
def FF:=@Int.natAbs_mul
def FH:=@Int.natAbs_dvd_natAbs
def FJ:=@List.drop_eq_getElem_cons
def FN:=@PySem.wpAny_mono
def FO:=@PySem.wpAny_Call_Name_kw
def FP:=@PySem.wpAny_seqItems
def FQ:=@PySem.F.slot_tuple_iterator_next
def FU:=@beq_eq_false_iff_ne
def FV:=@Array.length_toList
def FW:=@PySem.wpAny_truthy_bool
def FX:=@Bool.and_eq_true
def G1:=@List.set_cons_zero
def G2:=@List.set_cons_succ
def G5:=@PySem.wpAny_callSpecial?_slot
def G6:=@Option.map_some
def G9:=@Nat.lt_irrefl
def GF:=@PySem.F.slot_list_append
def GG:=@List.length_replicate
def GI:=@List.flatten_cons
def GJ:=@Bool.eq_false_iff
def GL:=@PySem.wpAny_passesOwn
def GV:=@PySem.wpAny_holding
def GW:=@if_true
def GY:=@List.flatMap_append
def HI:=@Int.mul_assoc
def HM:=@PySem.W.kia_one
def HN:=@List.mem_filterMap
def HP:=@List.getElem?_drop
def HS:=@PySem.F.plainAttrs_list
def HY:=@Nat.le_of_lt
def HZ:=@Ne.symm
def I9:=@Int.fmod_nonneg_of_pos
def IA:=@List.flatMap_cons
def IJ:=@PyProof.Rows.slot_tuple_getitem
def IK:=@PySem.F.slot_zip_next
def IL:=@List.eq_nil_or_concat
def IM:=@List.concat_eq_append
def IV:=@Nat.lt_succ_self
def IW:=@List.cons_append
def J7:=@List.mem_append_left
def J8:=@PySem.wpAny_tryCatch
def J9:=@Nat.pow_pos
def JA:=@Nat.mul_le_mul_right
def K1:=@PySem.wpAny_call_entry
def K2:=@Nat.succ_mul
def K4:=@PySem.wpAny_pyIter_zip
def K7:=@Int.mul_comm
def K8:=@Int.zero_add
def K9:=@Nat.pow_succ
def KB:=@PySem.plainId_quiet
def KC:=@Int.fdiv_eq_ediv_of_nonneg
def KD:=@PySem.Around.under_plainId
def KE:=@PySem.wpAny_letGo
def KF:=@List.pairwise_cons
def L6:=@Int.mul_one
def L7:=@Nat.le_succ
def L8:=@List.reverse_cons
def L9:=@List.Pairwise.nil
def LA:=@Option.some.injEq
def LC:=@Int.neg_mul
def LK:=@PySem.F.args_tuple_add_2
def LL:=@PySem.F.type_list_append
def LX:=@congrArg
def LY:=@PySem.F.entry_tuple_add
def LZ:=@beq_self_eq_true
def M0:=@List.length_eq_zero_iff
def MZ:=@Nat.ne_of_gt
def N3:=@PySem.F.slot_tuple_add
def N4:=@Nat.mul_comm
def N5:=@Int.le_of_lt
def N6:=@PySem.F.entry_max_loop
def N7:=@Int.mul_zero
def NT:=@Int.mul_eq_zero
def NU:=@Int.natCast_mul
def O8:=@List.length_singleton
def O9:=@List.getElem?_reverse
def OB:=@List.max?_eq_some_iff
def OQ:=@Bool.and_eq_true_iff
def OS:=@List.forIn_nil
def OT:=@PySem.SeqAt.eqAt_reads
def OU:=@PySem.F.called_tuple
def OV:=@List.pairwise_append
def Q7:=@PySem.W.plainGet_of
def Q8:=@PySem.Heap.get?_update_other
def Q9:=@Int.toNat_of_nonneg
def QH:=@PySem.wpAny_execs_nil
def QI:=@PySem.codeAny_builtin
def RN:=@PySem.W.callWith_K
def RU:=@Int.fmod_lt_of_pos
def RW:=@PySem.F.args_tuple_iterator_next_1
def TQ:=@PySem.F.entry_tuple_iterator_next
def TR:=@Int.toNat_natCast
def TU:=@List.append_assoc
def TW:=@Int.gcd_dvd_right
def TY:=@PySem.wpAny_field
def TZ:=@List.ext_getElem?
def U0:=@PySem.wpAny_updateSeq_pair
def WA:=@Nat.Coprime.dvd_of_dvd_mul_left
def WB:=@PySem.Heap.get?_update_ne
def WC:=@List.getElem_mem
def WD:=@List.Nodup.length_le_of_subset
def WE:=@List.mem_flatMap
def XZ:=@PySem.wpAny_standAt
def Y0:=@PySem.wpAny_onRaise
def Y1:=@Int.mul_add
def aX:=@List.mem_filter
def aY:=@PySem.call_meets
def aZ:=@List.nil_append
def b7:=@List.nodup_cons
def b8:=@PySem.wpAny_pyIter_tuple
def b9:=@PySem.wpAny_setField_rec
def bA:=@Int.mul_ne_zero
def bB:=@List.range_succ
def dB:=@PySem.wpAny_pyIter_list
def dC:=@PySem.codeAny_mono
def dD:=@PySem.concat_meets
def dE:=@if_false
def kR:=@Int.natAbs_ediv_le_natAbs
def kS:=@List.getElem?_take_of_lt
def kT:=@PySem.noFill_tuple_add
def kU:=@List.any_cons
def pQ:=@PySem.F.plain_tuple_new
def pR:=@PySem.F.args_zip_next_1
def pT:=@Nat.le_mul_of_pos_right
def qZ:=@Nat.le_of_eq
def r0:=@PySem.W.cellsFrom_some
def r9:=@List.map_nil
def rA:=@PySem.pushCells_keeps
def rB:=@Int.fmod_def
def rC:=@PySem.wpAny_updateSeq
def rD:=@PySem.F.entry_zip_next
def rE:=@Nat.sub_self
def rF:=@Nat.le_mul_of_pos_left
def rG:=@List.pairwise_lt_range
def wS:=@PySem.W.methodCall_KW
def wT:=@List.getElem?_zipWith
def wU:=@PySem.Calls.Name_function_global
def wV:=@List.mem_iff_getElem
def wW:=@Int.mul_neg
def wX:=@Nat.one_pow
def wY:=@List.mem_of_mem_take
def yP:=@PySem.wpAny_letOwnedTupleGo_zip
def yQ:=@List.length_zipWith
def yR:=@Array.toList_append
def yS:=@List.length_pos_iff
def yT:=@Nat.pow_le_pow_left
def yU:=@Nat.add_sub_cancel'
def yV:=@PySem.seq_tuple_add
def yW:=@PySem.wpAny_comprehension_free
def yX:=@Bool.false_eq_true
def zO:=@PySem.list_append
def zP:=@decide_eq_true_eq
def zQ:=@Nat.le_succ_of_le
def zR:=@Nat.lt_succ_of_lt
def zS:=@Int.natAbs_add_le
def zT:=@List.pairwise_map
def zU:=@PySem.seqIndex_neg
def zY:=@PySem.wpAny_isTrue_Compare1
def zZ:=@PySem.Heap.get?_update_self
def A00:=@PySem.builtinLookup_eq_fast
def A01:=@List.forIn_cons
def A02:=@Nat.min_eq_left
def A03:=@PySem.sizeLine_eq
def A04:=@PySem.Around.frames_deeper
def A05:=@PySem.seqIndex_of
def A06:=@PySem.F.args_list_append_2
def A07:=@PySem.wpAny_of_eq
def A08:=@PySem.wpAny_pyIter_revIter
namespace L2
open PySem PySem.Spec PyProof.Rows
abbrev Key:=Sum Int Str
def qB:Key->Value->Bool
 | .inl k,v=>Value.isInt k v
 | .inr x,v=>Value.isStrOf x v
def zC(w:World):Key->Int
 | .inl k=>hashInt k
 | .inr x=>hashStr w x
theorem F9:∀ {k:Key} {v:Value},qB k v=true->(∃i t,k=Sum.inl i/\v=Value.int i t)\/(∃x t,k=Sum.inr x/\v=Value.str x t)
 | .inl i,v,h=>by
  obtain ⟨t,e⟩:=Value.isInt_shape (k:=i) (v:=v) h
  exact .inl ⟨i,t,rfl,e⟩
 | .inr x,v,h=>by
  obtain ⟨t,e⟩:=Value.isStrOf_shape (x:=x) (v:=v) h;exact .inr ⟨x,t,rfl,e⟩
theorem uO(a b:Int):decide ((Sum.inl a:Key)=Sum.inl b)=(a==b):=by
 by_cases e:a=b
 . subst e;simp
 . have h:¬(Sum.inl a:Key)=Sum.inl b:=fun q=>e (Sum.inl.inj q);rw [BW h];exact (FU.mpr e).symm
theorem u6(a b:Str):decide ((Sum.inr a:Key)=Sum.inr b)=decide (a=b):=by
 by_cases e:a=b
 . subst e;simp
 . have h:¬(Sum.inr a:Key)=Sum.inr b:=fun q=>e (Sum.inr.inj q);rw [BW h,BW e]
theorem uF(a:Int)(b:Str):decide ((Sum.inl a:Key)=Sum.inr b)=false:=BW (fun q=>nomatch q)
theorem vF(a:Str)(b:Int):decide ((Sum.inr a:Key)=Sum.inl b)=false:=BW (fun q=>nomatch q)
def SJ(prog:Program)(w:World):PySem.KeyKind prog w Key where
 is:=qB
 hash:=zC w
 inj:=fun v a b ha hb=>by
  rcases F9 ha with ⟨i,t,rfl,rfl⟩ | ⟨x,t,rfl,rfl⟩
  . rcases F9 hb with ⟨j,u,rfl,e⟩ | ⟨y,u,rfl,e⟩
    . injection e with e1 _;rw [e1]
    . exact nomatch e
  . rcases F9 hb with ⟨j,u,rfl,e⟩ | ⟨y,u,rfl,e⟩
    . exact nomatch e
    . injection e with e1 _;rw [e1]
 byValue:=fun k v h=>by
  rcases F9 h with ⟨i,t,rfl,rfl⟩ | ⟨x,t,rfl,rfl⟩ <;> rfl
 pyHash:=fun hv h=>by
  rcases F9 hv with ⟨i,t,rfl,rfl⟩ | ⟨x,t,rfl,rfl⟩
  . exact wpAny_pyHash_int h
  . exact wpAny_pyHash_str h
 eqBool:=fun hu hv h=>by
  rcases F9 hu with ⟨i,t,rfl,rfl⟩ | ⟨x,t,rfl,rfl⟩
  . rcases F9 hv with ⟨j,u,rfl,rfl⟩ | ⟨y,u,rfl,rfl⟩
    . rw [uO] at h;exact wpAny_eqBool_int h
    . rw [uF] at h;exact SeqAt.EqAt.int_str i t y u _ _ _ _ h
  . rcases F9 hv with ⟨j,u,rfl,rfl⟩ | ⟨y,u,rfl,rfl⟩
    . rw [vF] at h;exact SeqAt.EqAt.str_int x t j u _ _ _ _ h
    . rw [u6] at h;exact wpAny_eqBool_str h
 «strs» := fun k x t v h => by
  rcases F9 h with ⟨i,u,rfl,e⟩ | ⟨y,u,rfl,e⟩
  . exact nomatch e
  . injection e with e1 _
    subst e1
    cases v <;> rfl
end L2
namespace L2
open PySem PySem.Spec PyProof.Rows
inductive V where
 | non | bl (b:Bool) | int (i:Int) | str (x:Str) | byt (b:Array UInt8) | flt (b:UInt64) | ref (a:Addr) | ty (n:String)
 deriving DecidableEq
def RelV:V->Value->Prop
 | .non,u=>u=Value.none
 | .bl b,u=>u=Value.bool b
 | .int i,u=>∃t,u=Value.int i t
 | .str x,u=>∃t,u=Value.str x t
 | .byt b,u=>∃t,u=Value.bytes b t
 | .flt b,u=>∃t,u=Value.float b t
 | .ref a,u=>u=Value.ref a
 | .ty n,u=>u=Value.type n
abbrev Vals:List V->List Value->Prop:=Paired RelV
theorem Vals.length{xs:List V}{us:List Value}(r:Vals xs us):xs.length=us.length:=Paired.length r
theorem Vals.get:∀ {xs:List V} {us:List Value} {i:Nat} {x:V},Vals xs us->xs[i]? = some x->∃u,us[i]? = some u/\RelV x u
 | _,_,_,_, .nil,e=>by simp at e
 | _,_,0,_, .cons r _,e=>by simp at e;subst e;exact ⟨_,rfl,r⟩
 | _,_,i+1,x, .cons _ t,e=>by
  obtain ⟨u,h1,h2⟩:=Vals.get (i:=i) (x:=x) t (by simpa using e);exact ⟨u,by simpa using h1,h2⟩
theorem Vals.set{x:V}{u:Value}(r:RelV x u):∀ {xs:List V} {us:List Value} (i:Nat),Vals xs us->Vals (xs.set i x) (us.set i u)
 | _,_,_, .nil=> .nil
 | _,_,0, .cons _ t=> .cons r t
 | _,_,i+1, .cons q t=> .cons q (Vals.set r i t)
theorem Vals.append:∀ {xs ys:List V} {us ws:List Value},Vals xs us->Vals ys ws->Vals (xs++ys) (us++ws)
 | _,_,_,_, .nil,s=>s
 | _,_,_,_, .cons r t,s=> .cons r (Vals.append t s)
theorem Vals.take:∀ {xs:List V} {us:List Value} (n:Nat),Vals xs us->Vals (xs.take n) (us.take n)
 | _,_,0,_=> .nil
 | _,_,_+1, .nil=> .nil
 | _,_,n+1, .cons r t=> .cons r (Vals.take n t)
theorem Vals.drop:∀ {xs:List V} {us:List Value} (n:Nat),Vals xs us->Vals (xs.drop n) (us.drop n)
 | _,_,0,r=>r
 | _,_,_+1, .nil=> .nil
 | _,_,n+1, .cons _ t=>Vals.drop n t
def RelO:Option V->Option Value->Prop
 | some v,some u=>RelV v u
 | none,none=>True
 | _,_=>False
def KV{κ:Type}:List (κ×V)->List (κ×Value)->Prop:=Paired fun (p:κ×V) (q:κ×Value)=>p.1=q.1/\RelV p.2 q.2
def kV:Key->V
 | .inl i=> .int i
 | .inr x=> .str x
inductive HO where
 | lst (xs:List V)
 | tup (xs:List V)
 | dK (kvs:List (Key×V)) | dT (kvs:List (List Key×V))
 | set (S:Int->Bool) (n:Nat)
 | ins (C dx:Addr) (fs:List (Str×V))
 | own (x:Addr)
 | xd (fs:List (Str×V))
 | met (f x:Addr)
 | rng (lo hi:Int)
 | frz (o:Obj) (u:HO)
 | tbl (ps:Array Value)
 | ext (φ:Heap->Prop)
abbrev Hp:=Addr->Option HO
def upd(H:Hp)(a:Addr)(o:HO):Hp:=fun b=>if b=a then some o else H b
theorem BC{H:Hp}{a:Addr}{o:HO}:upd H a o a=some o:=by unfold upd;rw [if_pos rfl]
theorem AY{H:Hp}{a b:Addr}{o:HO}(h:b≠a):upd H a o b=H b:=by unfold upd;rw [if_neg h]
theorem BD{H:Hp}{a b:Addr}{o:HO}(h:H a=some o)(h':H b=none):a≠b:=by
 intro e;subst e;rw [h] at h';cases h'
section
variable (P:Program) (w:World)
def ObjOk(H:Hp)(h:Heap)(a:Addr):HO->Prop
 | .lst xs=>xs.length<=sizeLine/\∃(its:List Value) (n:Nat),Vals xs its/\h.get? a=some {cls:= .type "list",data:= .seq its.toArray n}
 | .tup xs=>xs.length<=sizeLine/\∃its:List Value,Vals xs its/\IsTup h a its.toArray
 | .dK kvs=>kvs.length<=sizeLine/\(a==sysModules)=false/\∃vs,KV kvs vs/\h.DictOf (SJ P w) a vs
 | .dT kvs => kvs.length <= sizeLine /\ (a == sysModules) = false /\ ∃ xs : List (List Key × Addr × Value),
  Paired (fun (p:List Key×V) (q:List Key×Addr×Value)=>p.1=q.1/\H q.2.1=some (.tup (p.1.map kV))/\RelV p.2 q.2.2) kvs xs /\
  ∃o es ep,h.get? a=some o/\o.ExactDict/\o.data = .dict es ep/\es.toList=xs.map (entryOfKey (tupleKind (SJ P w)))/\(xs.map (·.1)).Nodup
 | .set S n=>h.SetOf (intKind P w) a S n
 | .ins C dx fs => H dx = some (.own a) /\ fs.length <= 1000 /\ dx ≠ a /\ h.get? a = some (PySem.W.instObj C dx) /\
  ∃mA,h.Ns1 dx mA/\(∀f,RelO (fs.lookup f) (mA f))/\PySem.Within mA (fs.map (·.1))
 | .own _=>∃o,h.get? a=some o
 | .xd fs=>∃mA,h.Ns1 a mA/\∀f,RelO (fs.lookup f) (mA f)
 | .rng lo hi=>∃t u v,h.get? a=some {cls:= .type "range",data:= .fields #[.int lo t, .int hi u, .int 1 v]}
 | .frz o u=>h.get? a=some o/\ObjOk H h a u
 | .tbl _=>∃qs:Array Value,h.get? a=some {cls:= .none,data:= .fields qs}/\TriplesOk qs.toList/\∀pos v,codeAmong pos qs.toList=some v->∃c oc vs x,v=Value.ref c/\H c=some (.frz oc (.own 0))/\oc.data = .fields vs/\vs[1]? = some x
 | .met f x=>h.get? a=some (PySem.W.methodObj (.ref f) (.ref x))
 | .ext φ=>φ h/\(∃o,h.get? a=some o)/\∀h1 h2:Heap,φ h1->(∀o,h1.get? a=some o->h2.get? a=some o)->φ h2
def HOk(H:Hp)(h:Heap):Prop:=∀a o,H a=some o->ObjOk P w H h a o
end
section
variable {P:Program} {w:World} {H H':Hp} {h h':Heap} {a:Addr} {o:HO}
theorem ObjOk.lt(x:ObjOk P w H h a o):a<h.objs.size:=by
 cases o with
 | lst xs=>obtain ⟨_,_,_,_,e⟩:=x;exact AU e
 | tup xs=>obtain ⟨_,_,_,p⟩:=x;exact p.lt
 | dK kvs=>obtain ⟨_,_,_,_,o,_,_,e,_⟩:=x;exact AU e
 | dT kvs=>obtain ⟨_,_,_,_,o,_,_,e,_⟩:=x;exact AU e
 | set S n=>obtain ⟨o,_,_,_,e,_⟩:=x;exact AU e
 | ins C dx fs=>obtain ⟨_,_,_,e,_⟩:=x;exact AU e
 | own y=>obtain ⟨_,e⟩:=x;exact AU e
 | xd fs=>obtain ⟨_,⟨_,_,_,e,_⟩,_⟩:=x;exact AU e
 | rng lo hi=>obtain ⟨_,_,_,e⟩:=x;exact AU e
 | frz ob u=>obtain ⟨e,_⟩:=x;exact AU e
 | tbl ps=>obtain ⟨_,e,_⟩:=x;exact AU e
 | met f y=>exact AU (show h.get? a=some _ from x)
 | ext φ=>obtain ⟨_,⟨_,e⟩,_⟩:=x;exact AU e
theorem Paired.mapP{α β:Type}{F G:α->β->Prop}:∀ {l₁:List α} {l₂:List β},Paired F l₁ l₂->(∀a b,F a b->G a b)->Paired G l₁ l₂
 | _,_, .nil,_=> .nil
 | _,_, .cons r t,f=> .cons (f _ _ r) (Paired.mapP t f)
theorem ObjOk.stay (x : ObjOk P w H h a o) (k : ∀ b u, (b = a \/ H b = some (.own a)) -> h.get? b = some u -> h'.get? b = some u)
 (ho:∀b,H b=some (.own a)->H' b=some (.own a)) (ht:∀b xs,H b=some (.tup xs)->H' b=some (.tup xs)) (hf:∀b o u,H b=some (.frz o u)->H' b=some (.frz o u):=by exact fun _ _ _ q=>q):ObjOk P w H' h' a o:=by
 induction o with
 | lst xs=>obtain ⟨z,its,n,r,e⟩:=x;exact ⟨z,its,n,r,k _ _ (.inl rfl) e⟩
 | tup xs=>obtain ⟨z,its,r,ob,e,c⟩:=x;exact ⟨z,its,r,ob,k _ _ (.inl rfl) e,c⟩
 | dK kvs=>obtain ⟨z,y,vs,r,ob,es,ep,e,c⟩:=x;exact ⟨z,y,vs,r,ob,es,ep,k _ _ (.inl rfl) e,c⟩
 | dT kvs=>
  obtain ⟨z,y,xs,r,ob,es,ep,e,c⟩:=x
  exact ⟨z,y,xs,Paired.mapP r fun p q z=>⟨z.1,ht _ _ z.2.1,z.2.2⟩,ob,es,ep,k _ _ (.inl rfl) e,c⟩
 | set S n=>obtain ⟨ob,es,ep,t,e,c⟩:=x;exact ⟨ob,es,ep,t,k _ _ (.inl rfl) e,c⟩
 | ins C dx fs=>
  obtain ⟨d,z,ne,e,mA,⟨od,es,ep,e2,c⟩,r⟩:=x
  exact ⟨ho _ d,z,ne,k _ _ (.inl rfl) e,mA,⟨od,es,ep,k _ _ (.inr d) e2,c⟩,r⟩
 | own y=>obtain ⟨ob,e⟩:=x;exact ⟨ob,k _ _ (.inl rfl) e⟩
 | xd fs=>obtain ⟨mA,⟨od,es,ep,e,c⟩,r⟩:=x;exact ⟨mA,⟨od,es,ep,k _ _ (.inl rfl) e,c⟩,r⟩
 | rng lo hi=>obtain ⟨t,u,v,e⟩:=x;exact ⟨t,u,v,k _ _ (.inl rfl) e⟩
 | frz ob u ih=>obtain ⟨e,q⟩:=x;exact ⟨k _ _ (.inl rfl) e,ih q⟩
 | tbl ps=>obtain ⟨qs,e,t,c⟩:=x;exact ⟨qs,k _ _ (.inl rfl) e,t,fun pos v q=>let ⟨c',oc,vs,y,e1,e2,e3⟩:=c pos v q;⟨c',oc,vs,y,e1,hf _ _ _ e2,e3⟩⟩
 | met f y=>
  have e:h.get? a=some (PySem.W.methodObj (.ref f) (.ref y)):=x;show h'.get? a=some (PySem.W.methodObj (.ref f) (.ref y))
  exact k a _ (.inl rfl) e
 | ext φ=>obtain ⟨p,⟨o,e⟩,st⟩:=x;exact ⟨st _ _ p fun o q=>k _ _ (.inl rfl) q,⟨o,k _ _ (.inl rfl) e⟩,st⟩
theorem HOk.lt(x:HOk P w H h)(e:H a=some o):a<h.objs.size:=(x a o e).lt
theorem HOk.fresh(x:HOk P w H h)(e:h.objs.size<=a):H a=none:=by
 cases q:H a with
 | none=>rfl
 | some u=>exact absurd (B2 (x.lt q) e) (G9 _)
theorem HOk.kept(x:HOk P w H h)(k:∀b u,h.get? b=some u->h'.get? b=some u):HOk P w H h':=fun a o e=>
 (x a o e).stay (fun b u _ q=>k b u q) (fun _ q=>q) fun _ _ q=>q
theorem HOk.laid(x:HOk P w H h)(k:∀b u,h.get? b=some u->h'.get? b=some u)(hp:h.objs.size<=a)(new:ObjOk P w (upd H a o) h' a o):HOk P w (upd H a o) h':=fun b u e=>by
 have hn:=x.fresh hp
 by_cases hb:b=a
 . subst hb;rw [BC] at e;cases e;exact new
 . rw [AY hb] at e
   exact (x b u e).stay (fun c v _ q=>k c v q) (fun c q=>by rw [AY (BD q hn)];exact q) (fun c xs q=>by rw [AY (BD q hn)];exact q) fun c ob xs q=>by rw [AY (BD q hn)];exact q
end
def Rd(H:Hp)(a:Addr)(u:HO):Prop:=H a=some u\/∃o,H a=some (.frz o u)
theorem Rd.ok{P:Program}{w:World}{H:Hp}{h:Heap}{a:Addr}{u:HO}(r:Rd H a u)(x:HOk P w H h):ObjOk P w H h a u:=by
 rcases r with r | ⟨o,r⟩
 . exact x a u r
 . obtain ⟨_,q⟩:=x a _ r;exact q
def Mut:Option HO->Prop
 | some (.lst _)=>True
 | some (.dK _)=>True
 | some (.dT _)=>True
 | some (.set _ _)=>True
 | some (.ins _ _ _)=>True
 | some (.ext _)=>True
 | _=>False
section
variable {P:Program} {w:World} {H:Hp} {h h':Heap} {x e:Addr} {o':HO}
theorem HOk.write (ok : HOk P w H h) (mu : Mut (H x)) (he : e = x \/ H e = some (.own x)) (k : ∀ b u, b ≠ e -> h.get? b = some u -> h'.get? b = some u) (heo : ∃ u, h'.get? e = some u)
 (new:ObjOk P w (upd H x o') h' x o'):HOk P w (upd H x o') h':=fun b u q=>by
 have nown:∀c y,H c=some (.own y)->c≠x:=fun c y r z=>by subst z;rw [r] at mu;exact mu
 have ntup:∀c xs,H c=some (.tup xs)->c≠x:=fun c xs r z=>by subst z;rw [r] at mu;exact mu
 by_cases hb:b=x
 . subst hb;rw [BC] at q;cases q;exact new
 . rw [AY hb] at q
   by_cases hbe:b=e
   . have q' : H b = some (.own x) := by
      rcases he with z | z
      . exact absurd (hbe.trans z) hb
      . rw [hbe];exact z
     rw [q] at q';cases q'
     obtain ⟨v,hv⟩:=heo;exact ⟨v,by rw [hbe];exact hv⟩
   . refine (ok b u q).stay (fun c v hc r=>k c v ?_ r) (fun c r=>by rw [AY (nown c b r)];exact r) (fun c xs r=>by rw [AY (ntup c xs r)];exact r) fun c ob xs r=>by rw [AY (fun z=>by subst z;rw [r] at mu;exact mu)];exact r
     rcases hc with rfl | hc
     . exact hbe
     . rintro rfl;rcases he with z | z
       . exact nown c b hc z
       . rw [hc] at z;cases z;exact hb rfl
end
structure Un (fs ex:List Addr) (H H':Hp) (h h':Heap):Prop where
 keep:∀b o,h.get? b=some o->H b=none->b ∉ fs->b ∉ ex->h'.get? b=some o
 slot:∀b o,h.get? b=some o->H b=none->b ∈ fs->b ∉ ex->∃sl,h'.get? b=some {o with slots:=sl}
 free:∀b o,h.get? b=some o->H b=none->b ∉ ex->H' b=none
 there:∀b o,h.get? b=some o->b ∉ ex->∃o',h'.get? b=some o'
 tups:∀b xs,H b=some (.tup xs)->H' b=some (.tup xs)
 frzs:∀b o u,H b=some (.frz o u)->H' b=some (.frz o u)
 tbls:∀b ps,H b=some (.tbl ps)->∃more,H' b=some (.tbl (ps++more))
section
variable {fs fs' ex ex':List Addr} {H H1 H2:Hp} {h h1 h2 h':Heap} {a x e:Addr} {o:HO}
theorem Un.any(u:Un fs ex H H1 h h1){b:Addr}{ob:Obj}(q:h.get? b=some ob)(n:H b=none)(hx:b ∉ ex):∃sl,h1.get? b=some {ob with slots:=sl}:=by
 by_cases hb:b ∈ fs
 . exact u.slot b ob q n hb hx
 . exact ⟨ob.slots,u.keep b ob q n hb hx⟩
theorem Un.kept(k:∀b u,h.get? b=some u->h'.get? b=some u):Un fs ex H H h h' :=
 ⟨fun b ob q _ _ _=>k b ob q,fun b ob q _ _ _=>⟨ob.slots,k b ob q⟩,fun _ _ _ n _=>n,fun b ob q _=>⟨ob,k b ob q⟩,fun _ _ q=>q,fun _ _ _ q=>q,fun _ ps q=>⟨#[],by rw [q];simp⟩⟩
theorem Un.refl:Un fs ex H H h h:=Un.kept fun _ _ q=>q
theorem Un.laid(k:∀b u,h.get? b=some u->h'.get? b=some u)(hp:h.objs.size<=a)(hn:H a=none):Un fs ex H (upd H a o) h h' where
 keep:=fun b u q _ _ _=>k b u q
 slot:=fun b u q _ _ _=>⟨u.slots,k b u q⟩
 free:=fun b u q n _=>by rw [AY (D9 (B2 (AU q) hp))];exact n
 there:=fun b u q _=>⟨u,k b u q⟩
 tups:=fun b xs q=>by rw [AY (BD q hn)];exact q
 frzs:=fun b u xs q=>by rw [AY (BD q hn)];exact q
 tbls:=fun b ps q=>⟨#[],by rw [AY (BD q hn),q];simp⟩
theorem Un.write(mu:Mut (H x))(he:e=x\/H e=some (.own x))(k:∀b u,b≠e->h.get? b=some u->h'.get? b=some u)(heo:∃u,h'.get? e=some u):Un fs ex H (upd H x o) h h':=by
 have hx:∀b,H b=none->b≠x:=fun b n z=>by subst z;rw [n] at mu;exact mu
 have hb:∀b,H b=none->b≠e:=fun b n z=>by
  subst z;rcases he with r | r
  . exact hx b n r
  . rw [n] at r;cases r
 have hm:∀b u,H b=some u->¬Mut (some u)->b≠x:=fun b u q nm z=>by subst z;rw [q] at mu;exact nm mu
 refine ⟨fun b u q n _ _=>k b u (hb b n) q,fun b u q n _ _=>⟨u.slots,k b u (hb b n) q⟩,fun b u q n _=>by rw [AY (hx b n)];exact n,fun b u q _=> ?_,
  fun b xs q=>by rw [AY (hm b _ q fun z=>z)];exact q,fun b u xs q=>by rw [AY (hm b _ q fun z=>z)];exact q,fun b ps q=>⟨#[],by rw [AY (hm b _ q fun z=>z),q];simp⟩⟩
 by_cases hbe:b=e
 . subst hbe;exact heo
 . exact ⟨u,k b u hbe q⟩
end
def trk(h:Heap)(H:Hp):List Addr:=(List.range h.objs.size).filter fun a=>(H a).isSome
def Q6(h:Heap)(H:Hp):Heap:=PySem.W.hideAll h (trk h H)
theorem bW(h:Heap)(H:Hp):(Q6 h H).objs.size=h.objs.size:=PySem.W.hideAll_size _ _
theorem gK{h:Heap}{H:Hp}{b:Addr}{o:Obj}(e:h.get? b=some o)(n:H b=none):(Q6 h H).get? b=some o:=
 PySem.W.hideAll_get _ e fun hm=>by
  have q:(H b).isSome=true:=(aX.mp hm).2;rw [n] at q;simp at q
theorem oY{h:Heap}{H:Hp}{b:Addr}{o:Obj}(e:(Q6 h H).get? b=some o):h.get? b=some o/\H b=none:=by
 have e':h.get? b=some o:=PySem.W.of_hideAll (trk h H) e;refine ⟨e',?_⟩
 cases q:H b with
 | none=>rfl
 | some x=>
  have hm:b ∈ trk h H:=aX.mpr ⟨BZ.mpr (AU e'),by simp [q]⟩;have z:(Q6 h H).get? b=none:=PySem.W.hideAll_none (trk h H) hm;rw [z] at e;cases e
def mH(g h:Heap)(L:Addr):List (Addr×Obj):=(List.range h.objs.size).filterMap fun a=>if a=L\/(g.get? a).isSome=true then none else (h.get? a).map fun o=>(a,o)
def rest(g h:Heap)(L d:Addr):List (Addr×Obj):=(mH g h L).filter fun p=>decide (p.1≠d)
end L2
namespace L2
open PySem PySem.Spec PyProof.Rows
def J6(K:PySem.W.Frag):List Addr:=match K.getLast? with
 | some (_,⟨.type "tables",_, .fields vs,_⟩)=>vs.toList.filterMap fun v=>match v with
  | .ref a=>some a
  | _=>none
 | _=> []
structure Mod (K:PySem.W.Frag) (mg:Str->Option Value) (base:Heap):Prop where
 kin:K.In base
 glob:base.Ns mainGlobals mg
 blt:∃mb,base.Ns builtinsNs mb/\∀x:Str,x ≠ "__name__" -> mb x=bootBuiltins x
 nolimit:base.NoLimit
structure Cx where
 prog:Program
 w:World
 K:PySem.W.Frag
 mg:Str->Option Value
 base:Heap
 A:Around
 N:List Str
 s₀:Shared
 H₀:Hp
 env:Env
 outer:List Env
 stack:List Env
 ex:List Addr
 fn:Str->Bool
 calm:Bool
 pn:List (Addr×Obj)
 xe:Value->Shared->Prop
def frs(l:List Env):List Addr:=l.filterMap (·.frame)
abbrev Cx.fs (X:Cx):List Addr:=frs X.outer
def Vis(sc:Scope)(x:Str):Prop:=sc.names.lookup x=some .local\/sc.names.lookup x=some .cell\/sc.names.lookup x=some .free
def Loc(sc:Scope)(x:Str):Prop:=sc.names.lookup x=some .local\/sc.names.lookup x=some .cell
def zF(env:Env)(h:Heap)(m:Str->Option Value)(x:Str)(u:Value):Prop:=
 (env.kindOf x=some .local/\m x=some u)\/((env.kindOf x=some .cell\/env.kindOf x=some .free)/\∃c,env.cells.lookup x=some c/\h.IsCell c (some u))
structure Cx.Ok (X:Cx):Prop where
 mod:Mod X.K X.mg X.base
 kind:X.env.scope.kind = .function
 glob:X.env.globals=mainGlobals
 blt:X.env.builtins=builtinsNs
 above:X.s₀.heap.objs.size<=X.env.locals
 inj:∀x y c,X.env.cells.lookup x=some c->X.env.cells.lookup y=some c->x=y
 has:∀x,(X.env.kindOf x=some .cell\/X.env.kindOf x=some .free)->∃c,X.env.cells.lookup x=some c
 cab:∀x c,X.fn x=true->X.env.cells.lookup x=some c->X.s₀.heap.objs.size<=c
 hd:X.calm=true->X.A.handled=none
 frames:X.A.frames=some X.stack
 stk:X.stack=X.outer\/(X.stack=X.env::X.outer/\X.env.frame=some X.env.locals)
 exf:∀b ∈ X.ex,b≠X.env.locals/\∀x c,X.env.cells.lookup x=some c->c≠b
 bs:∀b o,X.base.get? b=some o->X.s₀.heap.get? b=some o/\X.H₀ b=none
 bsz:X.base.objs.size<=X.s₀.heap.objs.size
 noex:∀b o,X.base.get? b=some o->b ∉ X.ex
 exfs:∀b ∈ X.ex,b ∉ X.fs
 funs:X.s₀.heap.FunFrames X.base X.outer
 frf:∀b ∈ X.fs,X.H₀ b=none
 tb:∀p ∈ J6 X.K,∃ps,X.H₀ p=some (.tbl ps)
structure Inv (X:Cx) (pins:List (Addr×Obj)) (σ:List (Option V)) (H:Hp) (s:Shared):Prop where
 ok:X.Ok
 os:s.os=X.s₀.os
 bare:AllBare s.gens
 base:Un X.fs X.ex X.H₀ H X.s₀.heap s.heap
 loc:∃m,s.heap.Ns X.env.locals m/\∀(i:Nat) (x:Str) (v:V),X.N[i]? = some x->σ[i]? = some (some v)->Vis X.env.scope x->∃u,RelV v u/\zF X.env s.heap m x u
 cell:∀x c,X.env.cells.lookup x=some c->∃v,s.heap.IsCell c v
 free:H X.env.locals=none
 freeC:∀x c,X.env.cells.lookup x=some c->H c=none
 pin:∀p ∈ X.pn++pins,s.heap.get? p.1=some p.2/\H p.1=none/\p.1≠X.env.locals/\p.1 ∉ X.fs/\∀v,p.2.data ≠ .cell v
 hok:HOk X.prog X.w H s.heap
 len:σ.length=X.N.length
section
variable {X:Cx} {pins:List (Addr×Obj)} {σ:List (Option V)} {H H':Hp} {s:Shared} {h':Heap}
theorem Cx.Ok.nofr(ok:X.Ok){b:Addr}{o:Obj}(e:X.base.get? b=some o):b ∉ X.fs:=fun hb=>by
 have:=(ok.funs.mem hb).1;rw [e] at this;cases this
theorem Inv.bs(I:Inv X pins σ H s):∀b o,X.base.get? b=some o->s.heap.get? b=some o/\H b=none:=fun b o e=>
 ⟨I.base.keep b o (I.ok.bs b o e).1 (I.ok.bs b o e).2 (I.ok.nofr e) (I.ok.noex b o e),I.base.free b o (I.ok.bs b o e).1 (I.ok.bs b o e).2 (I.ok.noex b o e)⟩
theorem Inv.bk(I:Inv X pins σ H s):∀b o,X.base.get? b=some o->s.heap.get? b=some o:=fun b o e=>(I.bs b o e).1
theorem Inv.tb(I:Inv X pins σ H s):∀p ∈ J6 X.K,∃ps,H p=some (.tbl ps):=fun p hp=>by
 obtain ⟨ps,e⟩:=I.ok.tb p hp;obtain ⟨m,e2⟩:=I.base.tbls p ps e;exact ⟨_,e2⟩
theorem Inv.mod(I:Inv X pins σ H s):Mod X.K X.mg X.base:=I.ok.mod
theorem Inv.kIn(I:Inv X pins σ H s):X.K.In s.heap:=I.ok.mod.kin.keeps I.bk
theorem Inv.nolimit(I:Inv X pins σ H s):s.heap.NoLimit:=I.ok.mod.nolimit.keeps I.bk
theorem Inv.fr(I:Inv X pins σ H s):∃m,Fr X.base X.env.locals s.heap m:=
 let ⟨m,hn,_⟩:=I.loc
 ⟨m,hn,I.bk,BH I.ok.bsz I.ok.above⟩
theorem Inv.lt(I:Inv X pins σ H s):X.env.locals<s.heap.objs.size:=let ⟨_,hn,_⟩:=I.loc;hn.lt
theorem Inv.sz(I:Inv X pins σ H s):X.s₀.heap.objs.size<=s.heap.objs.size:=BH I.ok.above (HY I.lt)
theorem Inv.nofs(I:Inv X pins σ H s){a:Addr}(h:s.heap.objs.size<=a):a ∉ X.fs:=fun hb=>by
 obtain ⟨_,o,ho,_⟩:=I.ok.funs.mem hb;exact absurd (B2 (AU ho) (BH I.sz h)) (G9 _)
theorem Inv.cne(I:Inv X pins σ H s):∀x c,X.env.cells.lookup x=some c->c≠X.env.locals:=fun x c e z=>by
 obtain ⟨v,o,ho,hd⟩:=I.cell x c e;obtain ⟨m,⟨o',es,ep,ho',hd',_⟩,_⟩:=I.loc;rw [z,ho'] at ho;cases ho;rw [hd'] at hd;cases hd
theorem Inv.funs(I:Inv X pins σ H s):s.heap.FunFrames X.base X.outer:=by
 have all:∀(l:List Env),(∀b ∈ frs l,b ∈ X.fs)->X.s₀.heap.FunFrames X.base l->s.heap.FunFrames X.base l:=by
  intro l
  induction l with
  | nil=>intro _ _;trivial
  | cons env r ih=>
   intro hs hl;obtain ⟨hk,⟨L,o,hf,hn,ho,hd⟩,hr⟩:=hl;have hL:L ∈ X.fs:=hs L (by unfold frs;rw [List.filterMap_cons,hf];exact List.mem_cons_self);obtain ⟨sl,e⟩:=I.base.slot L o ho (I.ok.frf L hL) hL fun z=>I.ok.exfs L z hL;exact ⟨hk,⟨L,_,hf,hn,e,hd⟩,ih (fun b hb=>hs b (by unfold frs;rw [List.filterMap_cons,hf];exact List.mem_cons_of_mem _ hb)) hr⟩
 exact all X.outer (fun _ hb=>hb) I.ok.funs
theorem Inv.stack(I:Inv X pins σ H s):s.heap.FunFrames X.base X.stack:=by
 rcases I.ok.stk with e | ⟨e,hf⟩
 . rw [e];exact I.funs
 . rw [e];obtain ⟨m,hn,_⟩:=I.loc;refine .cons (by rw [I.ok.kind];decide) hf hn ?_ I.funs;exact Heap.get?_none_of_le (BH I.ok.bsz I.ok.above)
theorem Inv.stkSub(I:Inv X pins σ H s):∀b ∈ frs X.stack,b ∈ X.env.locals::X.fs:=fun b hb=>by
 rcases I.ok.stk with e | ⟨e,hf⟩
 . rw [e] at hb;exact B6 _ hb
 . rw [e] at hb
   unfold frs at hb
   rw [List.filterMap_cons,hf] at hb
   exact hb
theorem Inv.stkFree(I:Inv X pins σ H s):∀b ∈ frs X.stack,H b=none:=fun b hb=>by
 rcases AZ.mp (I.stkSub b hb) with e | hb
 . rw [e];exact I.free
 . obtain ⟨_,o,ho,_⟩:=I.ok.funs.mem hb;exact I.base.free b o ho (I.ok.frf b hb) fun z=>I.ok.exfs b z hb
theorem Inv.step {g' : Array GenState} {t' : Nat} {d' : Drawn} {ch : List Addr} (I : Inv X pins σ H s)
 (hch:∀b ∈ ch,(b ∈ X.ex\/X.s₀.heap.objs.size<=b)/\b≠X.env.locals/\(∀x c,X.env.cells.lookup x=some c->c≠b)/\∀p ∈ X.pn++pins,p.1≠b)
 (keep:∀b o,b≠X.env.locals->b ∉ X.fs->b ∉ ch->s.heap.get? b=some o->H b=none->h'.get? b=some o)
 (slot:∀b o,b≠X.env.locals->b ∈ X.fs->b ∉ ch->s.heap.get? b=some o->H b=none->∃sl,h'.get? b=some {o with slots:=sl}) (free:∀b o,b ∉ ch->s.heap.get? b=some o->H b=none->H' b=none)
 (there:∀b o,b ∉ ch->s.heap.get? b=some o->∃o',h'.get? b=some o')
 (tups:∀b xs,H b=some (.tup xs)->H' b=some (.tup xs)) (frzs:∀b o u,H b=some (.frz o u)->H' b=some (.frz o u)) (tbls:∀b ps,H b=some (.tbl ps)->∃more,H' b=some (.tbl (ps++more)))
 (ns:∀m,s.heap.Ns X.env.locals m->h'.Ns X.env.locals m) (hok:HOk X.prog X.w H' h') (hg:AllBare g') :
 Inv X pins σ H' {s with heap:=h',gens:=g',drawn:=d',toks:=t' }:=by
 have neL:∀b o,X.s₀.heap.get? b=some o->b≠X.env.locals:=fun b o e=>D9 (B2 (AU e) I.ok.above)
 have neC:∀b o,X.s₀.heap.get? b=some o->b ∉ X.ex->b ∉ ch:=fun b o e hx hb=>by
  rcases (hch b hb).1 with z | z
  . exact hx z
  . exact absurd (B2 (AU e) z) (G9 _)
 have cellK:∀x c,X.env.cells.lookup x=some c->∀v,s.heap.IsCell c v->h'.IsCell c v:=fun x c e v ⟨o,ho,hd⟩=>by
  have nch:c ∉ ch:=fun z=>(hch c z).2.2.1 x c e rfl
  by_cases hc:c ∈ X.fs
  . obtain ⟨sl,q⟩:=slot c o (I.cne x c e) hc nch ho (I.freeC x c e);exact ⟨_,q,hd⟩
  . exact ⟨o,keep c o (I.cne x c e) hc nch ho (I.freeC x c e),hd⟩
 refine ⟨I.ok,I.os,hg,⟨fun b o e n hb hx=> ?_,fun b o e n hb hx=> ?_,fun b o e n hx=> ?_,fun b o e hx=> ?_,fun b xs e=>tups b xs (I.base.tups b xs e),fun b o xs e=>frzs b o xs (I.base.frzs b o xs e),fun b ps e=> ?_⟩,?_,fun x c e=> ?_,?_,fun x c e=> ?_,fun p hp=> ?_,hok,I.len⟩
 . exact keep b o (neL b o e) hb (neC b o e hx) (I.base.keep b o e n hb hx) (I.base.free b o e n hx)
 . obtain ⟨sl,e1⟩:=I.base.slot b o e n hb hx;obtain ⟨sl',e2⟩:=slot b _ (neL b o e) hb (neC b o e hx) e1 (I.base.free b o e n hx);exact ⟨sl',e2⟩
 . obtain ⟨o',e1⟩:=I.base.there b o e hx;exact free b o' (neC b o e hx) e1 (I.base.free b o e n hx)
 . obtain ⟨o',e1⟩:=I.base.there b o e hx;exact there b o' (neC b o e hx) e1
 . obtain ⟨m1,e1⟩:=I.base.tbls b ps e;obtain ⟨m2,e2⟩:=tbls b _ e1;exact ⟨m1++m2,by rw [e2,Array.append_assoc]⟩
 . obtain ⟨m,hn,hl⟩:=I.loc;refine ⟨m,ns m hn,fun i x v e1 e2 e3=> ?_⟩;obtain ⟨u,r,l⟩:=hl i x v e1 e2 e3;refine ⟨u,r,?_⟩;rcases l with l | ⟨k,c,e,z⟩
   . exact .inl l
   . exact .inr ⟨k,c,e,cellK x c e _ z⟩
 . obtain ⟨v,z⟩:=I.cell x c e;exact ⟨v,cellK x c e v z⟩
 . obtain ⟨m,⟨o,_,_,ho,_⟩,_⟩:=I.loc;exact free _ o (fun z=>(hch _ z).2.1 rfl) ho I.free
 . obtain ⟨v,o,ho,hd⟩:=I.cell x c e;exact free c o (fun z=>(hch c z).2.2.1 x c e rfl) ho (I.freeC x c e)
 . obtain ⟨e,n,ne,nf,d⟩:=I.pin p hp;have nch:p.1 ∉ ch:=fun z=>(hch p.1 z).2.2.2 p hp rfl;exact ⟨keep p.1 p.2 ne nf nch e n,free p.1 p.2 nch e n,ne,nf,d⟩
theorem Inv.un{t':Nat}(I:Inv X pins σ H s)(u:Un X.fs [] H H' s.heap h')(hok:HOk X.prog X.w H' h'):Inv X pins σ H' {s with heap:=h',toks:=t' }:=by
 obtain ⟨m,⟨o,es,ep,ho,r⟩,_⟩:=id I.loc;obtain ⟨sl,hL⟩:=u.any ho I.free (by simp)
 exact I.step (g':=s.gens) (d':=s.drawn) (ch:= []) (fun _ z=>nomatch z) (fun b o _ hb _ e n=>u.keep b o e n hb (by simp)) (fun b o _ hb _ e n=>u.slot b o e n hb (by simp)) (fun b o _ e n=>u.free b o e n (by simp)) (fun b o _ e=>u.there b o e (by simp)) u.tups u.frzs u.tbls (fun m' hm=>by
  obtain ⟨o',es',ep',ho',r'⟩:=hm;rw [ho] at ho';cases ho'
  exact ⟨_,es',ep',hL,r'⟩) hok I.bare
theorem Inv.call {g' : Array GenState} {t' : Nat} {d' : Drawn} {ch : List Addr} (I : Inv X pins σ H s) (u : Un (frs X.stack) ch H H' s.heap h') (hok : HOk X.prog X.w H' h') (hg : AllBare g')
 (hch:∀b ∈ ch,(b ∈ X.ex\/X.s₀.heap.objs.size<=b)/\b≠X.env.locals/\(∀x c,X.env.cells.lookup x=some c->c≠b)/\∀p ∈ X.pn++pins,p.1≠b) :
 Inv X pins σ H' {s with heap:=h',gens:=g',drawn:=d',toks:=t' }:=by
 obtain ⟨m,⟨o,es,ep,ho,r⟩,_⟩:=id I.loc;obtain ⟨sl,hL⟩:=u.any ho I.free fun z=>(hch _ z).2.1 rfl
 exact I.step (ch:=ch) hch (fun b o hL hb hc e n=>u.keep b o e n (fun z=>(AZ.mp (I.stkSub b z)).elim hL hb) hc) (fun b o _ _ hc e n=>u.any e n hc) (fun b o hc e n=>u.free b o e n hc) (fun b o hc e=>u.there b o e hc) u.tups u.frzs u.tbls (fun m' hm=>by
  obtain ⟨o',es',ep',ho',r'⟩:=hm;rw [ho] at ho';cases ho'
  exact ⟨_,es',ep',hL,r'⟩) hok hg
theorem Inv.turned {t' : Nat} {it : Addr} (I : Inv X pins σ H s) (k : ∀ b o, b ≠ it -> s.heap.get? b = some o -> h'.get? b = some o) (hn : H it = none) (hL : it ≠ X.env.locals)
 (h1:it ∈ X.ex\/X.s₀.heap.objs.size<=it) (h2:∀x c,X.env.cells.lookup x=some c->c≠it) (h3:∀p ∈ X.pn++pins,p.1≠it):Inv X pins σ H {s with heap:=h',toks:=t' }:=by
 have nit:∀b u,H b=some u->b≠it:=fun b u e z=>by rw [z,hn] at e;cases e
 refine I.step (g':=s.gens) (d':=s.drawn) (ch:= [it]) (fun b hb=> ?_) (fun b o _ _ hc e _=>k b o (fun z=>hc (by simp [z])) e) (fun b o _ _ hc e _=>⟨o.slots,k b o (fun z=>hc (by simp [z])) e⟩) (fun _ _ _ _ n=>n)
  (fun b o hc e=>⟨o,k b o (fun z=>hc (by simp [z])) e⟩) (fun _ _ e=>e) (fun _ _ _ e=>e) (fun b ps e=>⟨#[],by rw [e];simp⟩) (fun m hm=> ?_) (fun b u e=> ?_) I.bare
 . have e:b=it:=by simpa using hb
   subst e;exact ⟨h1,hL,h2,h3⟩
 . obtain ⟨o,es,ep,ho,r⟩:=hm;exact ⟨o,es,ep,k _ o (HZ hL) ho,r⟩
 . refine (I.hok b u e).stay (fun c v hc q=>k c v ?_ q) (fun _ q=>q) fun _ _ q=>q;rcases hc with z | z
   . rw [z];exact nit b u e
   . exact nit c _ z
theorem Inv.tok(I:Inv X pins σ H s)(t:Nat):Inv X pins σ H {s with toks:=t}:=I.un (h':=s.heap) (t':=t) Un.refl I.hok
theorem Inv.kept{t':Nat}(I:Inv X pins σ H s)(k:∀b u,s.heap.get? b=some u->h'.get? b=some u):Inv X pins σ H {s with heap:=h',toks:=t' }:=I.un (Un.kept k) (I.hok.kept k)
theorem Inv.laid {a : Addr} {o : HO} {t' : Nat} (I : Inv X pins σ H s) (k : ∀ b u, s.heap.get? b = some u -> h'.get? b = some u) (hp : s.heap.objs.size <= a) (new : ObjOk X.prog X.w (upd H a o) h' a o) :
 Inv X pins σ (upd H a o) {s with heap:=h',toks:=t' }:=I.un (Un.laid k hp (I.hok.fresh hp)) (I.hok.laid k hp new)
theorem Inv.write {x e : Addr} {o : HO} {t' : Nat} (I : Inv X pins σ H s) (mu : Mut (H x)) (he : e = x \/ H e = some (.own x)) (k : ∀ b u, b ≠ e -> s.heap.get? b = some u -> h'.get? b = some u) (heo : ∃ u, h'.get? e = some u)
 (new:ObjOk X.prog X.w (upd H x o) h' x o):Inv X pins σ (upd H x o) {s with heap:=h',toks:=t' }:=I.un (Un.write mu he k heo) (I.hok.write mu he k heo new)
theorem Inv.weak{σ':List (Option V)}(I:Inv X pins σ H s)(hl:σ'.length=σ.length)(w:∀(i:Nat) v,σ'[i]? = some (some v)->σ[i]? = some (some v)):Inv X pins σ' H s:=
 ⟨I.ok,I.os,I.bare,I.base,let ⟨m,hn,hl'⟩:=I.loc;⟨m,hn,fun i x v e1 e2 e3=>hl' i x v e1 (w i v e2) e3⟩,I.cell,I.free,I.freeC,I.pin,I.hok,hl.trans I.len⟩
theorem Inv.pins_of{pins':List (Addr×Obj)}(I:Inv X pins σ H s)(h:∀p ∈ pins',s.heap.get? p.1=some p.2/\H p.1=none/\p.1≠X.env.locals/\p.1 ∉ X.fs/\∀v,p.2.data ≠ .cell v):Inv X pins' σ H s:=
 ⟨I.ok,I.os,I.bare,I.base,I.loc,I.cell,I.free,I.freeC,fun p hp=>(CN.mp hp).elim (fun z=>I.pin p (J7 _ z)) (h p),I.hok,I.len⟩
theorem PF{N:List Str}(hN:N.Nodup){i j:Nat}{x:Str}(a:N[i]? = some x)(b:N[j]? = some x):i=j:=by
 obtain ⟨h1,e1⟩:=AX.mp a;obtain ⟨h2,e2⟩:=AX.mp b;exact (List.getElem_inj hN).mp (e1.trans e2.symm)
theorem QN {M : Model} {A : Around} {E : Value -> Shared -> Prop} {i : Nat} {x : Str} {v : V} {u : Value} {Q : Unit -> Shared -> Prop} (I : Inv X pins σ H s) (hN : X.N.Nodup) (hi : X.N[i]? = some x) (hx : Loc X.env.scope x) (r : RelV v u)
 (h:∀s',Inv X pins (σ.set i (some v)) H s'->(∃a,Heap.SameBut a s.heap s'.heap/\(a=X.env.locals\/X.env.cells.lookup x=some a))->Q () s') (hf:X.fn x=true\/X.env.scope.names.lookup x=some .local:=by first | exact .inl rfl | exact .inr rfl | assumption):wpAny M A (storeName X.env x u) Q E s:=by
 obtain ⟨m,hn,hl⟩:=id I.loc;have hcls:(X.env.scope.kind == .class || (X.env.scope.kind == .module && X.env.locals != X.env.globals))=false:=by rw [I.ok.kind];rfl
 have hiσ:i<σ.length:=by rw [I.len];exact (AX.mp hi).1
 have cne:=I.cne
 have tracked:∀ {a:Addr} {h':Heap},(∃o,s.heap.get? a=some o/\H a=none)->Heap.SameBut a s.heap h'->HOk X.prog X.w H h':=fun {a h'} ha hs b ob e=>by
  obtain ⟨_,_,hfree⟩:=ha;refine (I.hok b ob e).stay (fun c w' hc q=>(hs.2 c ?_).trans q) (fun _ q=>q) fun _ _ q=>q;rintro rfl;rcases hc with rfl | hc
  . rw [hfree] at e;cases e
  . rw [hfree] at hc;cases hc
 rcases hx with hk | hk
 . refine wpAny_storeName_local hk hn (fun h' hn' hs=> ?_) hcls;obtain ⟨oL,_,_,hoL,_⟩:=id hn;refine h _ ⟨I.ok,I.os,I.bare,⟨fun b o e n hb hx=> ?_,fun b o e n hb hx=> ?_,I.base.free,fun b o e hx=> ?_,I.base.tups,I.base.frzs,I.base.tbls⟩,⟨_,hn',fun j y v' e1 e2 e3=> ?_⟩,fun y c e=> ?_,I.free,I.freeC,fun p hp=> ?_,tracked ⟨oL,hoL,I.free⟩ hs,by simpa using I.len⟩ ⟨_,hs, .inl rfl⟩
   . exact (hs.2 b (D9 (B2 (AU e) I.ok.above))).trans (I.base.keep b o e n hb hx)
   . obtain ⟨sl,e1⟩:=I.base.slot b o e n hb hx;exact ⟨sl,(hs.2 b (D9 (B2 (AU e) I.ok.above))).trans e1⟩
   . obtain ⟨o',e1⟩:=I.base.there b o e hx;exact ⟨o',(hs.2 b (D9 (B2 (AU e) I.ok.above))).trans e1⟩
   . by_cases hj:j=i
     . subst hj;rw [hi] at e1;cases e1
       rw [B7 hiσ] at e2
       cases e2
       exact ⟨u,r, .inl ⟨hk,by simp⟩⟩
     . rw [A8 (HZ hj)] at e2
       obtain ⟨u',r',q⟩:=hl j y v' e1 e2 e3;refine ⟨u',r',?_⟩;rcases q with ⟨k,e⟩ | ⟨k,c,e,z⟩
       . refine .inl ⟨k,?_⟩;have:y≠x:=fun e=>hj (PF hN e1 (e ▸ hi));simp [this,e]
       . exact .inr ⟨k,c,e,z.sameBut hs (cne y c e)⟩
   . obtain ⟨w',z⟩:=I.cell y c e;exact ⟨w',z.sameBut hs (cne y c e)⟩
   . obtain ⟨e,n,ne,nf,d⟩:=I.pin p hp;exact ⟨(hs.2 p.1 ne).trans e,n,ne,nf,d⟩
 . have hfn : X.fn x = true := by
    rcases hf with z | z
    . exact z
    . rw [z] at hk;cases hk
   obtain ⟨c,hc⟩:=I.ok.has x (.inl hk);obtain ⟨w',z⟩:=I.cell x c hc;refine wpAny_storeName_cell I.ok.kind hk hc z (fun h' hc' hs=> ?_);obtain ⟨oc,hoc,hocd⟩:=id z;refine h {s with heap:=h' } ⟨I.ok,I.os,I.bare,⟨fun b o e n hb hx=> ?_,fun b o e n hb hx=> ?_,I.base.free,fun b o e hx=> ?_,I.base.tups,I.base.frzs,I.base.tbls⟩,⟨m,hn.sameBut hs (HZ (cne x c hc)),fun j y v' e1 e2 e3=> ?_⟩,fun y c' e=> ?_,I.free,I.freeC,fun p hp=> ?_,tracked ⟨oc,hoc,I.freeC x c hc⟩ hs,by simpa using I.len⟩ ⟨c,hs, .inr hc⟩
   . exact (hs.2 b (D9 (B2 (AU e) (I.ok.cab x c hfn hc)))).trans (I.base.keep b o e n hb hx)
   . obtain ⟨sl,e1⟩:=I.base.slot b o e n hb hx;exact ⟨sl,(hs.2 b (D9 (B2 (AU e) (I.ok.cab x c hfn hc)))).trans e1⟩
   . obtain ⟨o',e1⟩:=I.base.there b o e hx;exact ⟨o',(hs.2 b (D9 (B2 (AU e) (I.ok.cab x c hfn hc)))).trans e1⟩
   . by_cases hj:j=i
     . subst hj;rw [hi] at e1;cases e1
       rw [B7 hiσ] at e2
       cases e2
       exact ⟨u,r, .inr ⟨.inl hk,c,hc,hc'⟩⟩
     . rw [A8 (HZ hj)] at e2
       obtain ⟨u',r',q⟩:=hl j y v' e1 e2 e3;refine ⟨u',r',?_⟩;rcases q with q | ⟨k,c',e,z'⟩
       . exact .inl q
       . refine .inr ⟨k,c',e,z'.sameBut hs ?_⟩;rintro rfl;exact hj (PF hN e1 (I.ok.inj _ _ _ e hc ▸ hi))
   . by_cases hcc:c'=c
     . subst hcc;exact ⟨_,hc'⟩
     . obtain ⟨w2,z2⟩:=I.cell y c' e;exact ⟨w2,z2.sameBut hs hcc⟩
   . obtain ⟨e,n,ne,nf,d⟩:=I.pin p hp;refine ⟨(hs.2 p.1 ?_).trans e,n,ne,nf,d⟩;intro q;rw [q,hoc] at e
     have q':oc=p.2:=B9 e;exact d w' (by rw [<-q'];exact hocd)
theorem UT {M : Model} {A : Around} {E : Value -> Shared -> Prop} {i : Nat} {x : Str} {v : V} {u : Value} {Q : Unit -> Shared -> Prop} (I : Inv X pins σ H s) (hN : X.N.Nodup) (hi : X.N[i]? = some x) (hx : Loc X.env.scope x) (r : RelV v u)
 (h:∀s',Inv X pins (σ.set i (some v)) H s'->Q () s') (hf:X.fn x=true\/X.env.scope.names.lookup x=some .local:=by first | exact .inl rfl | exact .inr rfl | assumption):wpAny M A (storeName X.env x u) Q E s:=
 QN I hN hi hx r (fun s' I' _=>h s' I') hf
theorem Inv.call' {s' : Shared} {ch : List Addr} (I : Inv X pins σ H s) (ho : s'.os = s.os) (u : Un (frs X.stack) ch H H' s.heap s'.heap) (hok : HOk X.prog X.w H' s'.heap) (hg : AllBare s'.gens)
 (hch:∀b ∈ ch,(b ∈ X.ex\/X.s₀.heap.objs.size<=b)/\b≠X.env.locals/\(∀x c,X.env.cells.lookup x=some c->c≠b)/\∀p ∈ X.pn++pins,p.1≠b):Inv X pins σ H' s':=by
 obtain ⟨h',g',d',t',o'⟩:=s';have e:o'=s.os:=ho;subst e;exact I.call (g':=g') (t':=t') (d':=d') u hok hg hch
end
abbrev XK:=Value->Option Addr->Hp->Prop
abbrev St:=List (Option V)
abbrev VK:=V->Hp->Prop
abbrev TE:=St->Hp->VK->Prop
abbrev TT:=St->Hp->(Bool->Hp->Prop)->Prop
abbrev TA:=St->Hp->(List V->Hp->Prop)->Prop
structure Ends where
 nx:St->Hp->Prop
 rt:VK
 bk:St->Hp->Prop:=fun _ _=>False
 ct:St->Hp->Prop:=fun _ _=>False
abbrev TS:=Ends->St->Hp->Prop
def EP(X:Cx)(pins:List (Addr×Obj))(σ:St)(Q:VK)(u:Value)(s':Shared):Prop:=∃v H',Inv X pins σ H' s'/\RelV v u/\Q v H'
def TP(X:Cx)(pins:List (Addr×Obj))(σ:St)(Q:Bool->Hp->Prop)(b:Bool)(s':Shared):Prop:=∃H',Inv X pins σ H' s'/\Q b H'
def AP(X:Cx)(pins:List (Addr×Obj))(σ:St)(Q:List V->Hp->Prop)(us:List Value)(s':Shared):Prop:=∃vs H',Inv X pins σ H' s'/\Vals vs us/\Q vs H'
def SP(X:Cx)(pins:List (Addr×Obj))(D:Ends)(f:Flow)(s':Shared):Prop:=
 match f with
 | .next=>∃σ' H',Inv X pins σ' H' s'/\D.nx σ' H'
 | .brk=>∃σ' H',Inv X pins σ' H' s'/\D.bk σ' H'
 | .cont=>∃σ' H',Inv X pins σ' H' s'/\D.ct σ' H'
 | .ret u=>∃v σ' H',Inv X pins σ' H' s'/\RelV v u/\D.rt v H'
def PE(X:Cx)(e:Expr)(t:TE):Prop:=
 ∀(pins:List (Addr×Obj)) (s:Shared) (σ:St) (H:Hp) (Q:VK),Inv X pins σ H s->t σ H Q->wpAny (model X.prog X.w) X.A (eval e X.env) (EP X pins σ Q) X.xe s
def PT(X:Cx)(e:Expr)(t:TT):Prop:=
 ∀(pins:List (Addr×Obj)) (s:Shared) (σ:St) (H:Hp) (Q:Bool->Hp->Prop),Inv X pins σ H s->t σ H Q->wpAny (model X.prog X.w) X.A (isTrue e X.env (eval e X.env)) (TP X pins σ Q) X.xe s
def PW(X:Cx)(e:Expr)(t:TT):Prop:=
 ∀(whole:Sem Value) (pins:List (Addr×Obj)) (s:Shared) (σ:St) (H:Hp) (Q:Bool->Hp->Prop),Inv X pins σ H s->t σ H Q->wpAny (model X.prog X.w) X.A (isTrue e X.env whole) (TP X pins σ Q) X.xe s
theorem PW.pt{X:Cx}{e:Expr}{t:TT}(h:PW X e t):PT X e t:=h _
def PA(X:Cx)(es:List Expr)(t:TA):Prop:=
 ∀(pos:Pos) (pins:List (Addr×Obj)) (s:Shared) (σ:St) (H:Hp) (Q:List V->Hp->Prop),Inv X pins σ H s->t σ H Q->wpAny (model X.prog X.w) X.A (spliced (backTo pos (starEach es X.env))) (AP X pins σ Q) X.xe s
def PS(X:Cx)(st:Stmt)(t:TS):Prop:=
 ∀(pins:List (Addr×Obj)) (s:Shared) (σ:St) (H:Hp) (D:Ends),Inv X pins σ H s->t D σ H->wpAny (model X.prog X.w) X.A (exec st X.env) (SP X pins D) X.xe s
def PSs(X:Cx)(st:List Stmt)(t:TS):Prop:=
 ∀(pins:List (Addr×Obj)) (s:Shared) (σ:St) (H:Hp) (D:Ends),Inv X pins σ H s->t D σ H->wpAny (model X.prog X.w) X.A (execs st X.env) (SP X pins D) X.xe s
theorem thn{α:Type}{t:Sem α}{Q Q':α->Shared->Prop}{M:Model}{A:Around}{E:Value->Shared->Prop}{s:Shared}(h:wpAny M A t Q E s)(hQ:∀a s,Q a s->Q' a s):wpAny M A t Q' E s:=FN h hQ fun _ _ x=>x
end L2
namespace L2
open PySem PySem.Spec PyProof.Rows
section
variable {X:Cx}
theorem bin {a b : Expr} {ta tb : TE} (ha : PE X a ta) (hb : PE X b tb) {pins : List (Addr × Obj)} {s : Shared} {σ : St} {H : Hp} {R : V -> V -> Hp -> Prop} (I : Inv X pins σ H s) (h : ta σ H fun x H1 => tb σ H1 fun y H2 => R x y H2)
 {α:Type} {Q:α->Shared->Prop} {f:Value->Value->Sem α}
 (hf:∀v u s2 x y H2,Inv X pins σ H2 s2->RelV x v->RelV y u->R x y H2->wpAny (model X.prog X.w) X.A (f v u) Q X.xe s2) :
 wpAny (model X.prog X.w) X.A (eval a X.env) (fun v s₁=>wpAny (model X.prog X.w) X.A (eval b X.env) (fun u s₂=>wpAny (model X.prog X.w) X.A (f v u) Q X.xe s₂) X.xe s₁) X.xe s:=by
 refine thn (ha pins s σ H _ I h) fun v s1 ⟨x,H1,I1,r1,q1⟩ => ?_;refine thn (hb pins s1 σ H1 _ I1 q1) fun u s2 ⟨y,H2,I2,r2,q2⟩ => ?_;exact hf v u s2 x y H2 I2 r1 r2 q2
def KI(i:Nat):TE:=fun σ H Q=>∃v,σ[i]? = some (some v)/\Q v H
def tC(v:V):TE:=fun _ H Q=>Q v H
theorem G3 {i:Nat} {x:Str} {pos:Pos} (hN:X.N[i]? = some x) (hv:Vis X.env.scope x) (hd:(x==("__debug__" : Str))=false:=by decide) (hcd:(x==("__classdict__" : Str))=false:=by decide):PE X (.Name x pos) (KI i):=by
 intro pins s σ H Q I h;obtain ⟨v,e,h⟩:=h;obtain ⟨m,hn,hl⟩:=I.loc;obtain ⟨u,r,l⟩:=hl i x v hN e hv;have fin:EP X pins σ Q u s:=⟨v,H,I,r,h⟩;rcases l with ⟨hk,hm⟩ | ⟨hk,c,hc,hcell⟩
 . exact wpAny_Name (wpAny_loadName_local I.ok.kind hk hn hm fin) hd
 . rcases hk with hk | hk
   . exact wpAny_Name (wpAny_loadName_cell I.ok.kind hk hc hcell fin) hd
   . exact wpAny_Name (wpAny_loadName_free I.ok.kind hk hc hcell fin hcd) hd
theorem iO{i j pos}:PE X (.Constant (.int i) j pos) (tC (.int i)):=fun _ _ _ H _ I h=>wpAny_Constant_int ⟨.int i,H,I.tok _,⟨_,rfl⟩,h⟩
theorem xY{b j pos}:PE X (.Constant (.bool b) j pos) (tC (.bl b)):=fun _ _ _ H _ I h=>Constant_bool ⟨.bl b,H,I,rfl,h⟩
theorem hW{j pos}:PE X (.Constant .none j pos) (tC .non):=fun _ _ _ H _ I h=>Constant_none ⟨.non,H,I,rfl,h⟩
def Gl(X:Cx)(x:Str):Prop:=X.env.kindOf x=some .globalImplicit
theorem SX {E : Value -> Shared -> Prop} {pins : List (Addr × Obj)} {s : Shared} {σ : St} {H : Hp} {x : Str} {u : Value} {pos : Pos} {Q : Value -> Shared -> Prop} (I : Inv X pins σ H s) (hg : Gl X x) (hm : X.mg x = some u) (h : Q u s)
 (hd:(x==("__debug__" : Str))=false:=by decide):wpAny (model X.prog X.w) X.A (eval (.Name x pos) X.env) Q E s:=
 wU I.ok.kind hg (Calls.loadGlobal_global (by rw [I.ok.glob];exact I.mod.glob.keeps I.bk) hm h) hd
theorem IF {E : Value -> Shared -> Prop} {pins : List (Addr × Obj)} {s : Shared} {σ : St} {H : Hp} {x : Str} {u : Value} {pos : Pos} {Q : Value -> Shared -> Prop} (I : Inv X pins σ H s) (hg : Gl X x) (hm : X.mg x = none) (hv : bootBuiltins x = some u) (h : Q u s)
 (hn:x ≠ "__name__" :=by decide) (hd:(x==("__debug__" : Str))=false:=by decide):wpAny (model X.prog X.w) X.A (eval (.Name x pos) X.env) Q E s:=by
 obtain ⟨mb,h1,h2⟩:=I.mod.blt;exact wU I.ok.kind hg (Calls.loadGlobal_builtin (by rw [I.ok.glob];exact I.mod.glob.keeps I.bk) hm (by rw [I.ok.blt];exact h1.keeps I.bk) ((h2 x hn).trans hv) h) hd
theorem lP {x:Str} {v:V} {u:Value} {pos:Pos} (hg:Gl X x) (hm:X.mg x=some u) (r:RelV v u) (hd:(x==("__debug__" : Str))=false:=by decide):PE X (.Name x pos) (tC v) :=
 fun _ _ _ H _ I h=>SX I hg hm ⟨v,H,I,r,h⟩ hd
theorem nH {x:Str} {v:V} {u:Value} {pos:Pos} (hg:Gl X x) (hm:X.mg x=none) (hv:bootBuiltins x=some u) (r:RelV v u) (hn:x ≠ "__name__" :=by decide) (hd:(x==("__debug__" : Str))=false:=by decide):PE X (.Name x pos) (tC v) :=
 fun _ _ _ H _ I h=>IF I hg hm hv ⟨v,H,I,r,h⟩ hn hd
variable {a b:Expr} {ta tb:TE} {pos:Pos}
def PC(X:Cx)(op:CmpOp)(a b:Expr)(t:TE):Prop:=
 ∀(pins:List (Addr×Obj)) (s:Shared) (σ:St) (H:Hp) (Q:VK),Inv X pins σ H s->t σ H Q ->
   wpAny (model X.prog X.w) X.A (eval a X.env) (fun v s₁=>wpAny (model X.prog X.w) X.A (eval b X.env) (fun u s₂=>wpAny (model X.prog X.w) X.A (compareOp op v u) (EP X pins σ Q) X.xe s₂) X.xe s₁) X.xe s
def tB(t:TE):TT:=fun σ H Q=>t σ H fun x H1=>∃c,x = .bl c/\Q c H1
theorem zM{op:CmpOp}{t:TE}(h:PC X op a b t)(h1:behindInMarks op b=false:=by first | exact nobehind _ (by decide) (by decide) | rfl):PT X (.Compare a [op] [b] pos) (tB t):=by
 intro pins s σ H Q I hw;refine zY (thn (h pins s σ H _ I hw) fun v s1 h1=>thn h1 fun u s2 h2=>thn h2 fun c s3 ⟨x,H1,I1,r1,q1⟩ => ?_) h1;obtain ⟨d,rfl,q⟩:=q1
 cases r1
 exact FW ⟨H1,I1,q⟩
theorem v2{e:Expr}{t:TE}(h:PE X e t)(he:∀whole,isTrue e X.env whole=(do let v <-whole;standAt e.pos;holding [v] (truthy v)):=by intro _;rfl):PT X e (tB t):=by
 intro pins s σ H Q I hw;refine isTrue_plain (thn (h pins s σ H _ I hw) fun v s1 ⟨x,H1,I1,r1,q1⟩ => ?_) (he _);obtain ⟨d,rfl,q⟩:=q1
 cases r1
 exact FW ⟨H1,I1,q⟩
variable {tA tB':TT} {rest:List Expr}
def xW(t u:TT):TT:=fun σ H Q=>t σ H fun c H1=>if c=true then u σ H1 Q else Q false H1
def tOr(t u:TT):TT:=fun σ H Q=>t σ H fun c H1=>if c=true then Q true H1 else u σ H1 Q
def y0(t:TT):TT:=fun σ H Q=>t σ H fun c H1=>Q (!c) H1
theorem pK(ha:PT X a tA):PW X (.BoolOp .And [a] pos) tA:=by
 intro wh pins s σ H Q I h;refine isTrue_and (thn (ha pins s σ H Q I h) fun c s1 e=> ?_)
 cases c with
 | true=>exact isTrue_and_nil e
 | false=>exact e
theorem tM(ha:PT X a tA):PW X (.BoolOp .Or [a] pos) tA:=by
 intro wh pins s σ H Q I h;refine isTrue_or (thn (ha pins s σ H Q I h) fun c s1 e=> ?_)
 cases c with
 | false=>exact isTrue_or_nil e
 | true=>exact e
theorem wM(ha:PT X a tA)(hb:PW X (.BoolOp .And (b::rest) pos) tB'):PW X (.BoolOp .And (a::b::rest) pos) (xW tA tB'):=by
 intro wh pins s σ H Q I h;refine isTrue_and (thn (ha pins s σ H _ I h) fun c s1 ⟨H1,I1,q1⟩ => ?_)
 cases c with
 | true=>exact hb wh pins s1 σ H1 Q I1 q1
 | false=>exact ⟨H1,I1,q1⟩
theorem yO(ha:PT X a tA)(hb:PW X (.BoolOp .Or (b::rest) pos) tB'):PW X (.BoolOp .Or (a::b::rest) pos) (tOr tA tB'):=by
 intro wh pins s σ H Q I h;refine isTrue_or (thn (ha pins s σ H _ I h) fun c s1 ⟨H1,I1,q1⟩ => ?_)
 cases c with
 | true=>exact ⟨H1,I1,q1⟩
 | false=>exact hb wh pins s1 σ H1 Q I1 q1
theorem wP(ha:PT X a tA):PT X (.UnaryOp .Not a pos) (y0 tA):=by
 intro pins s σ H Q I h;exact isTrue_not (ha pins s σ H (fun c H1=>Q (!c) H1) I h)
def pX(ta tb:TE):TE:=fun σ H Q=>ta σ H fun x H1=>∃c,x = .bl c/\if c=true then tb σ H1 Q else Q (.bl false) H1
def qR(ta:TE):TE:=fun σ H Q=>ta σ H fun x H1=>∃c,x = .bl c/\Q (.bl (!c)) H1
theorem tF{op}{t:TE}(h:PE X a t):PE X (.BoolOp op [a] pos) t:=fun pins s σ H Q I hw=>BoolOp_one (h pins s σ H Q I hw)
theorem t8(ha:PE X a ta)(hb:PE X (.BoolOp .And (b::rest) pos) tb):PE X (.BoolOp .And (a::b::rest) pos) (pX ta tb):=by
 intro pins s σ H Q I h;refine BoolOp_and (thn (ha pins s σ H _ I h) fun v s1 ⟨x,H1,I1,r1,q1⟩ => ?_);obtain ⟨c,rfl,q1⟩:=q1
 cases r1
 refine FW ?_
 cases c with
 | true=>exact hb pins s1 σ H1 Q I1 q1
 | false=>exact ⟨.bl false,H1,I1,rfl,q1⟩
theorem uQ(ha:PE X a ta):PE X (.UnaryOp .Not a pos) (qR ta):=by
 intro pins s σ H Q I h;refine UnaryOp_ (thn (ha pins s σ H _ I h) fun v s1 ⟨x,H1,I1,r1,q1⟩ => ?_);obtain ⟨c,rfl,q1⟩:=q1
 cases r1
 exact not_of (FW ⟨.bl (!c),H1,I1,rfl,q1⟩)
def tIf(t:TT)(ta tb:TE):TE:=fun σ H Q=>t σ H fun c H1=>if c=true then ta σ H1 Q else tb σ H1 Q
theorem jE{c:Expr}(hc:PT X c tA)(ha:PE X a ta)(hb:PE X b tb):PE X (.IfExp c a b pos) (tIf tA ta tb):=by
 intro pins s σ H Q I h;refine wpAny_IfExp (thn (hc pins s σ H _ I h) fun d s1 ⟨H1,I1,q1⟩ => ?_)
 cases d with
 | true=>exact ha pins s1 σ H1 Q I1 q1
 | false=>exact hb pins s1 σ H1 Q I1 q1
end
end L2
namespace L2
open PySem PySem.Spec PyProof.Rows
def SqL(K:PySem.W.Frag)(H:Hp)(a:Addr)(xs:List V):Prop:=
 Rd H a (.lst xs) \/
  ∃(o:Obj) (its:Array Value) (n:Nat),K.lookup a=some o/\o.cls = .type "list" /\ o.dict=none/\o.data = .seq its n/\its.size<=sizeLine/\Vals xs its.toList
def SqT(K:PySem.W.Frag)(H:Hp)(a:Addr)(xs:List V):Prop:=
 Rd H a (.tup xs) \/
  ∃(o:Obj) (its:Array Value) (n:Nat),K.lookup a=some o/\o.cls = .type "tuple" /\ o.data = .seq its n/\its.size<=sizeLine/\Vals xs its.toList
def zE:Value->Option V
 | .none=>some .non
 | .bool b=>some (.bl b)
 | .int i _=>some (.int i)
 | .str x _=>some (.str x)
 | .bytes b _=>some (.byt b)
 | .float b _=>some (.flt b)
 | .ref a=>some (.ref a)
 | .type n=>some (.ty n)
 | _=>none
theorem RelV.abs{x:V}{u:Value}(r:RelV x u):zE u=some x:=by
 cases x with
 | non=>cases r;rfl
 | bl _=>cases r;rfl
 | int _=>obtain ⟨t,rfl⟩:=r;rfl
 | str _=>obtain ⟨t,rfl⟩:=r;rfl
 | byt _=>obtain ⟨t,rfl⟩:=r;rfl
 | flt _=>obtain ⟨t,rfl⟩:=r;rfl
 | ref _=>cases r;rfl
 | ty _=>cases r;rfl
theorem RelV.inj{x y:V}{u:Value}(r:RelV x u)(q:RelV y u):x=y:=B9 (r.abs.symm.trans q.abs)
theorem Vals.inj:∀ {xs ys:List V} {us:List Value},Vals xs us->Vals ys us->xs=ys
 | _,_,_, .nil, .nil=>rfl
 | _,_,_, .cons r t, .cons r' t'=>by rw [r.inj r',Vals.inj t t']
section
variable {X:Cx} {pins:List (Addr×Obj)} {σ:St} {H:Hp} {s:Shared} {a:Addr} {xs ys:List V}
theorem SqL.of{K:PySem.W.Frag}(h:H a=some (.lst xs)):SqL K H a xs:= .inl (.inl h)
theorem SqT.of{K:PySem.W.Frag}(h:H a=some (.tup xs)):SqT K H a xs:= .inl (.inl h)
theorem Inv.list(I:Inv X pins σ H s)(h:SqL X.K H a xs):∃its:List Value,Vals xs its/\PlainL s.heap a its.toArray/\xs.length<=sizeLine:=by
 rcases h with h | ⟨o,its,n,hk,hc,hd,hs,hz,r⟩
 . obtain ⟨z,its,n,r,e⟩:=h.ok I.hok;exact ⟨its,r,⟨_,n,e,rfl,rfl,rfl⟩,z⟩
 . refine ⟨its.toList,r,⟨o,n,I.kIn a o hk,hc,hd,by simpa using hs⟩,?_⟩;have e:=r.length;simp only [FV] at e
   omega
theorem Inv.tuple(I:Inv X pins σ H s)(h:SqT X.K H a xs):∃its:List Value,Vals xs its/\IsTup s.heap a its.toArray/\xs.length<=sizeLine:=by
 rcases h with h | ⟨o,its,n,hk,hc,hs,hz,r⟩
 . obtain ⟨z,its,r,p⟩:=h.ok I.hok;exact ⟨its,r,p,z⟩
 . refine ⟨its.toList,r,⟨o,I.kIn a o hk,hc,n,by simpa using hs⟩,?_⟩;have e:=r.length;simp only [FV] at e
   omega
theorem Inv.list_inj(I:Inv X pins σ H s)(h:SqL X.K H a xs)(h':SqL X.K H a ys):xs=ys:=by
 obtain ⟨its,r,⟨o,n,e,_,_,d⟩,_⟩:=I.list h;obtain ⟨its',r',⟨o',n',e',_,_,d'⟩,_⟩:=I.list h';rw [e] at e';cases e'
 rw [d] at d'
 injection d' with d1 _
 have:its=its':=by simpa using LX Array.toList d1
 subst this;exact r.inj r'
theorem Inv.tuple_inj(I:Inv X pins σ H s)(h:SqT X.K H a xs)(h':SqT X.K H a ys):xs=ys:=by
 obtain ⟨its,r,⟨o,e,_,n,d⟩,_⟩:=I.tuple h;obtain ⟨its',r',⟨o',e',_,n',d'⟩,_⟩:=I.tuple h';rw [e] at e';cases e'
 rw [d] at d'
 injection d' with d1 _
 have:its=its':=by simpa using LX Array.toList d1
 subst this;exact r.inj r'
end
abbrev Cx.wish (X:Cx) (E:Value->Shared->Prop):Cx:={ X with xe:=E}
abbrev Cx.nox (X:Cx):Cx:=X.wish fun _ _=>False
theorem Cx.Ok.wish{X:Cx}(ok:X.Ok)(E:Value->Shared->Prop):(X.wish E).Ok:=
 ⟨ok.mod,ok.kind,ok.glob,ok.blt,ok.above,ok.inj,ok.has,ok.cab,ok.hd,ok.frames,ok.stk,ok.exf,ok.bs,ok.bsz,ok.noex,ok.exfs,ok.funs,ok.frf,ok.tb⟩
theorem Cx.Ok.unwish{X:Cx}{E:Value->Shared->Prop}(ok:(X.wish E).Ok):X.Ok:=
 ⟨ok.mod,ok.kind,ok.glob,ok.blt,ok.above,ok.inj,ok.has,ok.cab,ok.hd,ok.frames,ok.stk,ok.exf,ok.bs,ok.bsz,ok.noex,ok.exfs,ok.funs,ok.frf,ok.tb⟩
section
variable {X:Cx} {pins:List (Addr×Obj)} {σ:St} {H:Hp} {s:Shared} {E:Value->Shared->Prop}
theorem Inv.wish(I:Inv X pins σ H s)(E:Value->Shared->Prop):Inv (X.wish E) pins σ H s:=⟨I.ok.wish E,I.os,I.bare,I.base,I.loc,I.cell,I.free,I.freeC,I.pin,I.hok,I.len⟩
theorem Inv.unwish(I:Inv (X.wish E) pins σ H s):Inv X pins σ H s:=⟨I.ok.unwish,I.os,I.bare,I.base,I.loc,I.cell,I.free,I.freeC,I.pin,I.hok,I.len⟩
theorem SP.unwish{D:Ends}{f:Flow}{s':Shared}(h:SP (X.wish E) pins D f s'):SP X pins D f s':=by
 cases f with
 | next=>obtain ⟨σ',H',I,q⟩:=h;exact ⟨σ',H',I.unwish,q⟩
 | brk=>obtain ⟨σ',H',I,q⟩:=h;exact ⟨σ',H',I.unwish,q⟩
 | cont=>obtain ⟨σ',H',I,q⟩:=h;exact ⟨σ',H',I.unwish,q⟩
 | ret u=>obtain ⟨v,σ',H',I,r,q⟩:=h;exact ⟨v,σ',H',I.unwish,r,q⟩
theorem PSs.nox{st:List Stmt}{t:TS}(h:PSs X.nox st t):PSs X st t:=fun pins s σ H D I hw=>
 FN (h pins s σ H D (I.wish _) hw) (fun _ _ q=>q.unwish) fun _ _ z=>False.elim z
end
section
variable {X:Cx} {st:Stmt} {rest:List Stmt} {t u:TS} {e:Expr} {te:TE} {pos:Pos}
def tNext:TS:=fun D σ H=>D.nx σ H
def S7(t u:TS):TS:=fun D σ H=>t { D with nx:=u D} σ H
theorem YY:PSs X [] tNext:=fun _ _ σ H _ I h=>QH ⟨σ,H,I,h⟩
theorem HL(h1:PS X st t)(h2:PSs X rest u):PSs X (st::rest) (S7 t u):=by
 intro pins s σ H D I h;refine wpAny_execs_cons (thn (h1 pins s σ H { D with nx:=u D} I h) fun f s1 q=> ?_)
 cases f with
 | next=>
  obtain ⟨σ',H',I',q⟩:=q
  exact h2 pins s1 σ' H' D I' q
 | ret v=>exact q
 | brk=>exact q
 | cont=>exact q
theorem RY(h1:PS X st t):PSs X [st] t:=by
 intro pins s σ H D I h;refine wpAny_execs_cons (thn (h1 pins s σ H D I h) fun f s1 q=> ?_)
 cases f with
 | next=>exact QH q
 | ret v=>exact q
 | brk=>exact q
 | cont=>exact q
theorem Inv.quiet{pins:List (Addr×Obj)}{σ:St}{H:Hp}{s:Shared}(I:Inv X pins σ H s):interactive X.env=false:=by simp [interactive,I.ok.kind]
def R6(te:TE):TS:=fun D σ H=>te σ H fun _ H1=>D.nx σ H1
theorem M3(he:PE X e te)(hs:swapsWith e none pos.line X.env=pure false:=by rfl):PS X (.Expr e pos) (R6 te):=by
 intro pins s σ H D I h;exact wpAny_Expr_any (thn (he pins s σ H _ I h) fun v s1 ⟨x,H1,I1,r1,q1⟩=>⟨σ,H1,I1,q1⟩) I.quiet hs
def oH(te:TE):TS:=fun D σ H=>te σ H D.rt
theorem T2(he:PE X e te):PS X (.Return (some e) pos) (oH te):=by
 intro pins s σ H D I h;exact wpAny_Return_some (thn (he pins s σ H _ I h) fun v s1 ⟨x,H1,I1,r1,q1⟩=>⟨x,σ,H1,I1,r1,q1⟩)
def tRetN:TS:=fun D _ H=>D.rt .non H
theorem nV:PS X (.Return none pos) tRetN:=fun _ _ σ H _ I h=>wpAny_Return_none ⟨.non,σ,H,I,rfl,h⟩
def sI(c:TT)(t u:TS):TS:=fun D σ H=>c σ H fun b H1=>if b=true then t D σ H1 else u D σ H1
theorem qO{c:Expr}{a b:List Stmt}{tc:TT}(hc:PT X c tc)(ha:PSs X a t)(hb:PSs X b u):PS X (.If c a b pos) (sI tc t u):=by
 intro pins s σ H D I h;refine wpAny_If (thn (hc pins s σ H _ I h) fun d s1 ⟨H1,I1,q1⟩ => ?_)
 cases d with
 | true=>exact ha pins s1 σ H1 D I1 q1
 | false=>exact hb pins s1 σ H1 D I1 q1
end
abbrev TG:=V->St->Hp->(St->Hp->Prop)->Prop
abbrev TGs:=List V->St->Hp->(St->Hp->Prop)->Prop
def PG(X:Cx)(target:Expr)(t:TG):Prop:=
 ∀(pins:List (Addr×Obj)) (s:Shared) (σ:St) (H:Hp) (v:V) (u:Value) (Q:St->Hp->Prop),Inv X pins σ H s->RelV v u->t v σ H Q ->
   wpAny (model X.prog X.w) X.A (assign target X.env u) (fun _ s'=>∃σ' H',Inv X pins σ' H' s'/\Q σ' H') X.xe s
def PGs(X:Cx)(ts:List Expr)(t:TGs):Prop:=
 ∀(pins:List (Addr×Obj)) (s:Shared) (σ:St) (H:Hp) (vs:List V) (us:List Value) (Q:St->Hp->Prop),Inv X pins σ H s->Vals vs us->t vs σ H Q ->
   wpAny (model X.prog X.w) X.A (assignInOrder ((assignEach ts X.env).map (·.2)) us) (fun _ s'=>∃σ' H',Inv X pins σ' H' s'/\Q σ' H') X.xe s
abbrev vY:=V->V->V->Hp->(Hp->Prop)->Prop
def xC(X:Cx)(t:vY):Prop:=
 ∀(pins:List (Addr×Obj)) (s:Shared) (σ:St) (H:Hp) (o i v:V) (ov iv u:Value) (Q:Hp->Prop),Inv X pins σ H s->RelV o ov->RelV i iv->RelV v u->t o i v H Q ->
   wpAny (model X.prog X.w) X.A (setItem ov iv u) (fun _ s'=>∃H',Inv X pins σ H' s'/\Q H') X.xe s
section
variable {X:Cx} {pos:Pos}
def MS(i:Nat):TG:=fun v σ H Q=>Q (σ.set i (some v)) H
theorem YL{i:Nat}{x:Str}(hN:X.N.Nodup)(hi:X.N[i]? = some x)(hx:Loc X.env.scope x)(hf:X.fn x=true\/X.env.scope.names.lookup x=some .local:=by first | exact .inl rfl | exact .inr rfl | assumption):PG X (.Name x pos) (MS i):=by
 intro pins s σ H v u Q I r h;exact wpAny_assign_Name (UT I hN hi hx r (fun s' I'=>⟨_,H,I',h⟩) hf)
def gNil:TGs:=fun vs σ H Q=>vs = []/\Q σ H
def jR(t:TG)(u:TGs):TGs:=fun vs σ H Q=>∃v r,vs=v::r/\t v σ H fun σ' H'=>u r σ' H' Q
theorem YV:PGs X [] gNil:=by
 intro pins s σ H vs us Q I r h;obtain ⟨e,h⟩:=h;subst e
 cases r
 exact assignInOrder_nil ⟨σ,H,I,h⟩
theorem VM {e : Expr} {es : List Expr} {t : TG} {u : TGs} (h1 : PG X e t) (h2 : PGs X es u)
 (hs:(assignEach (e::es) X.env).map (·.2)=assign e X.env::(assignEach es X.env).map (·.2):=by rfl):PGs X (e::es) (jR t u):=by
 intro pins s σ H vs us Q I r h;obtain ⟨v,vr,e1,h⟩:=h;subst e1
 cases r with
 | cons r rr=>
  rw [hs];refine assignInOrder_cons (thn (h1 pins s σ H _ _ _ I r h) fun _ s1 ⟨σ1,H1,I1,q1⟩ => ?_);exact h2 pins s1 σ1 H1 _ _ Q I1 rr q1
def sV(K:PySem.W.Frag)(n:Nat)(t:TGs):TG:=fun v σ H Q=>∃a xs,v = .ref a/\SqT K H a xs/\xs.length=n/\t xs σ H Q
theorem iX {es : List Expr} {k : Nat} {t : TGs} {n : Nat} (hc : X.calm = true) (h : PGs X es t)
 (hn:(assignEach es X.env).length=n:=by rfl) (hst:(assignEach es X.env).findIdx? (·.1)=none:=by rfl):PG X (.Tuple es k pos) (sV X.K n t):=by
 intro pins s σ H v u Q I r hw;obtain ⟨a,xs,e1,hq,hl,hw⟩:=hw;subst e1
 cases r
 obtain ⟨its,rv,ht,hz⟩:=I.tuple hq;refine assign_Tuple_tuple (I.ok.hd hc) ht (by simp [hn, <-hl,rv.length]) hst fun h' hx=> ?_;have I1:Inv X pins σ H {s with heap:=h' }:=I.kept (t':=s.toks) fun b o e=>hx b o (D9 (AU e)) e;exact h pins _ σ H xs _ Q I1 (by simpa using rv) hw
def t6(to ti:TE)(t:vY):TG:=fun v σ H Q=>to σ H fun o H1=>ti σ H1 fun i H2=>t o i v H2 fun H3=>Q σ H3
theorem hU {o i : Expr} {to ti : TE} {t : vY} (ho : PE X o to) (hi : PE X i ti) (hs : xC X t)
 (ha:∀v,assign (.Subscript o i pos) X.env v=(do
  let ov <-holding [v] (eval o X.env)
  let iv <-holding [v,ov] (eval i X.env)
  standAt pos
  holding [v,ov,iv] (setItem ov iv v)
  release [v,ov,iv] []):=by intro _;rfl):PG X (.Subscript o i pos) (t6 to ti t):=by
 intro pins s σ H v u Q I r h;rw [ha];refine A5 (GV (thn (ho pins s σ H _ I h) fun ov s1 ⟨x,H1,I1,r1,q1⟩ => ?_));refine A5 (GV (thn (hi pins s1 σ H1 _ I1 q1) fun iv s2 ⟨y,H2,I2,r2,q2⟩ => ?_));refine A5 (XZ (A5 (GV (thn (hs pins s2 σ H2 x y v ov iv u _ I2 r1 r2 r q2) fun _ s3 ⟨H3,I3,q3⟩ => ?_))));exact wpAny_release ⟨σ,H3,I3,q3⟩
def T4(te:TE)(g:TG):TS:=fun D σ H=>te σ H fun x H1=>g x σ H1 D.nx
theorem iV {tg e : Expr} {te : TE} {g : TG} (he : PE X e te) (hg : PG X tg g) (hs : swapsWithSole [tg] e pos.line X.env = pure false := by rfl) (hw : swappedStores [tg] e X.env = pure none := by rfl)
 (h1:(assignEach [tg] X.env).map (·.2) = [assign tg X.env]:=by rfl):PS X (.Assign [tg] e pos) (T4 te g):=by
 intro pins s σ H D I h;refine wpAny_Assign_stores (thn (he pins s σ H _ I h) fun v s1 ⟨x,H1,I1,r1,q1⟩ => ?_) hs hw;rw [h1];exact thn (hg pins s1 σ H1 x v _ I1 r1 q1) fun _ s2 q=>q
theorem Q5 {i : Nat} {x : Str} {e : Expr} {te : TE} {pos' : Pos} (hN : X.N.Nodup) (hi : X.N[i]? = some x) (hx : Loc X.env.scope x) (he : PE X e te) (hs : swapsWith e (some (.Name x pos')) pos.line X.env = pure false := by rfl) (hf : X.fn x = true \/ X.env.scope.names.lookup x = some .local := by first | exact .inl rfl | exact .inr rfl | assumption) :
 PS X (.Assign [.Name x pos'] e pos) (T4 te (MS i)):=by
 intro pins s σ H D I h;refine wpAny_Assign_Name (thn (he pins s σ H _ I h) fun v s1 ⟨y,H1,I1,r1,q1⟩ => ?_) hs;exact UT I1 hN hi hx r1 (fun s2 I2=>⟨_,H1,I2,q1⟩) hf
end
section
variable {X:Cx} {pos:Pos}
def kA(c:TT)(tb:TS):TS:=fun D σ H=>∃W:Nat->St->Hp->Prop,(∃m,W m σ H)/\∀m σ H,W m σ H ->
 c σ H fun b H1=>if b=true then ∃N:St->Hp->Prop,(∀σ' H',N σ' H'->∃m',m'<m/\W m' σ' H')/\tb { D with nx:=N,ct:=N,bk:=D.nx} σ H1 else D.nx σ H1
theorem dF{c:Expr}{body:List Stmt}{tc:TT}{tb:TS}(hp:PassesOwn (model X.prog X.w) X.A X.env X.xe)(hc:PT X c tc)(hb:PSs X body tb):PS X (.While c body [] pos) (kA tc tb):=by
 intro pins s σ H D I h;obtain ⟨W,⟨m0,w0⟩,turn⟩:=h;refine wpAny_While (codeAny_whileLoop (fun n s'=>∃σ' H',Inv X pins σ' H' s'/\W n σ' H') ?_ m0 ⟨σ,H,I,w0⟩);rintro n s1 ⟨σ1,H1,I1,w1⟩;refine GL hp (thn (hc pins s1 σ1 H1 _ I1 (turn n σ1 H1 w1)) fun b s2 ⟨H2,I2,q2⟩ => ?_)
 cases b with
 | true=>
  obtain ⟨N,hN,q2⟩:=q2;rw [CQ rfl];refine GL hp (thn (hb pins s2 σ1 H2 _ I2 q2) fun f s3 q3=> ?_)
  cases f with
  | next=>
   obtain ⟨σ3,H3,I3,n3⟩:=q3;obtain ⟨m',hm,w3⟩:=hN σ3 H3 n3
   exact ⟨m',hm,σ3,H3,I3,w3⟩
  | cont=>
   obtain ⟨σ3,H3,I3,n3⟩:=q3;obtain ⟨m',hm,w3⟩:=hN σ3 H3 n3
   exact ⟨m',hm,σ3,H3,I3,w3⟩
  | brk=>exact q3
  | ret v=>exact q3
 | false=>
  rw [C9 ET];exact QH ⟨σ1,H2,I2,q2⟩
end
structure It where
 go:Nat->Hp->Prop
 yld:Nat->Hp->V->Hp->Prop
 stop:Nat->Hp->Prop
def KM(X:Cx)(pins:List (Addr×Obj))(H:Hp)(b:Addr):Prop:=
 H b=none/\b≠X.env.locals/\b ∉ X.fs/\(b ∈ X.ex\/X.s₀.heap.objs.size<=b)/\(∀x c,X.env.cells.lookup x=some c->c≠b)/\∀p ∈ X.pn++pins,p.1≠b
theorem Inv.fpOk{X:Cx}{pins:List (Addr×Obj)}{σ:St}{H H':Hp}{s:Shared}{b:Addr}(I:Inv X pins σ H s)(hb:s.heap.objs.size<=b)(hn:H' b=none):KM X pins H' b:=by
 refine ⟨hn,MZ (B2 I.lt hb),I.nofs hb, .inr (BH I.sz hb),fun x c e z=> ?_,fun p hp z=> ?_⟩
 . obtain ⟨v,q⟩:=I.cell x c e;exact absurd (B2 q.lt (by rw [z];exact hb)) (G9 _)
 . exact absurd (B2 (AU (I.pin p hp).1) (by rw [z];exact hb)) (G9 _)
structure Turn (P:Program) (w:World) (K:PySem.W.Frag) (tg:Expr) (J:It) (fp:List Addr) (it:Addr) (tn:Nat->Heap->Prop):Prop where
 mem:it ∈ fp
 obj:∀i h,tn i h->∀b ∈ fp,∃o,h.get? b=some o/\∀v,o.data ≠ .cell v
 keep:∀i h h',tn i h->(∀b ∈ fp,∀o,h.get? b=some o->h'.get? b=some o)->tn i h'
 item:∀(X:Cx),X.prog=P->X.w=w->X.K=K->X.calm=true->∀(i:Nat) (pins:List (Addr×Obj)) (s:Shared) (σ:St) (H:Hp) (E:Value->Shared->Prop),Inv X pins σ H s->(∀b ∈ fp,KM X pins H b)->tn i s.heap->J.go i H ->
  wpAny (model P w) X.A (pyNext (.ref it)) (fun r s1=>∃u,r=some u /\
   wpAny (model P w) X.A (letOwnedTupleGo tg (.ref it) u) (fun _ s2=>∃x H',Inv X pins σ H' s2/\RelV x u/\J.yld i H x H'/\tn (i+1) s2.heap/\∀b ∈ fp,H' b=none) E s1) E s
 done:∀(X:Cx),X.prog=P->X.w=w->X.K=K->X.calm=true->∀(i:Nat) (pins:List (Addr×Obj)) (s:Shared) (σ:St) (H:Hp) (E:Value->Shared->Prop),Inv X pins σ H s->(∀b ∈ fp,KM X pins H b)->tn i s.heap->J.stop i H ->
  wpAny (model P w) X.A (pyNext (.ref it)) (fun r s1=>r=none/\Inv X pins σ H s1) E s
 self:∀(A:Around) (i:Nat) (s:Shared) (Q:Value->Shared->Prop) (E:Value->Shared->Prop),tn i s.heap->Q (.ref it) s->wpAny (model P w) A (pyIter (.ref it)) Q E s
abbrev TI:=St->Hp->(It->Hp->Prop)->Prop
def PIE(X:Cx)(pins:List (Addr×Obj))(σ:St)(tg:Expr)(R:It->Hp->Prop)(itv:Value)(s2:Shared):Prop:=
 ∃(it:Addr) (fp:List Addr) (tn:Nat->Heap->Prop) (J:It) (H':Hp),itv = .ref it/\Inv X pins σ H' s2/\Turn X.prog X.w X.K tg J fp it tn/\tn 0 s2.heap/\(∀b ∈ fp,KM X pins H' b)/\R J H'
def PI(X:Cx)(tg iter:Expr)(wi:TI):Prop:=
 ∀(pins:List (Addr×Obj)) (s:Shared) (σ:St) (H:Hp) (R:It->Hp->Prop),Inv X pins σ H s->wi σ H R ->
   wpAny (model X.prog X.w) X.A (eval iter X.env) (fun v s1=>wpAny (model X.prog X.w) X.A (pyIter v) (PIE X pins σ tg R) X.xe s1) X.xe s
theorem ZJ {M : Model} {A : Around} {E : Value -> Shared -> Prop} {s : Shared} {tg : Expr} {it : Addr} {u : Value} {o : Obj} {n : String} {vs : Array Value} {Q : Unit -> Shared -> Prop} (ho : s.heap.get? it = some o) (hc : o.cls = .type n) (hd : o.data = .fields vs)
 (hn : ["enumerate","zip","dict_itemiterator","dict_reverseitemiterator","odict_iterator","itertools.zip_longest","itertools.pairwise"].contains n=false) (hQ:Q () s):wpAny M A (letOwnedTupleGo tg (.ref it) u) Q E s:=by
 unfold letOwnedTupleGo
 cases tg <;> first
  | exact AR hQ
  | (cases u <;> first
   | exact AR hQ
   | (refine A5 (wpAny_load ho ?_)
      rw [hc,hd];show wpAny M A (if (["enumerate","zip","dict_itemiterator","dict_reverseitemiterator","odict_iterator","itertools.zip_longest","itertools.pairwise"].contains n && vs[0]? ==some (rawInt _))=true then _ else _) Q E s;rw [C9 (by intro h;rw [hn,Bool.false_and] at h;cases h)];exact AR hQ))
def Itl(K:PySem.W.Frag)(a:Addr):It:=
 ⟨fun i H=>∃xs x,SqL K H a xs/\xs[i]? = some x,fun i H x H'=>H'=H/\∀xs,SqL K H a xs->xs[i]? = some x,fun i H=>∃xs,SqL K H a xs/\xs.length<=i⟩
def Itt(K:PySem.W.Frag)(a:Addr):It:=
 ⟨fun i H=>∃xs x,SqT K H a xs/\xs[i]? = some x,fun i H x H'=>H'=H/\∀xs,SqT K H a xs->xs[i]? = some x,fun i H=>∃xs,SqT K H a xs/\xs.length<=i⟩
def Itr(lo:Int)(n:Nat):It:=⟨fun i _=>i<n,fun i H x H'=>H'=H/\x = .int (lo+i),fun i _=>n<=i⟩
theorem R8{P:Program}{w:World}{K:PySem.W.Frag}{tg:Expr}(a it:Addr):Turn P w K tg (Itl K a) [it] it (fun i h=>h.IsListIter it a i) where
 mem:=by simp
 obj:=fun i h st b hb=>by
  have e:b=it:=by simpa using hb
  subst e;obtain ⟨o,e,c,d⟩:=st;exact ⟨o,e,fun v z=>by rw [d] at z;cases z⟩
 keep:=fun i h h' st k=>st.at fun o e=>k it (by simp) o e
 item:=by
  intro X hP hw hK hc i pins s σ H E I hf st hg;subst hP hw hK;obtain ⟨xs,x,hq,hx⟩:=hg;obtain ⟨its,rv,p,hz⟩:=I.list hq;obtain ⟨u,hu,ru⟩:=rv.get hx;obtain ⟨f0,f1,f2,f3,f4,f5⟩:=hf it (by simp);refine wpAny_pyNext_list_item st p.isList (x:=u) (by simpa using hu) fun h' st' sb=> ?_;have I1:Inv X pins σ H {s with heap:=h' }:=I.turned (t':=s.toks) (fun b o hb e=>(sb.2 b hb).trans e) f0 f1 f3 f4 f5;obtain ⟨o,e,c,d⟩:=id st';exact ⟨u,rfl,ZJ (s:={s with heap:=h' }) e c d (by decide) ⟨x,H,I1,ru,⟨rfl,fun ys hy=>by rw [I.list_inj hy hq];exact hx⟩,st',fun b hb=>(hf b hb).1⟩⟩
 done:=by
  intro X hP hw hK hc i pins s σ H E I hf st hg;subst hP hw hK;obtain ⟨xs,hq,hx⟩:=hg;obtain ⟨its,rv,p,hz⟩:=I.list hq;obtain ⟨f0,f1,f2,f3,f4,f5⟩:=hf it (by simp);have hl:=rv.length;exact wpAny_pyNext_list_end (I.ok.hd hc) st p.isList (by simp;omega) fun h' eb=>⟨rfl,I.turned (t':=s.toks) (fun b o hb e=>eb b o hb e) f0 f1 f3 f4 f5⟩
 self:=fun _ _ _ _ _ st h=>wpAny_pyIter_listiter st h
theorem XQ{P:Program}{w:World}{K:PySem.W.Frag}{tg:Expr}(a it:Addr):Turn P w K tg (Itt K a) [it] it (fun i h=>h.IsTupleIter it a i) where
 mem:=by simp
 obj:=fun i h st b hb=>by
  have e:b=it:=by simpa using hb
  subst e;obtain ⟨o,e,c,d⟩:=st;exact ⟨o,e,fun v z=>by rw [d] at z;cases z⟩
 keep:=fun i h h' st k=>st.at fun o e=>k it (by simp) o e
 item:=by
  intro X hP hw hK hc i pins s σ H E I hf st hg;subst hP hw hK;obtain ⟨xs,x,hq,hx⟩:=hg;obtain ⟨its,rv,p,hz⟩:=I.tuple hq;obtain ⟨u,hu,ru⟩:=rv.get hx;obtain ⟨f0,f1,f2,f3,f4,f5⟩:=hf it (by simp);refine wpAny_pyNext_tuple_item st (show s.heap.IsTuple a its.toArray from p) (x:=u) (by simpa using hu) fun h' st' sb=> ?_;have I1:Inv X pins σ H {s with heap:=h' }:=I.turned (t':=s.toks) (fun b o hb e=>(sb.2 b hb).trans e) f0 f1 f3 f4 f5;obtain ⟨o,e,c,d⟩:=id st';exact ⟨u,rfl,ZJ (s:={s with heap:=h' }) e c d (by decide) ⟨x,H,I1,ru,⟨rfl,fun ys hy=>by rw [I.tuple_inj hy hq];exact hx⟩,st',fun b hb=>(hf b hb).1⟩⟩
 done:=by
  intro X hP hw hK hc i pins s σ H E I hf st hg;subst hP hw hK;obtain ⟨xs,hq,hx⟩:=hg;obtain ⟨its,rv,p,hz⟩:=I.tuple hq;obtain ⟨f0,f1,f2,f3,f4,f5⟩:=hf it (by simp);have hl:=rv.length;exact wpAny_pyNext_tuple_end (I.ok.hd hc) st (show s.heap.IsTuple a its.toArray from p) (by simp;omega) fun h' eb=>⟨rfl,I.turned (t':=s.toks) (fun b o hb e=>eb b o hb e) f0 f1 f3 f4 f5⟩
 self:=fun _ _ _ _ _ st h=>wpAny_pyIter_tupleiter st h
theorem WL{P:Program}{w:World}{K:PySem.W.Frag}{tg:Expr}(it:Addr)(lo:Int)(n:Nat):Turn P w K tg (Itr lo n) [it] it (fun i h=>IsRangeIter h it (lo+(i:Nat)*1) ((n:Int) - (i:Nat)) 1) where
 mem:=by simp
 obj:=fun i h st b hb=>by
  have e:b=it:=by simpa using hb
  subst e
  exact ⟨_,st,fun v z=>by
   have z':Data.fields _=Data.cell v:=z
   cases z'⟩
 keep:=fun i h h' st k=>k it (by simp) _ st
 item:=by
  intro X hP hw hK hc i pins s σ H E I hf st hg;subst hP hw hK;obtain ⟨f0,f1,f2,f3,f4,f5⟩:=hf it (by simp);have W:=Walks.range (prog:=X.prog) (w:=X.w) (I.ok.hd hc) it lo 1 n;refine W.item i s _ _ hg st fun v h' tk hv st' kk=> ?_;obtain ⟨t,rfl⟩:=hv;have I1:Inv X pins σ H {s with heap:=h',toks:=tk}:=I.turned (fun b o hb e=>kk b o (by simpa using hb) e) f0 f1 f3 f4 f5;refine ⟨_,rfl,ZJ (s:={s with heap:=h',toks:=tk}) (n:= "range_iterator") st' rfl rfl (by decide) ⟨.int (lo+i),H,I1,⟨t,?_⟩,⟨rfl,rfl⟩,st',fun b hb=>(hf b hb).1⟩⟩;rw [L6]
 done:=by
  intro X hP hw hK hc i pins s σ H E I hf st hg;subst hP hw hK;obtain ⟨f0,f1,f2,f3,f4,f5⟩:=hf it (by simp);exact wpAny_pyNext_range_end (I.ok.hd hc) st (by have:n<=i:=hg;omega) fun h' eb=>⟨rfl,I.turned (t':=s.toks) (fun b o hb e=>eb b o hb e) f0 f1 f3 f4 f5⟩
 self:=fun _ _ _ _ _ st h=>wpAny_pyIter_rangeiter st h
end L2
namespace L2
open PySem PySem.Spec PyProof.Rows
section
variable {X:Cx} {tg:Expr}
def eI(K:PySem.W.Frag)(tl:TE):TI:=fun σ H R=>tl σ H fun x H1=>∃a,x = .ref a/\(∃xs,SqL K H1 a xs)/\R (Itl K a) H1
theorem aA{l:Expr}{tl:TE}(hl:PE X l tl):PI X tg l (eI X.K tl):=by
 intro pins s σ H R I h;refine thn (hl pins s σ H _ I h) fun v s1 ⟨x,H1,I1,r1,q1⟩ => ?_;obtain ⟨a,e,⟨xs,hq⟩,q⟩:=q1;subst e
 cases r1
 obtain ⟨its,rv,p,hz⟩:=I1.list hq;refine dB p.isList ?_;refine ⟨s1.heap.objs.size,[s1.heap.objs.size],_,_,H1,rfl,I1.kept (t':=s1.toks) fun b o e=>A3 _ e,R8 a _,⟨_,AW _ rfl,rfl,rfl⟩,fun b hb=> ?_,q⟩;have e:b=s1.heap.objs.size:=by simpa using hb
 subst e;exact I1.fpOk (AA _) (I1.hok.fresh (AA _))
theorem VA {pins : List (Addr × Obj)} {σ : St} {H : Hp} {s : Shared} {R : It -> Hp -> Prop} {E : Value -> Shared -> Prop} {lo hi : Int} {t u v : Tok} {tk : Nat} (I : Inv X pins σ H s) (h1 : -(2 ^ 62) <= lo) (h2 : lo < 2 ^ 62) (h3 : -(2 ^ 62) <= hi) (h4 : hi < 2 ^ 62)
 (q:R (Itr lo (hi - lo).toNat) H):wpAny (model X.prog X.w) X.A (pyIter (.ref s.heap.objs.size)) (PIE X pins σ tg R) E {s with heap:=s.heap.push {cls:= .type "range",data:= .fields #[.int lo t, .int hi u, .int 1 v]},toks:=tk}:=by
 refine wpAny_pyIter_range (IsRange.new ..) (small_one h1 h2 h3 h4) ?_;have I1:Inv X pins σ H {s with heap:=s.heap.push {cls:= .type "range",data:= .fields #[.int lo t, .int hi u, .int 1 v]},toks:=tk}:=I.kept fun b o e=>A3 _ e
 refine ⟨(s.heap.push {cls:= .type "range",data:= .fields #[.int lo t, .int hi u, .int 1 v]}).objs.size,[(s.heap.push {cls:= .type "range",data:= .fields #[.int lo t, .int hi u, .int 1 v]}).objs.size],_,_,H,rfl,
  I1.kept (t':=tk) fun b o e=>A3 _ e,WL _ lo (hi - lo).toNat,?_,fun b hb=> ?_,q⟩
 . have e1:lo+((0:Nat):Int)*1=lo:=by simp
   have e2:(((hi - lo).toNat:Nat):Int) - ((0:Nat):Int)=Builtin.Range.rangeSize lo hi 1:=by rw [rangeSize_one];split <;> omega
   show IsRangeIter _ _ (lo+((0:Nat):Int)*1) ((((hi - lo).toNat:Nat):Int) - ((0:Nat):Int)) 1;rw [e1,e2];exact AW _ rfl
 . have e:b=(s.heap.push {cls:= .type "range",data:= .fields #[.int lo t, .int hi u, .int 1 v]}).objs.size:=by simpa using hb
   subst e;exact I1.fpOk (AA _) (I1.hok.fresh (AA _))
def q9(ta:TA):TI:=fun σ H R=>ta σ H fun vs H1=>∃j:Int,vs = [.int j] /\ -(2 ^ 62)<=j/\j<2 ^ 62/\R (Itr 0 j.toNat) H1
def qU(ta:TA):TI:=fun σ H R=>ta σ H fun vs H1=>∃i j:Int,vs = [.int i, .int j]/\(-(2 ^ 62)<=i/\i<2 ^ 62 /\ -(2 ^ 62)<=j/\j<2 ^ 62)/\R (Itr i (j - i).toNat) H1
theorem cV {a:Expr} {ta:TA} {p pos:Pos} (hg:Gl X "range") (hm:X.mg "range" = none) (ha:PA X [a] ta) (hs:starEach [a] X.env = [(false,eval a X.env)]:=by rfl):PI X tg (.Call (.Name "range" p) [a] [] pos) (q9 ta):=by
 intro pins s σ H R I h;refine Call_ (IF I hg hm boot_range (CY (thn (ha pos pins s σ H _ I h) fun us s1 ⟨vs,H1,I1,r1,q1⟩ => ?_) hs rfl));obtain ⟨j,e,q1,q2,q⟩:=q1;subst e
 cases r1 with
 | cons r rr=>
  cases rr
  obtain ⟨t,rfl⟩:=r;exact call_range_1 (VA I1 (by omega) (by omega) q1 q2 (by simpa using q))
theorem cO {a b : Expr} {ta : TA} {p pos : Pos} (hg : Gl X "range") (hm : X.mg "range" = none) (ha : PA X [a, b] ta) (hs : starEach [a, b] X.env = [(false, eval a X.env), (false, eval b X.env)] := by rfl) (hs2 : starEach [b] X.env = [(false, eval b X.env)] := by rfl) :
 PI X tg (.Call (.Name "range" p) [a,b] [] pos) (qU ta):=by
 intro pins s σ H R I h;refine Call_ (IF I hg hm boot_range (CY (thn (ha pos pins s σ H _ I h) fun us s1 ⟨vs,H1,I1,r1,q1⟩ => ?_) (by rw [hs,hs2]) (by rw [hs2];rfl)));obtain ⟨i,j,e,⟨q1,q2,q3,q4⟩,q⟩:=q1;subst e
 cases r1 with
 | cons r rr=>
  cases rr with
  | cons r' rr=>
   cases rr
   obtain ⟨t,rfl⟩:=r;obtain ⟨t',rfl⟩:=r';exact call_range_2 (VA I1 q1 q2 q3 q4 q)
def v4(wi:TI)(g:TG)(tb:TS):TS:=fun D σ H=>wi σ H fun J H1=>∃W:Nat->Nat->St->Hp->Prop,(∃m,W 0 m σ H1)/\∀i m σ H,W i m σ H ->
 (J.stop i H/\D.nx σ H)\/(J.go i H/\∃N:St->Hp->Prop,(∀σ' H',N σ' H'->∃m',m'<m/\W (i+1) m' σ' H')/\∀x H',J.yld i H x H'->g x σ H' fun σ2 H2=>tb { D with nx:=N,ct:=N,bk:=D.nx} σ2 H2)
def PH(fp:List Addr)(h:Heap):List (Addr×Obj):=fp.filterMap fun b=>(h.get? b).map fun o=>(b,o)
theorem JM{fp:List Addr}{h:Heap}{b:Addr}{o:Obj}(hb:b ∈ fp)(e:h.get? b=some o):(b,o) ∈ PH fp h:=HN.mpr ⟨b,hb,by rw [e];rfl⟩
theorem cI{fp:List Addr}{h:Heap}{p:Addr×Obj}(hp:p ∈ PH fp h):p.1 ∈ fp/\h.get? p.1=some p.2:=by
 obtain ⟨b,hb,e⟩:=HN.mp hp
 cases q:h.get? b with
 | none=>rw [q] at e;cases e
 | some o=>
  rw [q] at e
  have e':(b,o)=p:=B9 e;subst e';exact ⟨hb,q⟩
theorem Inv.pinned{pins:List (Addr×Obj)}{σ:St}{H:Hp}{s:Shared}{fp:List Addr}(I:Inv X pins σ H s)(hf:∀b ∈ fp,KM X pins H b)(ho:∀b ∈ fp,∃o,s.heap.get? b=some o/\∀v,o.data ≠ .cell v):Inv X (pins++PH fp s.heap) σ H s:=
 I.pins_of fun p hp=>(CN.mp hp).elim (fun z=>I.pin p (AM _ z)) fun z=>by
  obtain ⟨hb,e⟩:=cI z;obtain ⟨f0,f1,f2,_⟩:=hf p.1 hb;obtain ⟨o,e',d⟩:=ho p.1 hb;rw [e] at e';cases e'
  exact ⟨e,f0,f1,f2,d⟩
theorem Inv.unpinned{pins pl:List (Addr×Obj)}{σ:St}{H:Hp}{s:Shared}(I:Inv X (pins++pl) σ H s):Inv X pins σ H s:=I.pins_of fun p hp=>I.pin p (AM _ (J7 _ hp))
theorem jH {iter : Expr} {body : List Stmt} {wi : TI} {g : TG} {tb : TS} {pos : Pos} (hp : PassesOwn (model X.prog X.w) X.A X.env X.xe) (hc : X.calm = true) (hi : PI X tg iter wi) (hg : PG X tg g) (hb : PSs X body tb)
 (hs:∀x,foldedSetIterable iter X.env x=pure x:=by intro _;rfl):PS X (.For tg iter body [] pos) (v4 wi g tb):=by
 intro pins s σ H D I h;refine wpAny_For (thn (hi pins s σ H _ I h) fun v s1 h1=>thn h1 fun itv s2 h2=> ?_) hs;obtain ⟨it,fp,tn,J,H2,e,I2,T,st2,f2,W,⟨m0,w0⟩,turn⟩:=h2;subst e;have stat:∀ {H':Hp},(∀b ∈ fp,H' b=none)->∀b ∈ fp,KM X pins H' b:=fun hn b hb=>⟨hn b hb,(f2 b hb).2⟩;refine codeAny_forLoop_any (fun n s'=>∃i σ' H',Inv X pins σ' H' s'/\tn i s'.heap/\(∀b ∈ fp,H' b=none)/\W i n σ' H') ?_ m0 ⟨0,σ,H2,I2,st2,fun b hb=>(f2 b hb).1,w0⟩;rintro n s3 ⟨i,σ3,H3,I3,st3,fr3,w3⟩;rcases turn i n σ3 H3 w3 with ⟨stop,qn⟩ | ⟨go,N,hN,step⟩
 . refine GL hp (thn (T.done X rfl rfl rfl hc i pins s3 σ3 H3 X.xe I3 (stat fr3) st3 stop) fun r s4 ⟨hr,I4⟩ => ?_);subst hr;exact QH ⟨σ3,H3,I4,qn⟩
 . refine GL hp (thn (T.item X rfl rfl rfl hc i pins s3 σ3 H3 X.xe I3 (stat fr3) st3 go) fun r s4 ⟨u,hr,h4⟩ => ?_);subst hr;refine GL hp (thn h4 fun _ s5 ⟨x,H5,I5,r5,y5,st5,fr5⟩ => ?_);have I5':=I5.pinned (stat fr5) (T.obj _ _ st5);refine GL hp (thn (hg _ s5 σ3 H5 x u _ I5' r5 (step x H5 y5)) fun _ s6 ⟨σ6,H6,I6,q6⟩ => ?_);refine GL hp (thn (hb _ s6 σ6 H6 _ I6 q6) fun f s7 q7=> ?_)
   have again:∀ {σ7:St} {H7:Hp},Inv X (pins++PH fp s5.heap) σ7 H7 s7->N σ7 H7->∃m,m<n/\∃i σ' H',Inv X pins σ' H' s7/\tn i s7.heap/\(∀b ∈ fp,H' b=none)/\W i m σ' H':=fun {σ7 H7} I7 n7=>by
    obtain ⟨m',hm,w7⟩:=hN σ7 H7 n7;refine ⟨m',hm,i+1,σ7,H7,I7.unpinned,T.keep _ _ _ st5 fun b hb o e=>(I7.pin (b,o) (AM _ (AM _ (JM hb e)))).1,fun b hb=> ?_,w7⟩;obtain ⟨o,e,d⟩:=T.obj _ _ st5 b hb;exact (I7.pin (b,o) (AM _ (AM _ (JM hb e)))).2.1
   cases f with
   | next=>obtain ⟨σ7,H7,I7,n7⟩:=q7;exact again I7 n7
   | cont=>obtain ⟨σ7,H7,I7,n7⟩:=q7;exact again I7 n7
   | brk=>obtain ⟨σ7,H7,I7,q7⟩:=q7;exact ⟨σ7,H7,I7.unpinned,q7⟩
   | ret v=>obtain ⟨x7,σ7,H7,I7,r7,q7⟩:=q7;exact ⟨x7,σ7,H7,I7.unpinned,r7,q7⟩
end
end L2
namespace L2
open PySem PySem.Spec PyProof.Rows
abbrev R2:=V->V->Hp->VK->Prop
def OpR(X:Cx)(f:Value->Value->Sem Value)(r:R2):Prop:=
 ∀(pins:List (Addr×Obj)) (s:Shared) (σ:St) (H:Hp) (x y:V) (v u:Value) (Q:VK),Inv X pins σ H s->RelV x v->RelV y u->r x y H Q ->
   wpAny (model X.prog X.w) X.A (f v u) (EP X pins σ Q) X.xe s
def UnR(X:Cx)(f:Value->Sem Value)(r:V->Hp->VK->Prop):Prop:=
 ∀(pins:List (Addr×Obj)) (s:Shared) (σ:St) (H:Hp) (x:V) (v:Value) (Q:VK),Inv X pins σ H s->RelV x v->r x H Q ->
   wpAny (model X.prog X.w) X.A (f v) (EP X pins σ Q) X.xe s
def JX(X:Cx)(f:Value)(r:List V->Hp->VK->Prop):Prop:=
 ∀(pins:List (Addr×Obj)) (s:Shared) (σ:St) (H:Hp) (xs:List V) (us:List Value) (Q:VK),Inv X pins σ H s->Vals xs us->r xs H Q ->
   wpAny (model X.prog X.w) X.A (call f us) (EP X pins σ Q) X.xe s
def zN(X:Cx)(r:V->Hp->(Bool->Hp->Prop)->Prop):Prop:=
 ∀(pins:List (Addr×Obj)) (s:Shared) (σ:St) (H:Hp) (x:V) (v:Value) (Q:Bool->Hp->Prop),Inv X pins σ H s->RelV x v->r x H Q ->
   wpAny (model X.prog X.w) X.A (truthy v) (TP X pins σ Q) X.xe s
def tOp(r:R2)(ta tb:TE):TE:=fun σ H Q=>ta σ H fun x H1=>tb σ H1 fun y H2=>r x y H2 Q
def tUn(r:V->Hp->VK->Prop)(ta:TE):TE:=fun σ H Q=>ta σ H fun x H1=>r x H1 Q
def rI(C:Int->Int->Prop)(g:Int->Int->V):R2:=fun x y H Q=>∃i j,x = .int i/\y = .int j/\C i j/\Q (g i j) H
def rI0(g:Int->Int->V):R2:=fun x y H Q=>∃i j,x = .int i/\y = .int j/\Q (g i j) H
def rU(g:Int->V):V->Hp->VK->Prop:=fun x H Q=>∃i,x = .int i/\Q (g i) H
section
variable {X:Cx} {a b c:Expr} {ta tb tc:TE} {pos:Pos}
theorem wK (ha : PE X a ta) (hb : PE X b tb) {pins : List (Addr × Obj)} {s : Shared} {σ : St} {H : Hp} {R : V -> V -> Hp -> Prop} (I : Inv X pins σ H s)
 (h:ta σ H fun x H1=>tb σ H1 fun y H2=>R x y H2) {Q:Value->Shared->Prop} {f:Value->Value->Sem Value}
 (hf:∀v u s2 x y H2,Inv X pins σ H2 s2->RelV x v->RelV y u->R x y H2->wpAny (model X.prog X.w) X.A (f v u) Q X.xe s2) :
 wpAny (model X.prog X.w) X.A (eval a X.env) (fun v s₁=>wpAny (model X.prog X.w) X.A (eval b X.env) (fun u s₂=>wpAny (model X.prog X.w) X.A (f v u) Q X.xe s₂) X.xe s₁) X.xe s:=by
 refine thn (ha pins s σ H _ I h) fun v s1 ⟨x,H1,I1,r1,q1⟩ => ?_;refine thn (hb pins s1 σ H1 _ I1 q1) fun u s2 ⟨y,H2,I2,r2,q2⟩ => ?_;exact hf v u s2 x y H2 I2 r1 r2 q2
theorem xL{op:Operator}{r:R2}(ho:OpR X (binaryOp op) r)(ha:PE X a ta)(hb:PE X b tb):PE X (.BinOp a op b pos) (tOp r ta tb):=by
 intro pins s σ H Q I h;exact wpAny_BinOp (wK ha hb I h fun v u s2 x y H2 I2 rx ry q=>ho pins s2 σ H2 x y v u Q I2 rx ry q)
theorem yB{op:UnaryOp}{r:V->Hp->VK->Prop}(ho:UnR X (unaryOp op) r)(ha:PE X a ta):PE X (.UnaryOp op a pos) (tUn r ta):=by
 intro pins s σ H Q I h;exact UnaryOp_ (thn (ha pins s σ H _ I h) fun v s1 ⟨x,H1,I1,r1,q1⟩=>ho pins s1 σ H1 x v Q I1 r1 q1)
theorem opI {f : Value -> Value -> Sem Value} {C : Int -> Int -> Prop} {g : Int -> Int -> Int}
 (rule:∀(i j:Int) (t u:Tok) (s:Shared) (Q:Value->Shared->Prop) (E:Value->Shared->Prop),C i j->Q (.int (g i j) s.toks) {s with toks:=s.toks+1}->wpAny (model X.prog X.w) X.A (f (.int i t) (.int j u)) Q E s) :
 OpR X f (rI C fun i j=> .int (g i j)):=by
 intro pins s σ H x y v u Q I rx ry h;obtain ⟨i,j,rfl,rfl,hc,q⟩:=h;obtain ⟨t,rfl⟩:=rx;obtain ⟨t',rfl⟩:=ry;exact rule i j t t' s _ _ hc ⟨.int (g i j),H,I.tok _,⟨_,rfl⟩,q⟩
theorem x9 {f : Value -> Value -> Sem Value} {g : Int -> Int -> Int}
 (rule:∀(i j:Int) (t u:Tok) (s:Shared) (Q:Value->Shared->Prop) (E:Value->Shared->Prop),Q (.int (g i j) s.toks) {s with toks:=s.toks+1}->wpAny (model X.prog X.w) X.A (f (.int i t) (.int j u)) Q E s) :
 OpR X f (rI0 fun i j=> .int (g i j)):=by
 intro pins s σ H x y v u Q I rx ry h;obtain ⟨i,j,rfl,rfl,q⟩:=h;obtain ⟨t,rfl⟩:=rx;obtain ⟨t',rfl⟩:=ry;exact rule i j t t' s _ _ ⟨.int (g i j),H,I.tok _,⟨_,rfl⟩,q⟩
theorem wH {f : Value -> Value -> Sem Value} {g : Int -> Int -> Bool}
 (rule:∀(i j:Int) (t u:Tok) (s:Shared) (Q:Value->Shared->Prop) (E:Value->Shared->Prop),Q (.bool (g i j)) s->wpAny (model X.prog X.w) X.A (f (.int i t) (.int j u)) Q E s) :
 OpR X f (rI0 fun i j=> .bl (g i j)):=by
 intro pins s σ H x y v u Q I rx ry h;obtain ⟨i,j,rfl,rfl,q⟩:=h;obtain ⟨t,rfl⟩:=rx;obtain ⟨t',rfl⟩:=ry;exact rule i j t t' s _ _ ⟨.bl (g i j),H,I,rfl,q⟩
def CMul(i j:Int):Prop:=(-(2 ^ 64)<i/\i<2 ^ 64)\/(-(2 ^ 64)<j/\j<2 ^ 64)
theorem CMul.ok{i j:Int}(h:CMul i j):IntMulOk i j:=by
 rcases h with ⟨h1,h2⟩ | ⟨h1,h2⟩
 . exact .of_left (intBits_le_64 h1 h2)
 . exact .of_right (intBits_le_64 h1 h2)
theorem wF:OpR X (binaryOp .Add) (rI0 fun i j=> .int (i+j)):=x9 fun _ _ _ _ _ _ _ q=>add_int q
theorem sL:OpR X (binaryOp .Sub) (rI0 fun i j=> .int (i - j)):=x9 fun _ _ _ _ _ _ _ q=>sub_int q
theorem lF:OpR X (binaryOp .Mod) (rI (fun _ j=>j≠0) fun i j=> .int (i.fmod j)):=opI fun _ _ _ _ _ _ _ hc q=>mod_int' hc q
theorem unI {f : Value -> Sem Value} {g : Int -> Int}
 (rule:∀(i:Int) (t:Tok) (s:Shared) (Q:Value->Shared->Prop) (E:Value->Shared->Prop),Q (.int (g i) s.toks) {s with toks:=s.toks+1}->wpAny (model X.prog X.w) X.A (f (.int i t)) Q E s) :
 UnR X f (rU fun i=> .int (g i)):=by
 intro pins s σ H x v Q I rx h;obtain ⟨i,rfl,q⟩:=h;obtain ⟨t,rfl⟩:=rx;exact rule i t s _ _ ⟨.int (g i),H,I.tok _,⟨_,rfl⟩,q⟩
theorem sS:UnR X (unaryOp .USub) (rU fun i=> .int (-i)):=unI fun _ _ _ _ _ q=>neg_int q
end
section
variable {X:Cx} {a b c:Expr} {ta tb tc:TE} {pos:Pos}
theorem vG{pins:List (Addr×Obj)}{σ:St}{H:Hp}{s:Shared}{Q:VK}{k k':Bool}(I:Inv X pins σ H s)(q:Q (.bl k) H)(e:k=k'):EP X pins σ Q (.bool k') s:=by
 subst e;exact ⟨.bl k,H,I,rfl,q⟩
theorem yI:OpR X (compareOp .Lt) (rI0 fun i j=> .bl (decide (i<j))):=wH fun _ _ _ _ _ _ _ q=>lt_int q
theorem xA:OpR X (compareOp .LtE) (rI0 fun i j=> .bl (decide (i<=j))):=wH fun _ _ _ _ _ _ _ q=>le_int q
theorem yN:OpR X (compareOp .Gt) (rI0 fun i j=> .bl (decide (j<i))):=wH fun _ _ _ _ _ _ _ q=>gt_int q
theorem vO:OpR X (compareOp .Is) (fun x y H Q=>y = .non/\Q (.bl (decide (x = .non))) H):=by
 intro pins s σ H x y v u Q I rx ry h;obtain ⟨rfl,q⟩:=h
 cases ry
 refine is_none_gen (vG I q ?_)
 cases x <;> first
  | (cases rx;rfl)
  | (obtain ⟨t,rfl⟩:=rx;rfl)
theorem OpR.or{f:Value->Value->Sem Value}{r r':R2}(h:OpR X f r)(h':OpR X f r'):OpR X f (fun x y H Q=>r x y H Q\/r' x y H Q):=by
 intro pins s σ H x y v u Q I rx ry q;rcases q with q | q
 . exact h pins s σ H x y v u Q I rx ry q
 . exact h' pins s σ H x y v u Q I rx ry q
theorem LM(b:Expr){op:CmpOp}(h:op ≠ .In:=by decide)(h2:op ≠ .NotIn:=by decide):behindInMarks op b=false:=by
 have e1:(op==CmpOp.In)=false:=by cases op <;> first | rfl | exact absurd rfl h
 have e2:(op==CmpOp.NotIn)=false:=by cases op <;> first | rfl | exact absurd rfl h2
 cases b <;> simp [behindInMarks,e1,e2]
theorem nY{op:CmpOp}{r:R2}(ho:OpR X (compareOp op) r)(ha:PE X a ta)(hb:PE X b tb)(hm:behindInMarks op b=false):PE X (.Compare a [op] [b] pos) (tOp r ta tb):=by
 intro pins s σ H Q I h;exact wpAny_Compare1 (wK ha hb I h fun v u s2 x y H2 I2 rx ry q=>ho pins s2 σ H2 x y v u Q I2 rx ry q) hm
def pZ(t:TE):TT:=fun σ H Q=>t σ H fun x H'=>∃k,x = .bl k/\Q k H'
theorem o7{op:CmpOp}{r:R2}(ho:OpR X (compareOp op) r)(ha:PE X a ta)(hb:PE X b tb)(hm:behindInMarks op b=false):PT X (.Compare a [op] [b] pos) (pZ (tOp r ta tb)):=by
 intro pins s σ H Q I h
 refine zY (thn (ha pins s σ H _ I h) fun v s1 ⟨x,H1,I1,r1,q1⟩=>thn (hb pins s1 σ H1 _ I1 q1) fun u s2 ⟨y,H2,I2,r2,q2⟩ =>
  thn (ho pins s2 σ H2 x y v u _ I2 r1 r2 q2) fun c s3 ⟨z,H3,I3,r3,k,e,q3⟩ => ?_) hm
 subst e
 cases r3
 exact FW ⟨H3,I3,q3⟩
def yZ(K:PySem.W.Frag)(x:V)(H:Hp)(k:Bool):Prop:=
 match x with
 | .non=>k=false
 | .bl b=>k=b
 | .int i=>k=(i != 0)
 | .str y=>y.length<=sizeLine/\k=((y.length:Int) != 0)
 | .byt y=>y.size<=sizeLine/\k=((y.size:Int) != 0)
 | .ref p=>(∃xs,SqL K H p xs/\k = !xs.isEmpty)\/(∃xs,SqT K H p xs/\k = !xs.isEmpty)\/∃kvs,H p=some (.dK kvs)/\k = !kvs.isEmpty
 | _=>False
theorem WU{κ:Type}{kvs:List (κ×V)}{vs:List (κ×Value)}(r:KV kvs vs):(!vs.isEmpty) = !kvs.isEmpty:=by
 cases r <;> rfl
theorem Q0{xs:List V}{its:List Value}(r:Vals xs its):(!its.toArray.isEmpty) = !xs.isEmpty:=by
 cases r <;> simp
theorem NQ:(sizeLine:Nat)<2 ^ 63:=by rw [A03];decide
theorem uR:zN X (fun x H Q=>∃k,yZ X.K x H k/\Q k H):=by
 intro pins s σ H x v Q I rx h;obtain ⟨k,e,q⟩:=h;have hl:=NQ;have hs:sizeLine=16777216:=A03
 cases x with
 | non=>
  cases rx
  have e':k=false:=e;subst e'
  exact truthy_none ⟨H,I,q⟩
 | bl b=>
  cases rx
  have e':k=b:=e;subst e'
  exact FW ⟨H,I,q⟩
 | int i=>
  obtain ⟨t,rfl⟩:=rx;have e':k=(i != 0):=e;subst e'
  exact PySem.P.truthy_int ⟨H,I,q⟩
 | str y=>
  obtain ⟨t,rfl⟩:=rx;obtain ⟨hy,e'⟩:y.length<=sizeLine/\k=((y.length:Int) != 0):=e;subst e'
  exact PySem.P.truthy_str (by omega) ⟨H,I.tok _,q⟩
 | byt y=>
  obtain ⟨t,rfl⟩:=rx;obtain ⟨hy,e'⟩:y.size<=sizeLine/\k=((y.size:Int) != 0):=e;subst e'
  exact PySem.W.truthy_bytes (by omega) ⟨H,I.tok _,q⟩
 | ref p=>
  cases rx
  have e':(∃xs,SqL X.K H p xs/\k = !xs.isEmpty)\/(∃xs,SqT X.K H p xs/\k = !xs.isEmpty)\/∃kvs,H p=some (.dK kvs)/\k = !kvs.isEmpty:=e;rcases e' with ⟨xs,hx,e'⟩ | ⟨xs,hx,e'⟩ | ⟨kvs,hx,e'⟩
  . subst e';obtain ⟨its,r,pl,hz⟩:=I.list hx;have hlen:=r.length;exact wpAny_truthy_list pl.isList (by simp only [AK];omega) ⟨H,I.tok _,by rw [Q0 r];exact q⟩
  . subst e';obtain ⟨its,r,pl,hz⟩:=I.tuple hx;have hlen:=r.length;exact truthy_tuple pl (by simp only [AK];omega) ⟨H,I.tok _,by rw [Q0 r];exact q⟩
  . subst e';obtain ⟨hz,hS,vs,r,m⟩:kvs.length<=sizeLine/\(p==sysModules)=false/\∃vs,KV kvs vs/\s.heap.DictOf (SJ X.prog X.w) p vs:=I.hok p _ hx;have hlen:kvs.length=vs.length:=Paired.length r
    exact wpAny_truthy_dict hS m (by omega) ⟨H,I.tok _,by rw [WU r];exact q⟩
 | _=>exact (show False from e).elim
theorem WS:OpR X (binaryOp .Add) (fun x y H Q=>∃i j,x = .str i/\y = .str j/\i.length+j.length<=sizeLine/\Q (.str (i++j)) H):=by
 intro pins s σ H x y v u Q I rx ry h;obtain ⟨i,j,rfl,rfl,hz,q⟩:=h;obtain ⟨t,rfl⟩:=rx;obtain ⟨t',rfl⟩:=ry;exact add_str (fun t' tk=>⟨.str (i++j),H,I.tok _,⟨_,rfl⟩,q⟩) hz
theorem K0{x:V}{us:List Value}(r:Vals [x] us):∃u,us = [u]/\RelV x u:=by
 cases r with
 | cons r1 r2=>cases r2;exact ⟨_,rfl,r1⟩
theorem eD{x y:V}{us:List Value}(r:Vals [x,y] us):∃u w',us = [u,w']/\RelV x u/\RelV y w':=by
 cases r with
 | cons r1 r2=>
  cases r2 with
  | cons r3 r4=>cases r4;exact ⟨_,_,rfl,r1,r3⟩
theorem kD:JX X (.builtin "abs") (fun xs H Q=>∃i,xs = [.int i]/\Q (.int (if i<0 then -i else i)) H):=by
 intro pins s σ H xs us Q I r h;obtain ⟨i,rfl,q⟩:=h;obtain ⟨u,rfl,t,rfl⟩:=K0 r;exact call_abs_int fun u tk=>⟨.int (if i<0 then -i else i),H,I.tok _,⟨_,rfl⟩,q⟩
theorem bP:JX X (.type "int") (fun xs H Q=>(∃i,xs = [.int i]/\Q (.int i) H)\/∃k,xs = [.bl k]/\Q (.int (if k then 1 else 0)) H):=by
 intro pins s σ H xs us Q I r h;rcases h with ⟨i,rfl,q⟩ | ⟨k,rfl,q⟩
 . obtain ⟨u,rfl,t,rfl⟩:=K0 r;exact call_int_int ⟨.int i,H,I,⟨_,rfl⟩,q⟩
 . obtain ⟨u,rfl,r1⟩:=K0 r
   cases r1
   exact call_int_bool ⟨.int (if k then 1 else 0),H,I.tok _,⟨_,rfl⟩,q⟩
end
end L2
namespace L2
open PySem PySem.Spec PyProof.Rows
structure ObjM (h:Heap) (x dx C:Addr) (mA:Str->Option Value):Prop where
 obj:h.get? x=some (PySem.W.instObj C dx)
 ns:h.Ns1 dx mA
 ne:dx≠x
theorem bI{h:Heap}{dx:Addr}{mA:Str->Option Value}(n:h.Ns1 dx mA):∃od,h.get? dx=some od/\∀name,PySem.W.lookIn name od=some (mA name):=by
 obtain ⟨o,es,ep,ho,hd,hk,_,hm⟩:=n;refine ⟨o,ho,fun name=> ?_⟩;have e:=hm name;unfold nsFind findBy at e
 rw [<-Array.find?_toList] at e
 unfold PySem.W.lookIn;rw [hd]
 dsimp only
 split
 . rename_i y q;rw [q] at e
   exact LX some e
 . rename_i q;rw [q] at e
   have a:es.toList.any (·.refKey)=false:=by
    rw [List.any_eq_false];intro y hy;obtain ⟨z,t,hkey⟩:=hk y (Array.mem_toList_iff.mp hy);simp [DictEntry.refKey,hkey]
   have a':¬es.toList.any (·.refKey)=true:=by rw [a];exact ET
   rw [C9 a'];exact LX some e
theorem ObjM.look{h:Heap}{x dx C:Addr}{mA:Str->Option Value}(I:ObjM h x dx C mA):∃od,PySem.W.InstAt h x (PySem.W.instObj C dx) C (some od)/\∀name,PySem.W.lookIn name od=some (mA name) :=
 let ⟨od,ho,hl⟩:=bI I.ns
 ⟨od,⟨I.obj,rfl,rfl,ho⟩,hl⟩
section
variable {prog:Program} {w:World} {A:Around} {E:Value->Shared->Prop} {s:Shared} {K:PySem.W.Frag} {x dx C f:Addr} {mA:Str->Option Value} {name:Str} {v:Value}
theorem kZ {expr : Bool} {Q : Value -> Shared -> Prop} (X : K.In s.heap) (I : ObjM s.heap x dx C mA) (hg : PySem.W.plainGet K C name = true) (hh : PySem.W.hasDictIn K C = true)
 (ha:PySem.W.findIn K (.ref C) name=some none) (hv:mA name=some v) (hv':PySem.W.handedIn v=true) (h:Q v {s with toks:=s.toks+1}) :
 wpAny (model prog w) A (getAttr (.ref x) name expr) Q E s:=by
 obtain ⟨od,J,hl⟩:=I.look;exact PySem.W.get_value X J (Q7 hg).1 (PySem.W.findObj_own hh ha rfl (by rw [hl,hv])) hv' h
theorem jO {pl : Sem Bool} {Q : Value × List Value -> Shared -> Prop} (X : K.In s.heap) (I : ObjM s.heap x dx C mA) (hg : PySem.W.plainGet K C name = true)
 (hf:PySem.W.findIn K (.ref C) name=some (some (.ref f))) (ht:PySem.W.isFn K (.ref f)=true) (hv:mA name=none) (h:Q (.ref f,[.ref x]) s) :
 wpAny (model prog w) A (getMethod (.ref x) name pl) Q E s:=by
 obtain ⟨od,J,hl⟩:=I.look;exact PySem.W.method_fn X J (Q7 hg).1 (Q7 hg).2 hf (E9.mp ht) (by show (PySem.W.lookIn name od).map (·.isSome)=some false;rw [hl,hv];rfl) h
theorem mN {ns : List Str} {Q : Unit -> Shared -> Prop} (X : K.In s.heap) (I : ObjM s.heap x dx C mA)
 (hs:PySem.W.findIn K (.ref C) "__setattr__" = some (some (.builtin "object.__setattr__"))) (hp:PySem.W.plainOver K C=true) (ht:PySem.W.takerIn K C name=some none) (hh:PySem.W.hasDictIn K C=true)
 (hw:PySem.Within mA ns) (hsz:ns.length<=sizeLine)
 (h:∀h',ObjM h' x dx C (fun y=>if y=name then some v else mA y)->Heap.SameBut dx s.heap h'->Q () {s with heap:=h',toks:=s.toks+2}) :
 wpAny (model prog w) A (setAttr (.ref x) name v) Q E s:=by
 obtain ⟨od,J,hl⟩:=I.look;refine PySem.W.set_plain X J hs (PySem.W.osa_open (s:={s with toks:=s.toks+1}) (r:=none) X J hp ht fun b=> ?_);obtain ⟨cd,hc,hd'⟩:=PySem.W.any_some hh;have hx:s.heap.get? x=some ⟨.ref C,some dx, .plain, #[]⟩:=I.obj;refine A5 (AR (A5 (A5 (wpAny_loadPart hx (A5 (PySem.W.Looks.here (s:={s with toks:=s.toks+1}) (PySem.W.looks_clsIn X hc) ?_))))));rw [hd'];refine AR (a:=some dx) (A5 (AR (A5 ?_)));refine wpAny_nsSet1 (s:={s with toks:=s.toks+1}) I.ns fun h' hn2 hs2=> ?_;obtain ⟨oD,esD,epD,hoD,hdD,hcD⟩:=hn2.count (PySem.Within.cons name v hw);refine A5 (wpAny_lookBehind hoD (by rw [hdD];exact pastItsLine_dict (BH hcD (by rw [BS];omega))) ?_);exact AR (h _ ⟨(hs2.2 _ (HZ I.ne)).trans I.obj,hn2,I.ne⟩ hs2)
theorem iK {R : Result -> Shared -> Prop} {vs : List Value} {kw : List (Str × Value)} (X : K.In s.heap) (hm : PySem.W.makesIn K C = true)
 (hi:PySem.W.findIn K (.ref C) "__init__" = some (some (.ref f))) (hf:PySem.W.typeIn K (.ref f)=some (.type "function"))
 (h:codeAny (model prog w) (A.under (.builtin "type.__call__" ⟨.ref C::vs,kw⟩)) (.call (.ref f) ⟨.ref (s.heap.objs.size+1)::vs,kw⟩) (PySem.W.InitBack (s.heap.objs.size+1) R)
  {s with heap:=(s.heap.push PySem.W.emptyDict).push (PySem.W.instObj C s.heap.objs.size)}) :
 codeAny (model prog w) A (.call (.ref C) ⟨vs,kw⟩) R s:=by
 obtain ⟨hh,g,d,t,os⟩:=s;exact PySem.W.make_core (PySem.W.makes_of X hm) (PySem.W.looks_findIn X hi) (fun self=>PySem.W.bind_fn X self hf) (.inl rfl) h
end
def JN(f:Str)(v:V):List (Str×V)->List (Str×V)
 | []=> [(f,v)]
 | (g,x)::r=>if g=f then (g,v)::r else (g,x)::JN f v r
theorem IN(f g:Str)(v:V):∀fs:List (Str×V),(JN f v fs).lookup g=if g=f then some v else fs.lookup g
 | []=>by
  show List.lookup g [(f,v)]=_
  by_cases h:g=f
  . have hb:(g==f)=true:=E9.mpr h;simp only [List.lookup,hb,CQ h]
  . have hb:(g==f)=false:=FU.mpr h
    simp only [List.lookup,hb,C9 h]
 | (k,x)::r=>by
  have ih:=IN f g v r;rw [show JN f v ((k,x)::r)=(if k=f then (k,v)::r else (k,x)::JN f v r) from rfl]
  by_cases hk:k=f
  . rw [CQ hk]
    by_cases h:g=k
    . have hb:(g==k)=true:=E9.mpr h;simp only [List.lookup,hb,CQ (h.trans hk)]
    . have hb:(g==k)=false:=FU.mpr h;simp only [List.lookup,hb,C9 (fun e:g=f=>h (e.trans hk.symm))]
  . rw [C9 hk]
    by_cases h:g=k
    . have hb:(g==k)=true:=E9.mpr h;simp only [List.lookup,hb,C9 (fun e:g=f=>hk (h.symm.trans e))]
    . have hb:(g==k)=false:=FU.mpr h;simp only [List.lookup,hb];exact ih
theorem NK(f:Str)(v:V):∀fs:List (Str×V),f ∈ (JN f v fs).map (·.1)/\∀g,g ∈ fs.map (·.1)->g ∈ (JN f v fs).map (·.1)
 | []=>⟨by simp [JN],fun g h=>by simp at h⟩
 | (k,x)::r=>by
  obtain ⟨i1,i2⟩:=NK f v r;rw [show JN f v ((k,x)::r)=(if k=f then (k,v)::r else (k,x)::JN f v r) from rfl]
  by_cases hk:k=f
  . rw [CQ hk];subst hk;exact ⟨by simp,fun g h=>by simpa using h⟩
  . rw [C9 hk];refine ⟨?_,fun g h=> ?_⟩
    . rw [CU];exact B6 _ i1
    . rw [CU] at h ⊢
      rcases AZ.mp h with e | e
      . exact AZ.mpr (.inl e)
      . exact B6 _ (i2 g e)
theorem KR(f:Str)(v:V):∀fs:List (Str×V),(JN f v fs).length<=fs.length+1
 | []=>by simp [JN]
 | (k,x)::r=>by
  have ih:=KR f v r;rw [show JN f v ((k,x)::r)=(if k=f then (k,v)::r else (k,x)::JN f v r) from rfl]
  by_cases hk:k=f
  . rw [CQ hk,BS,BS];omega
  . rw [C9 hk,BS,BS];omega
theorem RelO.some_of{v:V}{o:Option Value}(r:RelO (some v) o):∃u,o=some u/\RelV v u:=by
 cases o with
 | none=>exact (show False from r).elim
 | some u=>exact ⟨u,rfl,r⟩
theorem RelO.none_of{o:Option Value}(r:RelO none o):o=none:=by
 cases o with
 | none=>rfl
 | some u=>exact (show False from r).elim
theorem d7{v:V}{u:Value}(r:RelV v u):PySem.W.handedIn u=true:=by
 cases v with
 | non=>cases (show u=Value.none from r);rfl
 | bl b=>cases (show u=Value.bool b from r);rfl
 | int i=>obtain ⟨t,e⟩:=(show ∃t,u=Value.int i t from r);cases e;rfl
 | str x=>obtain ⟨t,e⟩:=(show ∃t,u=Value.str x t from r);cases e;rfl
 | byt b=>obtain ⟨t,e⟩:=(show ∃t,u=Value.bytes b t from r);cases e;rfl
 | flt b=>obtain ⟨t,e⟩:=(show ∃t,u=Value.float b t from r);cases e;rfl
 | ref a=>cases (show u=Value.ref a from r);rfl
 | ty n=>cases (show u=Value.type n from r);rfl
section
variable {P:Program} {w:World} {H H':Hp} {h h':Heap} {a C dx:Addr} {fs fs':List (Str×V)}
theorem SE(hok:HOk P w H h)(e:H a=some (.ins C dx fs)):∃mA,ObjM h a dx C mA/\(∀f,RelO (fs.lookup f) (mA f))/\PySem.Within mA (fs.map (·.1))/\fs.length<=1000/\H dx=some (.own a):=by
 obtain ⟨d,z,ne,ob,mA,n,r,q⟩:=(show ObjOk P w H h a (.ins C dx fs) from hok a _ e);exact ⟨mA,⟨ob,n,ne⟩,r,q,z,d⟩
end
structure Cls (K:PySem.W.Frag) (C:Addr):Prop where
 pg:PySem.W.plainGet K C Str.empty=true
 hd:PySem.W.hasDictIn K C=true
 po:PySem.W.plainOver K C=true
 sa:PySem.W.findIn K (.ref C) "__setattr__" = some (some (.builtin "object.__setattr__"))
theorem Cls.get{K:PySem.W.Frag}{C:Addr}(c:Cls K C)(f:Str):PySem.W.plainGet K C f=true:=c.pg
def NoAttr(K:PySem.W.Frag)(C:Addr)(f:Str):Prop:=PySem.W.findIn K (.ref C) f=some none
theorem NoAttr.taker{K:PySem.W.Frag}{C:Addr}{f:Str}(n:NoAttr K C f):PySem.W.takerIn K C f=some none:=by
 unfold PySem.W.takerIn;rw [show PySem.W.findIn K (.ref C) f=some none from n];rfl
structure Con (K:PySem.W.Frag) (C:Addr) (f:Str) (v:V) (u:Value):Prop where
 at_:PySem.W.findIn K (.ref C) f=some (some u)
 rel:RelV v u
 get:PySem.W.specialIn K u "__get__" = some none
 cp:PySem.W.copiedNames.contains f=false
structure Meth (K:PySem.W.Frag) (C:Addr) (m:Str) (f:Addr):Prop where
 at_:PySem.W.findIn K (.ref C) m=some (some (.ref f))
 fn:PySem.W.isFn K (.ref f)=true
 kp:PySem.W.keepIn K (.ref f)=true
section
variable {X:Cx} {pins:List (Addr×Obj)} {σ:St} {H:Hp} {s:Shared} {a C dx:Addr} {fs:List (Str×V)} {f:Str} {v:V} {A:Around} {E:Value->Shared->Prop}
theorem X7 {b : Bool} {Q : Value -> Shared -> Prop} (I : Inv X pins σ H s) (e : H a = some (.ins C dx fs)) (c : Cls X.K C) (n : NoAttr X.K C f) (l : fs.lookup f = some v)
 (h:∀u s',Inv X pins σ H s'->RelV v u->Q u s'):wpAny (model X.prog X.w) A (getAttr (.ref a) f b) Q E s:=by
 obtain ⟨mA,O,r,_,_,_⟩:=SE I.hok e;obtain ⟨u,hu,ru⟩:=RelO.some_of (v:=v) (o:=mA f) (by rw [<-l];exact r f);exact kZ I.kIn O (c.get f) c.hd n hu (d7 ru) (h u _ (I.tok _) ru)
theorem P2 {m : Str} {g : Addr} {pl : Sem Bool} {Q : Value × List Value -> Shared -> Prop} (I : Inv X pins σ H s) (e : H a = some (.ins C dx fs)) (c : Cls X.K C) (k : Meth X.K C m g) (l : fs.lookup m = none)
 (h:Q (.ref g,[.ref a]) s):wpAny (model X.prog X.w) A (getMethod (.ref a) m pl) Q E s:=by
 obtain ⟨mA,O,r,_,_,_⟩:=SE I.hok e;have hn:mA m=none:=RelO.none_of (by rw [<-l];exact r m);exact jO I.kIn O (c.get m) k.at_ k.fn hn h
theorem XC {y : V} {u : Value} {Q : Unit -> Shared -> Prop} (I : Inv X pins σ H s) (e : H a = some (.ins C dx fs)) (c : Cls X.K C) (n : NoAttr X.K C f) (hl : fs.length < 1000) (ry : RelV y u)
 (h:∀s',Inv X pins σ (upd H a (.ins C dx (JN f y fs))) s'->Q () s'):wpAny (model X.prog X.w) A (setAttr (.ref a) f u) Q E s:=by
 obtain ⟨mA,O,r,wi,_,ho⟩:=SE I.hok e;have hz:(fs.map (·.1)).length<=sizeLine:=by rw [A9,A03];omega
 refine mN I.kIn O c.sa c.po n.taker c.hd wi hz fun h' O' sb=>h _ ?_;have hd:∃o,h'.get? dx=some o:=let ⟨o,_,_,e',_⟩:=O'.ns;⟨o,e'⟩;refine I.write (x:=a) (e:=dx) (by rw [e];exact D4) (.inr ho) (fun b q hb z=>(sb.2 b hb).trans z) hd ?_;refine ⟨by rw [AY O.ne];exact ho,?_,O.ne,O'.obj,_,O'.ns,fun g=> ?_,fun g hg=> ?_⟩
 . have:=KR f y fs;omega
 . show RelO ((JN f y fs).lookup g) (if g=f then some u else mA g);rw [IN]
   by_cases q:g=f
   . rw [CQ q,CQ q];exact ry
   . rw [C9 q,C9 q];exact r g
 . by_cases q:g=f
   . rw [q];exact (NK f y fs).1
   . refine (NK f y fs).2 g (wi g fun z=>hg ?_);show (if g=f then some u else mA g)=none;rw [C9 q];exact z
theorem Inv.made (I : Inv X pins σ H s) : Inv X pins σ (upd (upd H s.heap.objs.size (.own (s.heap.objs.size + 1))) (s.heap.objs.size + 1) (.ins C s.heap.objs.size []))
 {s with heap:=(s.heap.push PySem.W.emptyDict).push (PySem.W.instObj C s.heap.objs.size)}:=by
 have e1:(s.heap.push PySem.W.emptyDict).get? s.heap.objs.size=some PySem.W.emptyDict:=AW s.heap rfl
 have e2:((s.heap.push PySem.W.emptyDict).push (PySem.W.instObj C s.heap.objs.size)).get? (s.heap.objs.size+1)=some (PySem.W.instObj C s.heap.objs.size):=by
  have:=AW (s.heap.push PySem.W.emptyDict) (o:=PySem.W.instObj C s.heap.objs.size) rfl
  rwa [CZ] at this
 have e3:(s.heap.push PySem.W.emptyDict).Ns s.heap.objs.size (fun _=>none):=⟨PySem.W.emptyDict, #[],_,e1,rfl,(fun e he=>absurd he (by simp)),fun _=>rfl⟩;have I1:=I.laid (a:=s.heap.objs.size) (o:= .own (s.heap.objs.size+1)) (h':=s.heap.push PySem.W.emptyDict) (t':=s.toks) (fun b u q=>A3 _ q) (AA _) ⟨_,e1⟩;refine I1.laid (a:=s.heap.objs.size+1) (o:= .ins C s.heap.objs.size []) (t':=s.toks) (fun b u q=>A3 _ q) (qZ (CZ _ _)) ?_;have ne:s.heap.objs.size≠s.heap.objs.size+1:=D9 (IV _);refine ⟨by rw [AY ne,BC],DL _,ne,e2,fun _=>none,(Heap.Ns1.of_empty e3).at fun o q=>A3 _ q,fun _=>D4,fun y hy=>absurd rfl hy⟩
theorem lI {prog : Program} {w : World} {env : Env} {e : Expr} {f : Str} {pos : Pos} {s : Shared} {Q : Value -> Shared -> Prop} (hb : attributeBase e f env (eval e env) = eval e env)
 (h:wpAny (model prog w) A (eval e env) (fun o s₁=>wpAny (model prog w) A (getAttr o f true) Q E s₁) E s):wpAny (model prog w) A (eval (.Attribute e f pos) env) Q E s:=
 Attribute_any_ h (by rw [arm_eval_Attribute,hb])
end
def jG(K:PySem.W.Frag)(ta:TE)(f:Str):TE:=fun σ H Q=>ta σ H fun x H1=>∃a C dx fs v,x = .ref a/\H1 a=some (.ins C dx fs)/\Cls K C/\NoAttr K C f/\fs.lookup f=some v/\Q v H1
def xJ(K:PySem.W.Frag)(ta tv:TE)(f:Str):TS:=fun D σ H=>tv σ H fun y H1=>ta σ H1 fun x H2=>∃a C dx fs,x = .ref a/\H2 a=some (.ins C dx fs)/\Cls K C/\NoAttr K C f/\fs.length<1000 /\
 D.nx σ (upd H2 a (.ins C dx (JN f y fs)))
section
variable {X:Cx} {o e value:Expr} {f:Str} {pos pos' tpos:Pos} {ta tv:TE}
theorem SY(he:PE X e ta)(hb:attributeBase e f X.env (eval e X.env)=eval e X.env):PE X (.Attribute e f pos) (jG X.K ta f):=by
 intro pins s σ H Q I h;refine lI hb (thn (he pins s σ H _ I h) fun u s1 ⟨x,H1,I1,rx,a,C,dx,fs,v,ex,ea,c,n,l,q⟩ => ?_);subst ex;obtain rfl:u=Value.ref a:=rx;exact X7 I1 ea c n l fun u' s2 I2 ru=>⟨v,H1,I2,ru,q⟩
theorem t5(ha:PE X o ta)(hv:PE X value tv)(hs:swapsWith value (some (.Attribute o f pos')) pos.line X.env=pure false):PS X (.Assign [.Attribute o f pos'] value pos) (xJ X.K ta tv f):=by
 intro pins s σ H D I h;refine plainObj_wpAny_Assign_Attribute (thn (hv pins s σ H _ I h) fun u s1 ⟨y,H1,I1,ry,q⟩=>thn (ha pins s1 σ H1 _ I1 q) fun ov s2 ⟨x,H2,I2,rx,a,C,dx,fs,ex,ea,c,n,l,q2⟩ => ?_) hs;subst ex;obtain rfl:ov=Value.ref a:=rx;exact XC I2 ea c n l ry fun s3 I3=>⟨σ,_,I3,q2⟩
theorem qM {pl : Sem Bool} {m : Str} {apos : Pos} {args : List Expr} {pins : List (Addr × Obj)} {s : Shared} {σ : St} {H : Hp} {Q : Value -> Shared -> Prop} {te : TE} (he : PE X e te) (I : Inv X pins σ H s)
 (h:te σ H fun x H1=>∃a C dx fs g,x = .ref a/\H1 a=some (.ins C dx fs)/\Cls X.K C/\Meth X.K C m g/\fs.lookup m=none /\
  ∀s1,Inv X pins σ H1 s1->wpAny (model X.prog X.w) X.A (callWith pos (.ref g) [.ref a] (backTo pos (starEach args X.env)) (backToKw pos (keywordEach [] X.env))) Q X.xe s1)
 (ht:eval (.Call (.Attribute e m apos) args [] pos) X.env=(do
  let ov <-eval e X.env
  standAt apos.atName
  let (f,first) <-holding [ov] (getMethod ov m pl)
  callWith pos f first (backTo pos (starEach args X.env)) (backToKw pos (keywordEach [] X.env)))) :
 wpAny (model X.prog X.w) X.A (eval (.Call (.Attribute e m apos) args [] pos) X.env) Q X.xe s:=by
 refine wS (pl:=pl) (thn (he pins s σ H _ I h) fun u s1 ⟨x,H1,I1,rx,a,C,dx,fs,g,ex,ea,c,k,l,q⟩ => ?_) ht;subst ex;obtain rfl:u=Value.ref a:=rx;exact P2 I1 ea c k l (q s1 I1)
end
section
variable {X:Cx} {pins:List (Addr×Obj)} {σ:St} {H:Hp} {s:Shared} {A:Around} {E:Value->Shared->Prop} {Q:Value->Shared->Prop} {c:Value} {b:Bool}
inductive TyOf (K:PySem.W.Frag) (H:Hp):V->Value->Prop where
 | non:TyOf K H .non (.type "NoneType")
 | bl (x:Bool):TyOf K H (.bl x) (.type "bool")
 | int (i:Int):TyOf K H (.int i) (.type "int")
 | str (x:Str):TyOf K H (.str x) (.type "str")
 | flt (x:UInt64):TyOf K H (.flt x) (.type "float")
 | lst {a:Addr} {xs:List V} (e:H a=some (.lst xs)):TyOf K H (.ref a) (.type "list")
 | frz {a:Addr} {o:Obj} {xs:List V} (e:H a=some (.frz o (.lst xs))):TyOf K H (.ref a) (.type "list")
 | tup {a:Addr} {xs:List V} (e:H a=some (.tup xs)):TyOf K H (.ref a) (.type "tuple")
 | dK {a:Addr} {kvs:List (Key×V)} (e:H a=some (.dK kvs)):TyOf K H (.ref a) (.type "dict")
 | dT {a:Addr} {kvs:List (List Key×V)} (e:H a=some (.dT kvs)):TyOf K H (.ref a) (.type "dict")
 | ins {a C dx : Addr} {fs : List (Str × V)} (e : H a = some (.ins C dx fs)) (cl : Cls K C) (ha : PySem.W.findIn K (.ref C) "__class__" = some (some (.builtin "object.__class__")))
  (hn:PySem.W.specialIn K (.builtin "object.__class__") "__get__" = some (some (.builtin "getset_descriptor.__get__"))) (htk:PySem.W.takesIn K (.builtin "object.__class__")=some true)
  (hm:PySem.W.mroIn K C (.type "object")=some true):TyOf K H (.ref a) (.ref C)
end
end L2
namespace L2
open PySem PySem.Spec PyProof.Rows
structure Room (k:Nat) (A:Around):Prop where
 hd:A.handled=none
 dp:A.depth+3*k+5<recursionLimit
 un:A.units+16*k+200<cLine
theorem Room.mono{j k:Nat}{A:Around}(r:Room k A)(h:j<=k):Room j A:=⟨r.hd,by have:=r.dp;omega,by have:=r.un;omega⟩
theorem Room.deeper{k:Nat}{A:Around}(r:Room (k+1) A)(env:Env):Room k (A.deeper env) :=
 ⟨r.hd,by have:=r.dp;show A.depth+1+3*k+5<_;omega,by have:=r.un;show A.units+3+16*k+200<_;omega⟩
theorem Room.in1{k:Nat}{A:Around}(r:Room (k+1) A):Room k A.in1:=
 ⟨r.hd,by have:=r.dp;show A.depth+3*k+5<_;omega,by have:=r.un;show A.units+1+16*k+200<_;omega⟩
theorem WX{A:Around}{C:Addr}{us:List Value}{kw:List (Str×Value)}:(A.under (.builtin "type.__call__" ⟨.ref C::us,kw⟩)).depth=A.depth+1:=by
 first | rfl | simp [Around.under,Code.weight,Code.isCreation,Code.isGuard,Code.isCaller,Code.frames,Code.isFrame,guardIds]
theorem XH{A:Around}{C:Addr}{us:List Value}{kw:List (Str×Value)}:(A.under (.builtin "type.__call__" ⟨.ref C::us,kw⟩)).units=A.units+1:=by
 first | rfl | simp [Around.under,Code.cUnits,Code.frames,Code.isFrame]
theorem Room.make{k:Nat}{A:Around}(r:Room (k+1) A)(C:Addr)(us:List Value)(kw:List (Str×Value)):Room k (A.under (.builtin "type.__call__" ⟨.ref C::us,kw⟩)) :=
 ⟨r.hd,by have:=r.dp;rw [WX];omega,by have:=r.un;rw [XH];omega⟩
theorem Room.depth{k:Nat}{A:Around}(r:Room k A):A.depth<recursionLimit:=by have:=r.dp;omega
theorem Room.units{k:Nat}{A:Around}(r:Room k A):A.units+64<cLine:=by have:=r.un;omega
def tNil:TA:=fun _ H Q=>Q [] H
def JV(ta:TE)(tr:TA):TA:=fun σ H Q=>ta σ H fun x H1=>tr σ H1 fun xs H2=>Q (x::xs) H2
section
variable {X:Cx} {e:Expr} {es:List Expr} {te:TE} {t:TA} {pos:Pos}
theorem KJ:PA X [] tNil:=fun _ _ _ _ H Q I h=>Calls.spliced_nil ⟨[],H,I, .nil,h⟩
theorem HH(ha:PE X e te)(hr:PA X es t)(hs:starEach (e::es) X.env=(false,eval e X.env)::starEach es X.env:=by rfl):PA X (e::es) (JV te t):=by
 intro pos pins s σ H Q I h;rw [hs];show wpAny _ _ (spliced ((false,eval e X.env)::backTo pos (starEach es X.env))) _ _ s;refine Calls.spliced_cons (thn (ha pins s σ H _ I h) fun u s1 ⟨x,H1,I1,r1,q1⟩ => ?_);exact thn (hr pos pins s1 σ H1 _ I1 q1) fun us s2 ⟨xs,H2,I2,r2,q2⟩=>⟨x::xs,H2,I2, .cons r1 r2,q2⟩
def sZ(t:TA):TE:=fun σ H Q=>t σ H fun xs H1=>xs.length<=sizeLine/\∀p,H1 p=none->Q (.ref p) (upd H1 p (.tup xs))
def x6(t:TA):TE:=fun σ H Q=>t σ H fun xs H1=>xs.length<=sizeLine/\∀p,H1 p=none->Q (.ref p) (upd H1 p (.lst xs))
theorem dI{x1}(h:PA X es t):PE X (.Tuple es x1 pos) (sZ t):=by
 intro pins s σ H Q I hq;refine wpAny_Tuple_spliced (thn (h pos pins s σ H _ I hq) fun us s1 ⟨xs,H1,I1,r,z,q⟩=>⟨by rw [<-r.length];exact z,?_⟩);have hf:H1 s1.heap.objs.size=none:=I1.hok.fresh (AA _);refine ⟨.ref s1.heap.objs.size,upd H1 s1.heap.objs.size (.tup xs),I1.laid (t':=s1.toks) (fun b u e=>A3 _ e) (AA _) ?_,rfl,q _ hf⟩;exact ⟨z,us,r,⟨_,AW _ rfl,rfl,_,rfl⟩⟩
theorem sG(h:PA X es t):PE X (.List es pos) (x6 t):=by
 intro pins s σ H Q I hq;refine wpAny_List_spliced (thn (h pos pins s σ H _ I hq) fun us s1 ⟨xs,H1,I1,r,z,q⟩=>⟨by rw [<-r.length];exact z,?_⟩);have hf:H1 s1.heap.objs.size=none:=I1.hok.fresh (AA _);refine ⟨.ref s1.heap.objs.size,upd H1 s1.heap.objs.size (.lst xs),I1.laid (t':=s1.toks) (fun b u e=>A3 _ e) (AA _) ?_,rfl,q _ hf⟩;exact ⟨z,us,0,r,AW _ rfl⟩
end
abbrev Sp:=List V->Hp->VK->XK->Prop
abbrev CXT:=List Env->Hp->Shared->XK->Value->Shared->Prop
structure Env0 (P:Program) (w:World) (K:PySem.W.Frag) (mg:Str->Option Value) (base:Heap) (A:Around) (outer:List Env) (s:Shared) (H:Hp):Prop where
 frames:A.frames=some outer
 mod:Mod K mg base
 bs:∀b o,base.get? b=some o->s.heap.get? b=some o/\H b=none
 bsz:base.objs.size<=s.heap.objs.size
 funs:s.heap.FunFrames base outer
 frf:∀b ∈ frs outer,H b=none
 hok:HOk P w H s.heap
 bare:AllBare s.gens
 tb:∀p ∈ J6 K,∃ps,H p=some (.tbl ps)
def CE(outer:List Env)(P:Program)(w:World)(H:Hp)(s:Shared)(Q:VK)(u:Value)(s':Shared):Prop:=
 ∃v H',s'.os=s.os/\AllBare s'.gens/\Un (frs outer) [] H H' s.heap s'.heap/\HOk P w H' s'.heap/\RelV v u/\Q v H'
def CR(CX:CXT)(outer:List Env)(P:Program)(w:World)(H:Hp)(s:Shared)(Q:VK)(E:XK)(r:Result)(s':Shared):Prop:=
 match r with
 | .ok (.ret u)=>CE outer P w H s Q u s'
 | .ok _=>False
 | .error e=>CX outer H s E e s'
structure FnOk (P:Program) (w:World) (K:PySem.W.Frag) (mg:Str->Option Value) (base:Heap) (CX:CXT) (k:Nat) (f:Addr) (fd:FuncData) (ps:List Str) (sp:Sp):Prop where
 len:∀vs H Q E,sp vs H Q E->vs.length=ps.length
 run:∀(A:Around) (outer:List Env) (s:Shared) (H:Hp) (args:Args) (us:List Value) (vs:List V) (Q:VK) (E:XK),Room k A->Env0 P w K mg base A outer s H->BindsTo s fd args (ps.zip us)->Vals vs us->sp vs H Q E ->
  codeAny (model P w) A (.call (.ref f) args) (CR CX outer P w H s Q E) s
theorem FnOk.imp {P : Program} {w : World} {K : PySem.W.Frag} {mg : Str -> Option Value} {base : Heap} {CX : CXT} {k : Nat} {f : Addr} {fd : FuncData} {ps : List Str} {sp sp' : Sp} (F : FnOk P w K mg base CX k f fd ps sp)
 (h:∀vs H Q E,sp' vs H Q E->sp vs H Q E):FnOk P w K mg base CX k f fd ps sp' :=
 ⟨fun vs H Q E q=>F.len vs H Q E (h _ _ _ _ q),fun A outer s H args us vs Q E hr he hb hv hs=>F.run A outer s H args us vs Q E hr he hb hv (h _ _ _ _ hs)⟩
theorem Env0.make {P : Program} {w : World} {K : PySem.W.Frag} {mg : Str -> Option Value} {base : Heap} {A : Around} {outer : List Env} {s : Shared} {H : Hp} (e : Env0 P w K mg base A outer s H) (C : Addr) (us : List Value) (kw : List (Str × Value)) :
 Env0 P w K mg base (A.under (.builtin "type.__call__" ⟨.ref C::us,kw⟩)) outer s H:=⟨by first | exact e.frames | (simpa [Around.under,Code.envs,Code.isFrame,pushEnvs] using e.frames),e.mod,e.bs,e.bsz,e.funs,e.frf,e.hok,e.bare,e.tb⟩
theorem Env0.in1 {P : Program} {w : World} {K : PySem.W.Frag} {mg : Str -> Option Value} {base : Heap} {A : Around} {outer : List Env} {s : Shared} {H : Hp} (e : Env0 P w K mg base A outer s H) :
 Env0 P w K mg base A.in1 outer s H:=⟨e.frames,e.mod,e.bs,e.bsz,e.funs,e.frf,e.hok,e.bare,e.tb⟩
section
variable {X:Cx} {pins:List (Addr×Obj)} {σ:St} {H:Hp} {s s':Shared}
theorem Inv.env0(I:Inv X pins σ H s):Env0 X.prog X.w X.K X.mg X.base X.A X.stack s H:=
 ⟨I.ok.frames,I.ok.mod,I.bs,BH I.ok.bsz I.sz,I.stack,I.stkFree,I.hok,I.bare,I.tb⟩
theorem Inv.after{Q:VK}{u:Value}(I:Inv X pins σ H s)(h:CE X.stack X.prog X.w H s Q u s'):EP X pins σ Q u s':=by
 obtain ⟨v,H',os,bare,un,hok,r,q⟩:=h;obtain ⟨hh,g,d,t,os'⟩:=s';obtain rfl:os'=s.os:=os;exact ⟨v,H',I.call (h':=hh) (g':=g) (d':=d) (t':=t) (ch:= []) un hok bare (fun b z=>absurd z (by simp)),r,q⟩
end
def V3(sp:Sp)(dvs:List V)(E:XK)(t:TA):TE:=fun σ H Q=>t σ H fun vs H1=>sp (vs++dvs) H1 Q E
def jS(C:Addr)(m:Str)(sp:Sp)(dvs:List V)(E:XK)(ta:TE)(t:TA):TE:=fun σ H Q=>ta σ H fun x H1=>∃a dx fs,x = .ref a/\H1 a=some (.ins C dx fs)/\fs.lookup m=none /\
 t σ H1 fun vs H2=>sp (x::(vs++dvs)) H2 Q E
def qD(C:Addr)(sp:Sp)(dvs:List V)(E:XK)(t:TA):TE:=fun σ H Q=>t σ H fun vs H1=>∀x dx,H1 x=none->H1 dx=none->dx≠x ->
 sp (.ref x::(vs++dvs)) (upd (upd H1 dx (.own x)) x (.ins C dx [])) (fun v H2=>v = .non/\Q (.ref x) H2) E
def Binds(K:PySem.W.Frag)(fd:FuncData)(ps:List Str)(ds:List Value):Prop:=
 ∀(s:Shared) (us:List Value),K.In s.heap->(us++ds).length=ps.length->BindsTo s fd ⟨us,[]⟩ (ps.zip (us++ds))
theorem Binds.all{K:PySem.W.Frag}{fd:FuncData}{ps:List Str}(h:∀us:List Value,us.length=ps.length->bindArgs fd ⟨us,[]⟩=pure (ps.zip us)):Binds K fd ps []:=fun s us _ hl=>by
 rw [DH] at hl ⊢
 exact .of_eq (h us hl)
def NM(CX:CXT)(X:Cx)(E:XK):Prop:=∀(pins:List (Addr×Obj)) (σ:St) (H:Hp) (s:Shared) (e:Value) (s':Shared),Inv X pins σ H s->CX X.stack H s E e s'->X.xe e s'
section
variable {X:Cx} {CX:CXT} {k:Nat} {f C:Addr} {fd:FuncData} {ps:List Str} {sp:Sp} {dvs:List V} {ds:List Value} {E:XK} {x m:Str} {p pos apos:Pos} {e o:Expr} {es:List Expr} {ta:TE} {t:TA}
theorem jZ {pins : List (Addr × Obj)} {σ : St} {H : Hp} {s : Shared} {Q : VK} {us : List Value} {vs : List V} (F : FnOk X.prog X.w X.K X.mg X.base CX k f fd ps sp) (hr : Room k X.A) (hb : Binds X.K fd ps ds) (hd : Vals dvs ds) (hx : NM CX X E)
 (I:Inv X pins σ H s) (r:Vals vs us) (h:sp (vs++dvs) H Q E):wpAny (model X.prog X.w) X.A (call (.ref f) us) (EP X pins σ Q) X.xe s:=by
 have r2:Vals (vs++dvs) (us++ds):=r.append hd;have hl:(us++ds).length=ps.length:=by rw [<-r2.length];exact F.len _ _ _ _ h
 refine wpAny_call (dC (F.run X.A X.stack s H ⟨us,[]⟩ (us++ds) (vs++dvs) Q E hr I.env0 (hb s us I.kIn hl) r2 h) fun r s' hq=> ?_)
 cases r with
 | error e=>exact hx pins σ H s e s' I hq
 | ok fl=>
  cases fl with
  | ret u=>exact I.after hq
  | next=>exact False.elim hq
  | brk=>exact False.elim hq
  | cont=>exact False.elim hq
theorem mS (F : FnOk X.prog X.w X.K X.mg X.base CX k f fd ps sp) (hr : Room k X.A) (hg : Gl X x) (hm : X.mg x = some (.ref f)) (hk : PySem.W.keepIn X.K (.ref f) = true) (hb : Binds X.K fd ps ds) (hd : Vals dvs ds) (hx : NM CX X E)
 (ha:PA X (e::es) t) (hdb:(x==("__debug__" : Str))=false:=by decide) (he:starEach (e::es) X.env=(false,eval e X.env)::starEach es X.env:=by rfl) (hpl:(backTo pos (starEach es X.env)).any (·.1)=false:=by rfl) :
 PE X (.Call (.Name x p) (e::es) [] pos) (V3 sp dvs E t):=by
 intro pins s σ H Q I h;refine FO (SX I hg hm ?_ hdb);refine RN (h₀:=X.base) I.ok.mod.kin hk (thn (ha pos pins s σ H _ I h) fun us s1 ⟨vs,H1,I1,r,q⟩=>⟨I1.kIn,?_⟩) he hpl;exact jZ F hr hb hd hx I1 r q
theorem aN {pl : Sem Bool} (he : PE X o ta) (c : Cls X.K C) (hm : Meth X.K C m f) (F : FnOk X.prog X.w X.K X.mg X.base CX k f fd ps sp) (hr : Room k X.A) (hb : Binds X.K fd ps ds) (hd : Vals dvs ds) (hx : NM CX X E) (ha : PA X (e :: es) t)
 (hst:starEach (e::es) X.env=(false,eval e X.env)::starEach es X.env:=by rfl) (hpl:(backTo pos (starEach es X.env)).any (·.1)=false:=by rfl)
 (ht:eval (.Call (.Attribute o m apos) (e::es) [] pos) X.env=(do
  let ov <-eval o X.env
  standAt apos.atName
  let (f,first) <-holding [ov] (getMethod ov m pl)
  callWith pos f first (backTo pos (starEach (e::es) X.env)) (backToKw pos (keywordEach [] X.env))):=by rfl) :
 PE X (.Call (.Attribute o m apos) (e::es) [] pos) (jS C m sp dvs E ta t):=by
 intro pins s σ H Q I h;refine wS (pl:=pl) (thn (he pins s σ H _ I h) fun u s1 ⟨x,H1,I1,rx,a,dx,fs,ex,ea,l,q⟩ => ?_) ht;subst ex;obtain rfl:u=Value.ref a:=rx;refine P2 I1 ea c hm l ?_;refine RN (first:= [.ref a]) (h₀:=X.base) I.ok.mod.kin hm.kp (thn (ha pos pins s1 σ H1 _ I1 q) fun us s2 ⟨vs,H2,I2,r,q2⟩=>⟨I2.kIn,?_⟩) hst hpl;exact jZ (us:= .ref a::us) (vs:= .ref a::vs) F hr hb hd hx I2 (.cons rfl r) q2
structure Mk (K:PySem.W.Frag) (C f:Addr):Prop where
 makes:PySem.W.makesIn K C=true
 init:PySem.W.findIn K (.ref C) "__init__" = some (some (.ref f))
 fn:PySem.W.isFn K (.ref f)=true
 kp:PySem.W.keepIn K (.ref C)=true
theorem kC {pins : List (Addr × Obj)} {σ : St} {H : Hp} {s : Shared} {Q : VK} {us : List Value} {vs : List V} (M : Mk X.K C f) (F : FnOk X.prog X.w X.K X.mg X.base CX k f fd ps sp) (hr : Room (k + 1) X.A) (hb : Binds X.K fd ps ds) (hd : Vals dvs ds)
 (hx:NM CX X E) (I:Inv X pins σ H s) (r:Vals vs us)
 (h:∀x dx,H x=none->H dx=none->dx≠x->sp (.ref x::(vs++dvs)) (upd (upd H dx (.own x)) x (.ins C dx [])) (fun v H2=>v = .non/\Q (.ref x) H2) E) :
 wpAny (model X.prog X.w) X.A (call (.ref C) us) (EP X pins σ Q) X.xe s:=by
 have hq:=h (s.heap.objs.size+1) s.heap.objs.size (I.hok.fresh (L7 _)) (I.hok.fresh (AA _)) (D9 (IV _));have I2:=Inv.made (C:=C) I;have r2:Vals (V.ref (s.heap.objs.size+1)::(vs++dvs)) (Value.ref (s.heap.objs.size+1)::(us++ds)):= .cons rfl (r.append hd)
 have hl:(Value.ref (s.heap.objs.size+1)::us++ds).length=ps.length:=by
  have e:=r2.length;rw [F.len _ _ _ _ hq] at e
  exact e.symm
 refine wpAny_call (iK (f:=f) I.kIn M.makes M.init (E9.mp M.fn) (dC (F.run _ X.stack _ _ ⟨Value.ref (s.heap.objs.size+1)::us,[]⟩ (Value.ref (s.heap.objs.size+1)::(us++ds)) _ _ E (hr.make C us [])
  (I2.env0.make C us []) (hb _ (Value.ref (s.heap.objs.size+1)::us) I2.kIn hl) r2 hq) fun r s' hq' => ?_))
 cases r with
 | error e=>exact hx pins σ _ _ e s' I2 hq'
 | ok fl=>
  cases fl with
  | ret u=>
   obtain ⟨v,H',I3,rv,ev,q3⟩:=I2.after hq';subst ev
   exact ⟨rv,⟨V.ref (s.heap.objs.size+1),H',I3,rfl,q3⟩⟩
  | next=>exact False.elim hq'
  | brk=>exact False.elim hq'
  | cont=>exact False.elim hq'
theorem kW (M : Mk X.K C f) (F : FnOk X.prog X.w X.K X.mg X.base CX k f fd ps sp) (hr : Room (k + 1) X.A) (hg : Gl X x) (hm : X.mg x = some (.ref C)) (hb : Binds X.K fd ps ds) (hd : Vals dvs ds) (hx : NM CX X E)
 (ha:PA X (e::es) t) (hdb:(x==("__debug__" : Str))=false:=by decide) (he:starEach (e::es) X.env=(false,eval e X.env)::starEach es X.env:=by rfl) (hpl:(backTo pos (starEach es X.env)).any (·.1)=false:=by rfl) :
 PE X (.Call (.Name x p) (e::es) [] pos) (qD C sp dvs E t):=by
 intro pins s σ H Q I h;refine FO (SX I hg hm ?_ hdb);refine RN (h₀:=X.base) I.ok.mod.kin M.kp (thn (ha pos pins s σ H _ I h) fun us s1 ⟨vs,H1,I1,r,q⟩=>⟨I1.kIn,?_⟩) he hpl;exact kC M F hr hb hd hx I1 r q
end
def PK(X:Cx)(kws:List Keyword)(t:TA):Prop:=
 ∀(pos:Pos) (pins:List (Addr×Obj)) (s:Shared) (σ:St) (H:Hp) (Q:List V->Hp->Prop),Inv X pins σ H s->t σ H Q->wpAny (model X.prog X.w) X.A (evalAll ((backToKw pos (keywordEach kws X.env)).map (·.2))) (AP X pins σ Q) X.xe s
section
variable {X:Cx} {CX:CXT} {k:Nat} {f C:Addr} {fd:FuncData} {ps ks:List Str} {sp:Sp} {E:XK} {x m:Str} {p pos apos kpos:Pos} {e o:Expr} {es:List Expr} {kws:List Keyword} {te ta:TE} {t tk:TA} {nm:Option Str}
theorem vJ:PK X [] tNil:=fun _ _ _ _ H Q I h=>wpAny_evalAll_nil ⟨[],H,I, .nil,h⟩
theorem pM(ha:PE X e te)(hr:PK X kws t):PK X (⟨nm,e,kpos⟩::kws) (JV te t):=by
 intro pos pins s σ H Q I h;show wpAny _ _ (evalAll ((do let v <-eval e X.env;standAt pos;pure v)::(backToKw pos (keywordEach kws X.env)).map (·.2))) _ _ s;refine wpAny_evalAll_cons (A5 (thn (ha pins s σ H _ I h) fun u s1 ⟨x,H1,I1,r1,q1⟩=>A5 (XZ (AR ?_))));exact thn (hr pos pins s1 σ H1 _ I1 q1) fun us s2 ⟨xs,H2,I2,r2,q2⟩=>⟨x::xs,H2,I2, .cons r1 r2,q2⟩
structure KBinds (K:PySem.W.Frag) (fd:FuncData) (ps ks:List Str) (g:List Value->List Value->List Value) (gV:List V->List V->List V):Prop where
 to:∀(s:Shared) (us ws:List Value),K.In s.heap->(g us ws).length=ps.length->BindsTo s fd ⟨us,ks.zip ws⟩ (ps.zip (g us ws))
 rel:∀ {vs:List V} {us:List Value} {zs:List V} {ws:List Value},Vals vs us->Vals zs ws->Vals (gV vs zs) (g us ws)
variable {g:List Value->List Value->List Value} {gV:List V->List V->List V}
end
structure FnScope (N P:List Str) (sc:Scope):Prop where
 kind:sc.kind = .function
 co:sc.isCoroutine=false
 gen:sc.isGenerator=false
 nd:N.Nodup
 pre:N.take P.length=P
 par:∀x ∈ P,sc.names.lookup x=some .local\/sc.names.lookup x=some .cell
 nofree:∀y ∈ sc.names,y.2 ≠ .free
theorem QT{kindOf:Str->Option NameKind}{x:Str}:∀ {binds:List (Str×Value)} {m:Str->Option Value},(∀v,(x,v) ∉ binds)->bindL kindOf binds m x=m x
 | [],_,_=>rfl
 | (n,v)::r,m,h=>by
  unfold bindL;rw [QT fun w hw=>h w (List.mem_cons_of_mem _ hw)]
  split
  . have:x≠n:=by rintro rfl;exact h v BU
    simp [this]
  . rfl
theorem QR{kindOf:Str->Option NameKind}{x:Str}:∀ {binds:List (Str×Value)} {m:Str->Option Value},(∀v,(x,v) ∉ binds)->bindC kindOf binds m x=m x
 | [],_,_=>rfl
 | (n,v)::r,m,h=>by
  unfold bindC;rw [QR fun w hw=>h w (List.mem_cons_of_mem _ hw)]
  split
  . rfl
  . have:x≠n:=by rintro rfl;exact h v BU
    simp [this]
theorem RL {kindOf : Str -> Option NameKind} {x : Str} {v : Value} : ∀ {P : List Str} {vs : List Value} {i : Nat} {m : Str -> Option Value}, P.Nodup -> P[i]? = some x -> vs[i]? = some v -> kindOf x = some .local ->
 bindL kindOf (P.zip vs) m x=some v
 | [],_,_,_,_,h,_,_=>by simp at h
 | _::_,[],_,_,_,_,h,_=>by simp at h
 | p::P,w::vs,0,m,nd,h1,h2,hk=>by
  simp at h1 h2;subst h1;subst h2
  show bindL kindOf ((p,w)::P.zip vs) m p=_;unfold bindL;rw [QT fun v hv=>(List.nodup_cons.mp nd).1 (List.of_mem_zip hv).1,if_pos hk]
  simp
 | p::P,w::vs,i+1,m,nd,h1,h2,hk=>by
  show bindL kindOf ((p,w)::P.zip vs) m x=_;unfold bindL;exact RL (i:=i) (List.nodup_cons.mp nd).2 (by simpa using h1) (by simpa using h2) hk
theorem RH {kindOf : Str -> Option NameKind} {x : Str} {v : Value} : ∀ {P : List Str} {vs : List Value} {i : Nat} {m : Str -> Option Value}, P.Nodup -> P[i]? = some x -> vs[i]? = some v -> kindOf x ≠ some .local ->
 bindC kindOf (P.zip vs) m x=some v
 | [],_,_,_,_,h,_,_=>by simp at h
 | _::_,[],_,_,_,_,h,_=>by simp at h
 | p::P,w::vs,0,m,nd,h1,h2,hk=>by
  simp at h1 h2;subst h1;subst h2
  show bindC kindOf ((p,w)::P.zip vs) m p=_;unfold bindC;rw [QR fun v hv=>(List.nodup_cons.mp nd).1 (List.of_mem_zip hv).1,if_neg hk]
  simp
 | p::P,w::vs,i+1,m,nd,h1,h2,hk=>by
  show bindC kindOf ((p,w)::P.zip vs) m x=_;unfold bindC;exact RH (i:=i) (List.nodup_cons.mp nd).2 (by simpa using h1) (by simpa using h2) hk
def start(N:List Str)(vs:List V):St:=vs.map some++List.replicate (N.length - vs.length) none
def OF(CX:CXT)(P:Program)(w:World)(K:PySem.W.Frag)(mg:Str->Option Value)(base:Heap)(N:List Str)(qual:Str)(scope:Scope)(f:Addr)(cd:Value)(A:Around)(outer:List Env)(s:Shared)(H:Hp)(E:XK):Cx where
 prog:=P
 w:=w
 K:=K
 mg:=mg
 base:=base
 A:=A.deeper (envOfC qual scope s.heap.objs.size f cd)
 N:=N
 s₀:=s
 H₀:=H
 env:=envOfC qual scope s.heap.objs.size f cd
 outer:=outer
 stack:=envOfC qual scope s.heap.objs.size f cd::outer
 ex:= []
 calm:=true
 fn:=fun _=>true
 pn:= []
 xe:=fun e s'=>wpAny (model P w) (A.deeper (envOfC qual scope s.heap.objs.size f cd)) (leaving (envOfC qual scope s.heap.objs.size f cd) e) (fun _ s''=>CX outer H s E e s'') (fun e' s''=>CX outer H s E e' s'') s'
theorem P1{sc:Scope}{n:Nat}{x:Str}(h:sc.names.lookup x=some .cell):∃c,(cellsFrom n sc.names []).lookup x=some c:=by
 have q:=r0 sc.names n [] (.inl h);exact Option.isSome_iff_exists.mp q
theorem cZ {CX : CXT} {P : Program} {w : World} {K : PySem.W.Frag} {mg : Str -> Option Value} {base : Heap} {N ps : List Str} {qual : Str} {scope : Scope} {f : Addr} {cd : Value} {A : Around} {outer : List Env} {s s1 : Shared} {H : Hp} {E : XK} {us : List Value} {vs : List V}
 (S:FnScope N ps scope) (hd:A.handled=none) (e0:Env0 P w K mg base A outer s H) (hl:vs.length=ps.length) (r:Vals vs us)
 (x:InCallC s s.heap.objs.size (bindL (envOfC qual scope s.heap.objs.size f cd).kindOf (ps.zip us) fun _=>none) (cellsFrom (s.heap.objs.size+1) scope.names []) (bindC (envOfC qual scope s.heap.objs.size f cd).kindOf (ps.zip us) fun _=>none) s1) :
 Inv (OF CX P w K mg base N qual scope f cd A outer s H E) [] (start N vs) H s1:=by
 have hpl:ps.length<=N.length:=by have:=LX List.length S.pre;rw [DK] at this;omega
 obtain ⟨h1,tk,rfl,hk⟩:=x.done;have noA:∀b:Addr,b ∉ (OF CX P w K mg base N qual scope f cd A outer s H E).ex:=fun b z=>absurd (show b ∈ ([]:List Addr) from z) (by simp)
 refine ⟨⟨e0.mod,S.kind,rfl,rfl,AA _,fun y z c h1 h2=> ?_,fun y hy=> ?_,fun y c _ h=> ?_,fun _=>hd,A04 e0.frames, .inr ⟨rfl,rfl⟩,fun b z=>absurd z (noA b),e0.bs,e0.bsz,fun b _ _=>noA b,fun b z=>absurd z (noA b),e0.funs,e0.frf,e0.tb⟩,
  rfl,e0.bare,Un.kept hk,⟨_,x.toInCall.ns,fun i y v h1 h2 h3=> ?_⟩,fun y c h=>⟨_,x.cell y c h⟩,e0.hok.fresh (AA _),fun y c h=> ?_,fun p hp=>absurd (show p ∈ ([]:List (Addr×Obj)) from hp) (by simp),e0.hok.kept hk,?_⟩
 . exact name_of_addr x.apart (ES h1) (ES h2)
 . have hy:scope.names.lookup y=some .cell\/scope.names.lookup y=some .free:=hy;rcases hy with hy | hy
   . exact P1 hy
   . exact absurd rfl (S.nofree _ (ES hy))
 . exact HY (x.above y c (ES h))
 . have hi : i < vs.length := by
    unfold start at h2
    by_cases hi:i<vs.length
    . exact hi
    . rw [AB (by simpa using hi)] at h2
      rw [DX] at h2
      split at h2 <;> cases h2
   have ha:vs[i]? = some v:=by
    unfold start at h2
    rw [AG (by simpa using hi),B8] at h2
    cases e:vs[i]? with
    | none=>rw [e] at h2;cases h2
    | some a=>rw [e] at h2;cases h2;rfl
   obtain ⟨u,hu,rv⟩:=r.get ha
   have hp:ps[i]? = some y:=by
    rw [<-S.pre,kS (by omega)];exact h1
   have ndP:ps.Nodup:=by rw [<-S.pre];exact S.nd.sublist (List.take_sublist _ _)
   refine ⟨u,rv,?_⟩;rcases S.par y (AJ hp) with k | k
   . exact .inl ⟨k,RL ndP hp hu k⟩
   . obtain ⟨c,e⟩:=P1 (n:=s.heap.objs.size+1) k;refine .inr ⟨.inl k,c,e,?_⟩;have q:=x.cell y c e;rw [RH ndP hp hu (by show scope.names.lookup y≠_;rw [k];decide)] at q
     exact q
 . exact e0.hok.fresh (HY (x.above y c (ES h)))
 . unfold start;show _=N.length;rw [List.length_append,List.length_map,List.length_replicate];omega
theorem qE {CX : CXT} {P : Program} {w : World} {K : PySem.W.Frag} {mg : Str -> Option Value} {base : Heap} {k : Nat} {f : Addr} {name qual : Str} {params : Arguments} {body : List Stmt} {scope : Scope} {dV kV doc pm cdv ct oc : Value} {an od : Option Addr}
 {osl:Array (Option Value)} {N ps:List Str} {sp:Sp} (lk:K.lookup f=some ⟨oc,od, .func (PySem.W.fnOf name qual params body scope dV kV doc pm an cdv ct),osl⟩) (hcd:PySem.W.codeIn K cdv qual=true) (S:FnScope N ps scope)
 (len:∀vs H Q E,sp vs H Q E->vs.length=ps.length)
 (hbody:∀(A:Around) (outer:List Env) (s:Shared) (H:Hp) (vs:List V) (Q:VK) (E:XK),Room k (A.deeper (envOfC qual scope s.heap.objs.size f cdv))->sp vs H Q E ->
  ∃t,PSs (OF CX P w K mg base N qual scope f cdv A outer s H E) body t/\t {nx:=fun _ H'=>Q .non H',rt:=Q} (start N vs) H) :
 FnOk P w K mg base CX (k+1) f (PySem.W.fnOf name qual params body scope dV kV doc pm an cdv ct) ps sp:=by
 refine ⟨len,fun A outer s H args us vs Q E hr e0 hb r hsp=> ?_⟩;have hl:=len _ _ _ _ hsp;have KX:K.In s.heap:=e0.mod.kin.keeps fun b o e=>(e0.bs b o e).1;have lim:s.heap.NoLimit:=e0.mod.nolimit.keeps fun b o e=>(e0.bs b o e).1
 have hkind:∀y ∈ ps.zip us,scope.names.lookup y.1=some .local\/(scope.names.lookup y.1=some .cell/\((cellsFrom (s.heap.objs.size+1) scope.names []).lookup y.1).isSome=true):=fun ⟨n,v⟩ hy=>by
  rcases S.par n (List.of_mem_zip hy).1 with q | q
  . exact .inl q
  . exact .inr ⟨q,r0 _ _ _ (.inl q)⟩
 refine codeAny_call_function hr.depth (KX _ _ lk) rfl S.co S.gen rfl (PySem.W.codeRec_of KX hcd) (hb _ _ _ _ ?_);refine wpAny_newFunctionEnv_cells S.kind hkind fun env he s1 x=> ?_;subst he;refine ⟨lim.keeps x.toInCall.keep,codeAny_func ?_⟩;obtain ⟨t,ht,hq⟩:=hbody A outer s H vs Q E (hr.deeper _) hsp;have I:Inv (OF CX P w K mg base N qual scope f cdv A outer s H E) [] (start N vs) H s1:=cZ S hr.hd e0 hl r x;refine FN (ht [] s1 (start N vs) H _ I hq) (fun fl s' hs=> ?_) fun e s' hs=>hs
 have fin:∀ {σ':St} {H':Hp} {v:V} {u:Value},Inv (OF CX P w K mg base N qual scope f cdv A outer s H E) [] σ' H' s'->RelV v u->Q v H'->CE outer P w H s Q u s' :=
  fun {σ' H' v u} J rv q=>⟨v,H',J.os,J.bare,J.base,J.hok,rv,q⟩
 cases fl with
 | ret u=>
  obtain ⟨v,σ',H',J,rv,q⟩:=hs
  exact fin J rv q
 | next=>
  obtain ⟨σ',H',J,q⟩:=hs
  exact fin (v:=V.non) (u:=Value.none) J rfl q
 | brk=>
  obtain ⟨_,_,_,q⟩:=hs
  exact False.elim q
 | cont=>
  obtain ⟨_,_,_,q⟩:=hs;exact False.elim q
end L2
namespace L2
open PySem PySem.Spec PyProof.Rows
section
variable {X:Cx} {x:Str} {p pos:Pos} {e:Expr} {es:List Expr} {t:TA} {id T:String} {r:List V->Hp->VK->Prop}
def tCB(r:List V->Hp->VK->Prop)(t:TA):TE:=fun σ H Q=>t σ H fun vs H1=>r vs H1 Q
theorem V8 (hc : JX X (.builtin id) r) (hg : Gl X x) (hm : X.mg x = none) (hv : bootBuiltins x = some (.builtin id)) (ha : PA X (e :: es) t) (hn : x ≠ "__name__" := by decide) (hdb : (x == ("__debug__" : Str)) = false := by decide)
 (he:starEach (e::es) X.env=(false,eval e X.env)::starEach es X.env:=by rfl) (hpl:(backTo pos (starEach es X.env)).any (·.1)=false:=by rfl):PE X (.Call (.Name x p) (e::es) [] pos) (tCB r t):=by
 intro pins s σ H Q I h;refine FO (IF I hg hm hv ?_ hn hdb);exact PyProof.Rows.callWith_builtin1 (thn (ha pos pins s σ H _ I h) fun us s1 ⟨vs,H1,I1,r1,q1⟩=>hc pins s1 σ H1 vs us Q I1 r1 q1) he hpl
theorem d6 (hc : JX X (.type T) r) (hg : Gl X x) (hm : X.mg x = none) (hv : bootBuiltins x = some (.type T)) (ha : PA X (e :: es) t) (hn : x ≠ "__name__" := by decide) (hdb : (x == ("__debug__" : Str)) = false := by decide)
 (he:starEach (e::es) X.env=(false,eval e X.env)::starEach es X.env:=by rfl) (hpl:(backTo pos (starEach es X.env)).any (·.1)=false:=by rfl):PE X (.Call (.Name x p) (e::es) [] pos) (tCB r t):=by
 intro pins s σ H Q I h;refine FO (IF I hg hm hv ?_ hn hdb);exact CY (thn (ha pos pins s σ H _ I h) fun us s1 ⟨vs,H1,I1,r1,q1⟩=>hc pins s1 σ H1 vs us Q I1 r1 q1) he hpl
end
end L2
namespace HT
open PySem PyProof.Rows
section
open PySem.SeqAt
open PySem.AutoSeq1 (wpAny_loadPart')
open PySem.MeetsSeq PySem.MeetsSeq2 PySem.MeetsSeq3
end
section
variable {prog:Program} {w:World} {A:Around} {E:Value->Shared->Prop} {s:Shared}
theorem cat_tup {t b : Addr} {vs ws : List Value} {Q : Value -> Shared -> Prop} (ht : IsTup s.heap t vs.toArray) (hb : IsTup s.heap b ws.toArray) (hv : vs ≠ [])
 (h1:ws = []->Q (.ref t) s) (h2:ws ≠ []->Q (.ref s.heap.objs.size) {s with heap:=s.heap.push {cls:= .type "tuple",data:= .seq (vs++ws).toArray} })
 (hsz:vs.length+ws.length<=sizeLine):wpAny (model prog w) A (binaryOp .Add (.ref t) (.ref b)) Q E s:=by
 obtain ⟨⟨cls,dd,data,sl⟩,ho,hc,n,hd⟩:=id ht;obtain ⟨⟨cls2,dd2,data2,sl2⟩,ho2,hc2,n2,hd2⟩:=id hb;simp only at hc hd hc2 hd2
 subst hc hd hc2 hd2;have e:vs.toArray++ws.toArray=(vs++ws).toArray:=by simp
 by_cases hw:ws = []
 . exact dD ⟨_, ho, rfl⟩ ⟨_, ho2, rfl⟩ kT yV N3 LY (LK _ _)
    (tuple_addW1 t b vs.toArray ws.toArray n n2 dd dd2 sl sl2 (by simpa using hv) (by simp [hw])) ⟨ho,ho2,h1 hw⟩
 . refine dD ⟨_, ho, rfl⟩ ⟨_, ho2, rfl⟩ kT yV N3 LY (LK _ _)
    (tuple_addW2 t b vs.toArray ws.toArray n n2 dd dd2 sl sl2 (by simpa using hv) (by simpa using hw) (by rw [AK,AK];exact hsz)) ⟨ho,ho2,?_⟩
   rw [e];exact h2 hw
def sIx(n d:Nat):Option Int->Nat
 | none=>d
 | some v=>if v<0 then (v+(n:Int)).toNat else min v.toNat n
theorem sIx_none(n d:Nat):sIx n d none=d:=rfl
theorem sIx_nat(n d k:Nat):sIx n d (some (k:Int))=min k n:=by
 show (if (k:Int)<0 then ((k:Int)+(n:Int)).toNat else min (k:Int).toNat n)=min k n;rw [C9 (by omega),TR]
theorem tK(n d:Nat)(hd:d<=n)(o:Option Int):sIx n d o<=n:=by
 cases o with
 | none=>exact hd
 | some v=>
  show (if v<0 then (v+(n:Int)).toNat else min v.toNat n)<=n
  by_cases hv:v<0
  . rw [CQ hv];omega
  . rw [C9 hv];exact Nat.min_le_right _ _
theorem Y3(v:Int)(n d:Nat):(if v<0 then max (v+(n:Int)) 0 else min v (n:Int))=((sIx n d (some v):Nat):Int):=by
 show (if v<0 then max (v+(n:Int)) 0 else min v (n:Int))=(((if v<0 then (v+(n:Int)).toNat else min v.toNat n):Nat):Int)
 by_cases hv:v<0
 . simp only [CQ hv];omega
 . simp only [C9 hv];omega
theorem WP(lo hi:Option Int)(n:Nat):Builtin.Slice.sliceAdjust lo hi 1 (n:Int)=(((sIx n 0 lo:Nat):Int),((sIx n n hi:Nat):Int)):=by
 have h1:¬((1:Int)<0):=by omega
 unfold Builtin.Slice.sliceAdjust;simp only [h1,if_false];refine Prod.ext ?_ ?_
 . cases lo with
   | none=>rfl
   | some v=>exact Y3 v n 0
 . cases hi with
   | none=>rfl
   | some v=>exact Y3 v n n
theorem X2(i j:Nat):Builtin.Slice.slicePlaces (i:Int) (j:Int) 1=j - i:=by
 unfold Builtin.Slice.slicePlaces;have h1:(1:Int)>0:=by omega
 simp only [h1,GW,Int.ediv_one]
 split <;> omega
theorem Q4{v:Value}{o:Option Int}{Q:Option Int->Shared->Prop}(p:IsPart v o)(h:Q o s):wpAny (model prog w) A (Builtin.Slice.slicePartIndex v) Q E s:=by
 cases p with
 | none=>exact slicePart_none h
 | int i t=>exact slicePart_int h
theorem NB {sl : Addr} {vl vu : Value} {lo hi : Option Int} {n : Nat} {Q : Int × Int × Nat -> Shared -> Prop} (hs : s.heap.IsSliceOf sl vl vu .none) (pl : IsPart vl lo) (pu : IsPart vu hi)
 (h:Q (((sIx n 0 lo:Nat):Int),1,sIx n n hi - sIx n 0 lo) s):wpAny (model prog w) A (Builtin.Slice.sliceApplied (.ref sl) (pure (n:Int))) Q E s:=by
 obtain ⟨os,hos,hcs,hds⟩:=id hs;unfold Builtin.Slice.sliceApplied Builtin.Slice.sliceFields;refine wpAny_bind (wpAny_bind (wpAny_field hos hds (x:=vl) rfl (wpAny_bind (wpAny_field hos hds (x:=vu) rfl (wpAny_bind (wpAny_field hos hds (x:= .none) rfl (wpAny_pure ?_)))))));refine wpAny_bind (slicePart_none ?_);show wpAny _ _ (if ((1:Int)==0)=true then _ else _) _ _ s;rw [if_neg (by decide)];refine wpAny_bind (Q4 pl (wpAny_bind (Q4 pu (wpAny_bind (wpAny_pure ?_)))));show wpAny _ _ (match Builtin.Slice.sliceAdjust lo hi 1 (n:Int) with | (lo,hi)=>pure (lo,(1:Int),Builtin.Slice.slicePlaces lo hi 1)) _ _ s;rw [WP lo hi n];show wpAny _ _ (pure (((sIx n 0 lo:Nat):Int),(1:Int),Builtin.Slice.slicePlaces ((sIx n 0 lo:Nat):Int) ((sIx n n hi:Nat):Int) 1)) _ _ s;rw [X2];exact wpAny_pure h
theorem iW(xs:Array Value)(i k:Nat):((List.range k).filterMap fun (m:Nat)=>xs[((i:Int)+(m:Int)*1).toNat]?).toArray=((xs.toList.drop i).take k).toArray:=by
 have e:(fun (m:Nat)=>xs[((i:Int)+(m:Int)*1).toNat]?)=fun m=>xs[i+m]? :=by
  funext m;have:((i:Int)+(m:Int)*1).toNat=i+m:=by omega
  rw [this]
 rw [e];have:=pick_run xs i k;rw [List.filterMap_map] at this
 have e2:((fun x=>xs[x]?) ∘ fun x=>i+x)=fun m=>xs[i+m]? :=rfl;rw [e2] at this
 rw [this]
theorem getItem_tuple_cut {t sl : Addr} {items : Array Value} {vl vu : Value} {lo hi : Option Int} {Q : Value -> Shared -> Prop} (ht : IsTup s.heap t items) (hs : s.heap.IsSliceOf sl vl vu .none) (pl : IsPart vl lo) (pu : IsPart vu hi)
 (hw:¬(sIx items.size 0 lo=0/\sIx items.size items.size hi=items.size))
 (h:Q (.ref s.heap.objs.size) {s with heap:=s.heap.push {cls:= .type "tuple",data:= .seq ((items.toList.drop (sIx items.size 0 lo)).take (sIx items.size items.size hi - sIx items.size 0 lo)).toArray} })
 (hsz:items.size<=sizeLine):wpAny (model prog w) A (getItem (.ref t) (.ref sl)) Q E s:=by
 have htake:sizeOk (.seq ((items.toList.drop (sIx items.size 0 lo)).take (sIx items.size items.size hi - sIx items.size 0 lo)).toArray):=by
  show ((items.toList.drop (sIx items.size 0 lo)).take (sIx items.size items.size hi - sIx items.size 0 lo)).toArray.size<=sizeLine;rw [AK,DK,EU,FV];omega
 have hj:sIx items.size items.size hi<=items.size:=tK _ _ (Nat.le_refl _) hi;obtain ⟨os,hos,hcs,hds⟩:=id hs;have hTs:s.TypeIs (.ref sl) "slice" :=⟨os,hos,hcs⟩;unfold getItem
 try with_reducible refine GV ?_
 first | refine A5 (AR ?_) | skip
 refine A5 (wpAny_sequenceKey ht.typeIs (by decide) ?_)
 refine A5 (G5 (name:=Str.ofString "__getitem__") ht.typeIs IJ
  (K1 IJ ht.typeIs entry_tuple_getitem ?_ (args_tuple_getitem _ _)))
 show wpAny _ _ (Builtin.Tuple.tupleItemsOf (.ref t) >>= _) _ _ s;refine A5 (tupleItemsOf_ ht ?_);refine A5 (wpAny_typeOf hTs ?_);rw [CQ (by decide)];refine A5 (NB hs pl pu ?_)
 have hno:¬((((sIx items.size 0 lo:Nat):Int)==0 && (1:Int)==1 && (sIx items.size items.size hi - sIx items.size 0 lo)==items.size)=true):=by
  intro q;rw [FX,FX] at q
  have q1:((sIx items.size 0 lo:Nat):Int)=0:=eq_of_beq q.1.1;have q2:sIx items.size items.size hi - sIx items.size 0 lo=items.size:=eq_of_beq q.2;exact hw ⟨by omega,by omega⟩
 show wpAny _ _ (if (((sIx items.size 0 lo:Nat):Int)==0 && (1:Int)==1 && (sIx items.size items.size hi - sIx items.size 0 lo)==items.size)=true then _ else _) _ _ s;rw [C9 hno,iW]
 first
  | exact A5 (m:=Builtin.Tuple.tupleExact _) (FD (AR ⟨_,rfl,AR h⟩) htake)
  | exact A5 (m:=Builtin.Tuple.tupleExact _) (FD (A5 (AR (AR ⟨_,rfl,AR h⟩))) htake)
  | exact A5 (A5 (m:=Builtin.Tuple.tupleExact _) (FD (AR (AR ⟨_,rfl,AR h⟩)) htake))
  | exact A5 (A5 (m:=Builtin.Tuple.tupleExact _) (FD (AR ⟨_,rfl,AR h⟩) htake))
end
end HT
namespace L2
open PySem PySem.Spec PyProof.Rows
abbrev TO:=St->Hp->(Option Int->Hp->Prop)->Prop
def PO(X:Cx)(e:Option Expr)(t:TO):Prop:=
 ∀(pins:List (Addr×Obj)) (s:Shared) (σ:St) (H:Hp) (Q:Option Int->Hp->Prop),Inv X pins σ H s->t σ H Q ->
   wpAny (model X.prog X.w) X.A (evalPart e X.env) (fun u s'=>∃o H',Inv X pins σ H' s'/\IsPart u o/\Q o H') X.xe s
def tNoPart:TO:=fun _ H Q=>Q none H
def pY(t:TE):TO:=fun σ H Q=>t σ H fun x H1=>∃i,x = .int i/\Q (some i) H1
theorem X9{ns:List Int}:∀ {us:List Value},Vals (ns.map V.int) us->IntsAre us ns:=by
 induction ns with
 | nil=>intro us r;rw [r9] at r;cases r;exact .nil
 | cons n ns ih=>
  intro us r;rw [CU] at r
  cases r with
  | cons r1 r2=>
   obtain ⟨t,e⟩:=r1;subst e;exact .cons n t (ih r2)
section
variable {X:Cx} {e:Expr} {te:TE} {lo hi:Option Expr} {tl th:TO} {pos p2:Pos}
theorem pF:PO X none tNoPart:=by
 intro pins s σ H Q I h;rw [evalPart_none];exact AR ⟨none,H,I, .none,h⟩
theorem nX(h:PE X e te):PO X (some e) (pY te):=by
 intro pins s σ H Q I hw;rw [evalPart_some];refine thn (h pins s σ H _ I hw) fun u s1 ⟨x,H1,I1,r1,q1⟩ => ?_;obtain ⟨i,rfl,q⟩:=q1;obtain ⟨t,rfl⟩:=r1;exact ⟨some i,H1,I1, .int i t,q⟩
def SlR(X:Cx)(r:V->Option Int->Option Int->Hp->VK->Prop):Prop:=
 ∀(pins:List (Addr×Obj)) (s:Shared) (σ:St) (H:Hp) (x:V) (v vl vu:Value) (lo hi:Option Int) (sl:Addr) (Q:VK),Inv X pins σ H s->RelV x v->s.heap.IsSliceOf sl vl vu .none->IsPart vl lo->IsPart vu hi->r x lo hi H Q ->
   ∃T id,typeLookup (.type T) "__getitem__" = pure (some (.builtin id))/\s.TypeIs v T/\wpAny (model X.prog X.w) X.A (getItem v (.ref sl)) (EP X pins σ Q) X.xe s
theorem SlR.or{r r':V->Option Int->Option Int->Hp->VK->Prop}(h:SlR X r)(h':SlR X r'):SlR X (fun x lo hi H Q=>r x lo hi H Q\/r' x lo hi H Q):=by
 intro pins s σ H x v vl vu lo hi sl Q I rx hs pl pu q;rcases q with q | q
 . exact h pins s σ H x v vl vu lo hi sl Q I rx hs pl pu q
 . exact h' pins s σ H x v vl vu lo hi sl Q I rx hs pl pu q
def tSl(r:V->Option Int->Option Int->Hp->VK->Prop)(te:TE)(tl th:TO):TE:=fun σ H Q=>te σ H fun x H1=>tl σ H1 fun l H2=>th σ H2 fun u H3=>r x l u H3 Q
theorem hE{r:V->Option Int->Option Int->Hp->VK->Prop}(hr:SlR X r)(he:PE X e te)(hl:PO X lo tl)(hu:PO X hi th):PE X (.Subscript e (.Slice lo hi none p2) pos) (tSl r te tl th):=by
 intro pins s σ H Q I h;refine Subscript_ (thn (he pins s σ H _ I h) fun v s1 ⟨x,H1,I1,r1,q1⟩ => ?_);refine wpAny_Slice (thn (hl pins s1 σ H1 _ I1 q1) fun vl s2 ⟨l,H2,I2,pl,q2⟩=>thn (hu pins s2 σ H2 _ I2 q2) fun vu s3 ⟨u,H3,I3,pu,q3⟩ => ?_);rw [evalPart_none];refine AR ?_;have I4:Inv X pins σ H3 {s3 with heap:=s3.heap.push {cls:= .type "slice",data:= .fields #[vl,vu, .none]} }:=I3.kept (t':=s3.toks) fun b ob q=>A3 _ q;obtain ⟨T,id,hT,ht,hg⟩:=hr pins {s3 with heap:=s3.heap.push {cls:= .type "slice",data:= .fields #[vl,vu, .none]} } σ H3 x v vl vu l u s3.heap.objs.size Q I4 r1 (Heap.IsSliceOf.new ..) pl pu q3;show wpAny (model X.prog X.w) X.A (subscriptTail e (.Slice lo hi none p2) v (.ref s3.heap.objs.size)) (EP X pins σ Q) X.xe {s3 with heap:=s3.heap.push {cls:= .type "slice",data:= .fields #[vl,vu, .none]} };exact tail_any (ops:= [.ref s3.heap.objs.size,v]) ht hT hg (by with_unfolding_all rfl)
def VL(xs:List V)(lo hi:Option Int):List V:=(xs.drop (HT.sIx xs.length 0 lo)).take (HT.sIx xs.length xs.length hi - HT.sIx xs.length 0 lo)
theorem NY(xs:List V)(lo hi:Option Int):(VL xs lo hi).length<=xs.length:=by
 unfold VL;rw [List.length_take,List.length_drop];omega
def xV(K:PySem.W.Frag):V->Option Int->Option Int->Hp->VK->Prop:=fun x lo hi H Q=>∃a xs,x = .ref a/\SqT K H a xs /\
 ¬(HT.sIx xs.length 0 lo=0/\HT.sIx xs.length xs.length hi=xs.length)/\∀p,H p=none->Q (.ref p) (upd H p (.tup (VL xs lo hi)))
theorem wD:SlR X (xV X.K):=by
 intro pins s σ H x v vl vu lo hi sl Q I rx hs pl pu h;obtain ⟨a,xs,rfl,hx,hw,q⟩:=h
 cases rx
 obtain ⟨its,r,ht,hz⟩:=I.tuple hx;have hlen:its.toArray.size=xs.length:=by rw [AK];exact r.length.symm
 refine ⟨"tuple",_,IJ.lookup,ht.typeIs,?_⟩;refine HT.getItem_tuple_cut ht hs pl pu (by rw [hlen];exact hw) ?_ (by rw [hlen];exact hz);rw [hlen];refine ⟨.ref s.heap.objs.size,_,I.laid (t':=s.toks) (o:= .tup (VL xs lo hi)) (fun b ob q=>A3 _ q) (AA _) ?_,rfl,q _ (I.hok.fresh (AA _))⟩;exact ⟨BH (NY xs lo hi) hz,_,(r.drop (HT.sIx xs.length 0 lo)).take (HT.sIx xs.length xs.length hi - HT.sIx xs.length 0 lo),IsTup.new _ _⟩
def qQ(K:PySem.W.Frag):R2:=fun x y H Q=>∃a b xs ys,x = .ref a/\y = .ref b/\SqT K H a xs/\SqT K H b ys/\xs ≠ []/\xs.length+ys.length<=sizeLine /\
 (ys = []->Q (.ref a) H)/\(ys ≠ []->∀p,H p=none->Q (.ref p) (upd H p (.tup (xs++ys))))
theorem Vals.nil_iff{xs:List V}{us:List Value}(r:Vals xs us):us = []↔xs = []:=by
 cases r with
 | nil=>simp
 | cons _ _=>simp
theorem lZ:OpR X (binaryOp .Add) (qQ X.K):=by
 intro pins s σ H x y v u Q I rx ry h;obtain ⟨a,b,xs,ys,rfl,rfl,ha,hb,hx,hz,q1,q2⟩:=h
 cases rx
 cases ry
 obtain ⟨its,r1,p1,_⟩:=I.tuple ha;obtain ⟨its2,r2,p2,_⟩:=I.tuple hb;refine HT.cat_tup p1 p2 (fun z=>hx (r1.nil_iff.mp z)) (fun z=>⟨.ref a,H,I,rfl,q1 (r2.nil_iff.mp z)⟩) (fun z=> ?_) (by rw [<-r1.length, <-r2.length];exact hz);refine ⟨.ref s.heap.objs.size,_,I.laid (t':=s.toks) (o:= .tup (xs++ys)) (fun b ob q=>A3 _ q) (AA _) ?_,rfl,q2 (fun w=>z (r2.nil_iff.mpr w)) _ (I.hok.fresh (AA _))⟩;exact ⟨by rw [B3];exact hz,_,r1.append r2,IsTup.new _ _⟩
end
end L2
namespace L2
open PySem PySem.Spec PyProof.Rows
def ixN(n:Nat)(i:Int):Option Nat:=if 0<=i then (if i<n then some i.toNat else none) else if -(n:Int)<=i then some (i+n).toNat else none
def atI{α:Type}(xs:List α)(i:Int):Option α:=(ixN xs.length i).bind fun j=>xs[j]?
theorem YH{n:Nat}{i:Int}{j:Nat}(h:ixN n i=some j):seqIndex? i n=some j/\j<n /\ -(n:Int)<=i/\i<n:=by
 unfold ixN at h
 by_cases h0:0<=i
 . rw [CQ h0] at h
   by_cases h1:i<n
   . rw [CQ h1] at h
     have e:i.toNat=j:=B9 h;exact ⟨by rw [A05 h0 h1,e],by omega,by omega,h1⟩
   . rw [C9 h1] at h;cases h
 . rw [C9 h0] at h
   by_cases h1 : -(n:Int)<=i
   . rw [CQ h1] at h
     have e:(i+n).toNat=j:=B9 h;exact ⟨by rw [zU (by omega) h1,e],by omega,h1,by omega⟩
   . rw [C9 h1] at h;cases h
theorem TL{α:Type}{xs:List α}{i:Int}{v:α}(h:atI xs i=some v):∃j,seqIndex? i xs.length=some j/\xs[j]? = some v/\j<xs.length /\ -(xs.length:Int)<=i/\i<xs.length:=by
 unfold atI at h
 cases e:ixN xs.length i with
 | none=>rw [e] at h;cases h
 | some j=>
  rw [e] at h
  obtain ⟨h1,h2,h3,h4⟩:=YH e;exact ⟨j,h1,h,h2,h3,h4⟩
theorem atI_nat{α:Type}{xs:List α}{j:Nat}{v:α}(h:xs[j]? = some v):atI xs (j:Int)=some v:=by
 have hj:j<xs.length:=(AX.mp h).1
 have e:ixN xs.length (j:Int)=some j:=by
  unfold ixN;rw [if_pos (by omega),if_pos (by omega)];simp
 unfold atI;rw [e];exact h
def RZ(b:Expr):Prop:=∀o i,subscripted b false o i=operate [o,i] (getItem o i)
def IxR(X:Cx)(r:R2):Prop:=
 ∀(value slice:Expr) (pins:List (Addr×Obj)) (s:Shared) (σ:St) (H:Hp) (x y:V) (v u:Value) (Q:VK),Inv X pins σ H s->RelV x v->RelV y u->r x y H Q ->
   subscripted slice false v u=operate [v,u] (getItem v u)->wpAny (model X.prog X.w) X.A (subscriptTail value slice v u) (EP X pins σ Q) X.xe s
def MtR(X:Cx)(id:String)(r:V->List V->Hp->VK->Prop):Prop:=
 ∀(pins:List (Addr×Obj)) (s:Shared) (σ:St) (H:Hp) (x:V) (xs:List V) (v:Value) (us:List Value) (Q:VK),Inv X pins σ H s->RelV x v->Vals xs us->r x xs H Q ->
   wpAny (model X.prog X.w) X.A (call (.builtin id) (v::us)) (EP X pins σ Q) X.xe s
section
variable {X:Cx} {a b:Expr} {ta tb:TE} {pos:Pos}
theorem IxR.or{r r':R2}(h:IxR X r)(h':IxR X r'):IxR X (fun x y H Q=>r x y H Q\/r' x y H Q):=by
 intro value slice pins s σ H x y v u Q I rx ry q hs;rcases q with q | q
 . exact h value slice pins s σ H x y v u Q I rx ry q hs
 . exact h' value slice pins s σ H x y v u Q I rx ry q hs
theorem qJ{r:R2}(hr:IxR X r)(ha:PE X a ta)(hb:PE X b tb)(hs:RZ b):PE X (.Subscript a b pos) (tOp r ta tb):=by
 intro pins s σ H Q I h;exact Subscript_ (wK ha hb I h fun v u s2 x y H2 I2 rx ry q=>hr a b pins s2 σ H2 x y v u Q I2 rx ry q (hs _ _))
def yK(K:PySem.W.Frag):R2:=fun x y H Q=>∃p xs i v,x = .ref p/\y = .int i/\SqL K H p xs/\atI xs i=some v/\Q v H
def xO(K:PySem.W.Frag):R2:=fun x y H Q=>∃p xs i v,x = .ref p/\y = .int i/\SqT K H p xs/\atI xs i=some v/\Q v H
def rIxS:R2:=fun x y H Q=>∃z i c,x = .str z/\y = .int i/\z.length<=sizeLine/\atI z.cps.toList i=some c/\Q (.str ⟨#[c]⟩) H
theorem nS:IxR X (yK X.K):=by
 intro value slice pins s σ H x y v u Q I rx ry h hs;obtain ⟨p,xs,i,z,rfl,rfl,hq,he,q⟩:=h
 cases rx
 obtain ⟨t,rfl⟩:=ry;obtain ⟨its,r,pl,hz⟩:=I.list hq;obtain ⟨j,h1,h2,h3,h4,h5⟩:=TL he;obtain ⟨w,ew,rw'⟩:=r.get h2;have hl:=r.length;have hn:=NQ;have fin:EP X pins σ Q w s:=⟨z,H,I,rw',q⟩
 by_cases h0:0<=i
 . have hj : i.toNat = j := by
    rw [A05 h0 h5] at h1
    exact B9 h1
   exact item_listR pl.isList h0 (by omega) (by rw [hj];simpa using ew) fin hs
 . have hj : (i + (its.toArray.size : Int)).toNat = j := by
    rw [zU (by omega) h4] at h1
    rw [AK, <-hl];exact B9 h1
   exact subscriptTail_builtinR (x:=w) pl.isList.typeIs slot_list_getitem.lookup
    (wpAny_getItem_list_neg (Q:=fun r s'=>r=w/\EP X pins σ Q r s') pl.isList (by omega) (by rw [AK] <;> omega) (by omega) (by rw [hj];simpa using ew) ⟨rfl,fin⟩) hs
theorem uG:IxR X (xO X.K):=by
 intro value slice pins s σ H x y v u Q I rx ry h hs;obtain ⟨p,xs,i,z,rfl,rfl,hq,he,q⟩:=h
 cases rx
 obtain ⟨t,rfl⟩:=ry;obtain ⟨its,r,pl,hz⟩:=I.tuple hq;obtain ⟨j,h1,h2,h3,h4,h5⟩:=TL he;obtain ⟨w,ew,rw'⟩:=r.get h2;have hl:=r.length;have hn:=NQ;have fin:EP X pins σ Q w s:=⟨z,H,I,rw',q⟩
 exact subscriptTail_builtinR (x:=w) pl.typeIs slot_tuple_getitem.lookup
  (getItem_tuple (j:=j) (Q:=fun r s'=>r=w/\EP X pins σ Q r s') pl (by omega) (by omega) (by rw [AK, <-hl];exact h1) (by simpa using ew) ⟨rfl,fin⟩) hs
theorem uC:IxR X rIxS:=by
 intro value slice pins s σ H x y v u Q I rx ry h hs;obtain ⟨z,i,c,rfl,rfl,hz,he,q⟩:=h;obtain ⟨t,rfl⟩:=rx;obtain ⟨t',rfl⟩:=ry;obtain ⟨j,h1,h2,h3,h4,h5⟩:=TL he;have hl:z.cps.toList.length=z.length:=by simp [Str.length]
 rw [hl] at h1 h4 h5
 have hn:=NQ
 exact tail_any (typeIs_str s z t) slot_str_getitem.lookup (getItem_str (c:=c) (by
  have e1:decide (i < -(2 ^ 63:Int))=false:=BW (by omega);have e2:decide (i≥2 ^ 63)=false:=BW (by omega);rw [e1,e2,Bool.or_false]) (by rw [h1];simpa using h2) ⟨.str ⟨#[c]⟩,H,I.tok _,⟨_,rfl⟩,q⟩) hs
def rIx(K:PySem.W.Frag):R2:=fun x y H Q=>yK K x y H Q\/xO K x y H Q\/rIxS x y H Q
theorem eU:IxR X (rIx X.K):=nS.or (uG.or uC)
theorem X6(its:List Value)(n j:Nat)(u:Value):Obj.mapSeq (·.setIfInBounds j u) {cls:= .type "list",data:= .seq its.toArray n}={cls:= .type "list",data:= .seq (its.set j u).toArray n}:=by
 simp [Obj.mapSeq]
theorem Inv.lst {pins : List (Addr × Obj)} {σ : St} {H : Hp} {s : Shared} {p : Addr} {xs : List V} (I : Inv X pins σ H s) (h : H p = some (.lst xs)) :
 ∃(its:List Value) (n:Nat),Vals xs its/\s.heap.get? p=some {cls:= .type "list",data:= .seq its.toArray n}/\xs.length<=sizeLine:=by
 obtain ⟨z,its,n,r,e⟩:=I.hok p _ h;exact ⟨its,n,r,e,z⟩
theorem Inv.lstUpd {pins : List (Addr × Obj)} {σ : St} {H : Hp} {s : Shared} {p : Addr} {xs ys : List V} {its its' : List Value} {n n' : Nat} {f : Obj -> Obj} (I : Inv X pins σ H s) (h : H p = some (.lst xs))
 (ho:s.heap.get? p=some {cls:= .type "list",data:= .seq its.toArray n}) (hf:f {cls:= .type "list",data:= .seq its.toArray n}={cls:= .type "list",data:= .seq its'.toArray n' }) (r:Vals ys its') (hz:ys.length<=sizeLine) (t:Nat) :
 Inv X pins σ (upd H p (.lst ys)) {s with heap:=s.heap.update p f,toks:=t}:=by
 have e:(s.heap.update p f).get? p=some {cls:= .type "list",data:= .seq its'.toArray n' }:=by
  rw [zZ f ho (by rw [hf] <;> rfl),hf]
 refine I.write (x:=p) (e:=p) (by rw [h];trivial) (.inl rfl) (fun b u hb q=>(Q8 _ _ (HZ hb)).trans q) ⟨_,e⟩ ?_;exact ⟨hz,its',n',r,e⟩
def rSetL:V->V->V->Hp->(Hp->Prop)->Prop:=fun o i v H Q=>∃p xs k j,o = .ref p/\i = .int k/\H p=some (.lst xs)/\ixN xs.length k=some j/\Q (upd H p (.lst (xs.set j v)))
theorem UW:xC X rSetL:=by
 intro pins s σ H o i v ov iv u Q I ro ri rv h;obtain ⟨p,xs,k,j,rfl,rfl,hp,hj,q⟩:=h
 cases ro
 obtain ⟨t,rfl⟩:=ri;obtain ⟨its,n,r,ho,hz⟩:=I.lst hp;obtain ⟨h1,h2,h3,h4⟩:=YH hj;have hl:=r.length;have hn:=NQ
 have I':Inv X pins σ (upd H p (.lst (xs.set j v))) {s with heap:=s.heap.update p (Obj.mapSeq (·.setIfInBounds j u))} :=
  I.lstUpd hp ho (X6 its n j u) (r.set rv j) (by rw [CD];exact hz) s.toks
 by_cases h0:0<=k
 . have hk : k.toNat = j := by
    rw [A05 h0 h4] at h1
    exact B9 h1
   exact PySem.W.ki_setAt ho h0 (by omega) (by rw [AK, <-hl];exact h4) (by rw [hk];exact ⟨_,I',q⟩)
 . have hk : (k + (its.toArray.size : Int)).toNat = j := by
    rw [zU (by omega) h3] at h1
    rw [AK, <-hl];exact B9 h1
   exact PySem.W.ki_setBack ho (by omega) (by rw [AK, <-hl];exact h3) (by omega) (by rw [hk];exact ⟨_,I',q⟩)
theorem SR(lo hi:Option Int)(n:Nat):(sliceBounds lo hi none n).1=((HT.sIx n 0 lo:Nat):Int)/\(sliceBounds lo hi none n).2.1=((HT.sIx n n hi:Nat):Int)/\(sliceBounds lo hi none n).2.2=1:=by
 refine ⟨?_,?_,rfl⟩
 . cases lo with
   | none=>simp [sliceBounds,HT.sIx]
   | some i=>
    simp only [sliceBounds,HT.sIx,Option.getD_none,show (1:Int)>0 by decide,GW]
    by_cases h:i<0
    . simp only [h,GW] <;> omega
    . simp only [h,dE] <;> omega
 . cases hi with
   | none=>simp [sliceBounds,HT.sIx]
   | some i=>
    simp only [sliceBounds,HT.sIx,Option.getD_none,show (1:Int)>0 by decide,GW]
    by_cases h:i<0
    . simp only [h,GW] <;> omega
    . simp only [h,dE] <;> omega
theorem QE(its:List Value)(lo hi:Option Int):slicePick its.toArray lo hi none=((its.drop (HT.sIx its.length 0 lo)).take (HT.sIx its.length its.length hi - HT.sIx its.length 0 lo)).toArray:=by
 obtain ⟨h1,h2,h3⟩:=SR lo hi its.toArray.size;unfold slicePick;rw [h1,h2,h3];simp only [sliceRange_one,pick_run,List.size_toArray] <;> rfl
def yM(K:PySem.W.Frag):V->Option Int->Option Int->Hp->VK->Prop:=fun x lo hi H Q=>∃a xs,x = .ref a/\SqL K H a xs/\∀p,H p=none->Q (.ref p) (upd H p (.lst (VL xs lo hi)))
theorem mC:SlR X (yM X.K):=by
 intro pins s σ H x v vl vu lo hi sl Q I rx hs pl pu h;obtain ⟨a,xs,rfl,hx,q⟩:=h
 cases rx
 obtain ⟨its,r,ht,hz⟩:=I.list hx;have hlen:=r.length;refine ⟨"list",_,slot_list_getitem.lookup,ht.isList.typeIs,?_⟩;refine wpAny_getItem_list_slice ht.isList hs pl pu .none (by simp) ?_ (by rw [AK] <;> omega);rw [QE, <-hlen];refine ⟨.ref s.heap.objs.size,_,I.laid (t':=s.toks) (o:= .lst (VL xs lo hi)) (fun b ob q=>A3 _ q) (AA _) ?_,rfl,q _ (I.hok.fresh (AA _))⟩;exact ⟨BH (NY xs lo hi) hz,_,0,(r.drop (HT.sIx xs.length 0 lo)).take (HT.sIx xs.length xs.length hi - HT.sIx xs.length 0 lo),AW _ rfl⟩
theorem B0:JX X (.builtin "len") (fun xs H Q=>∃p ys,xs = [.ref p]/\(SqL X.K H p ys\/SqT X.K H p ys)/\Q (.int ys.length) H):=by
 intro pins s σ H xs us Q I r h;obtain ⟨p,ys,rfl,hq,q⟩:=h;obtain ⟨u,rfl,rx⟩:=K0 r
 cases rx
 have hn:=NQ;rcases hq with hq | hq
 . obtain ⟨its,r',pl,hz⟩:=I.list hq;have hlen:=r'.length;exact Calls.call_len_list pl.isList (by simp only [AK] <;> omega) ⟨.int ys.length,H,I.tok _,⟨s.toks+1,by rw [AK,hlen]⟩,q⟩
 . obtain ⟨its,r',pl,hz⟩:=I.tuple hq;have hlen:=r'.length;exact len_tuple pl (by simp only [AK] <;> omega) ⟨.int ys.length,H,I.tok _,⟨s.toks+1,by rw [AK,hlen]⟩,q⟩
theorem HU:JX X (.type "list") (fun xs H Q=>∃p ys,xs = [.ref p]/\(SqL X.K H p ys\/SqT X.K H p ys)/\∀l,H l=none->Q (.ref l) (upd H l (.lst ys))):=by
 intro pins s σ H xs us Q I r h;obtain ⟨p,ys,rfl,hq,q⟩:=h;obtain ⟨u,rfl,rx⟩:=K0 r
 cases rx
 have fin : ∀ (its : List Value), Vals ys its -> ys.length <= sizeLine -> ∀ (h' : Heap) (c' : Nat), (∀ b o', s.heap.get? b = some o' -> h'.get? b = some o') ->
  h'.get? s.heap.objs.size=some {cls:= .type "list",dict:=none,data:= .seq its.toArray c',slots:= #[]}->EP X pins σ Q (.ref s.heap.objs.size) {s with heap:=h' }:=fun its r' hz h' c' kp e=>
  ⟨.ref s.heap.objs.size,_,I.laid (t':=s.toks) kp (AA _) (show ObjOk X.prog X.w _ h' _ (.lst ys) from ⟨hz,its,c',r',e⟩),rfl,q _ (I.hok.fresh (AA _))⟩
 rcases hq with hq | hq
 . obtain ⟨its,r',pl,hz⟩:=I.list hq;have hlen:=r'.length;obtain ⟨o,ho,hc,n,hd⟩:=pl.isList;exact call_list_seq p (.inl rfl) ho hc hd (fun h' c' kp e=>fin its r' hz h' c' kp e) (by simp only [AK] <;> omega)
 . obtain ⟨its,r',pl,hz⟩:=I.tuple hq;have hlen:=r'.length;obtain ⟨o,ho,hc,n,hd⟩:=pl;exact call_list_seq p (.inr rfl) ho hc hd (fun h' c' kp e=>fin its r' hz h' c' kp e) (by simp only [AK] <;> omega)
theorem HF:JX X (.type "tuple") (fun xs H Q=>∃p ys,xs = [.ref p]/\((SqL X.K H p ys/\∀l,H l=none->Q (.ref l) (upd H l (.tup ys)))\/(SqT X.K H p ys/\Q (.ref p) H))):=by
 intro pins s σ H xs us Q I r h;obtain ⟨p,ys,rfl,h⟩:=h;obtain ⟨u,rfl,rx⟩:=K0 r
 cases rx
 rcases h with ⟨hq,q⟩ | ⟨hq,q⟩
 . obtain ⟨its,r',pl,hz⟩:=I.list hq;have hlen:=r'.length;refine call_tuple_list pl.isList (fun h' kp=> ?_) (by simp only [AK] <;> omega);have I1:Inv X pins σ H {s with heap:=h' }:=I.kept (t':=s.toks) kp
   have I2:Inv X pins σ (upd H h'.objs.size (.tup ys)) {s with heap:=h'.push {cls:= .type "tuple",data:= .seq its.toArray} } :=
    I1.laid (t':=s.toks) (fun b o e=>A3 _ e) (AA _) (show ObjOk X.prog X.w _ _ _ (.tup ys) from ⟨hz,its,r',IsTup.new _ _⟩)
   exact ⟨.ref h'.objs.size,_,I2,rfl,q _ (I1.hok.fresh (AA _))⟩
 . obtain ⟨its,r',pl,hz⟩:=I.tuple hq;exact call_tuple_same pl ⟨.ref p,H,I,rfl,q⟩
def tyV(K:PySem.W.Frag)(T:String)(x:V)(H:Hp):Prop:=match x with
 | .str _=>T = "str"
 | .int _=>T = "int"
 | .ref p => (T = "list" /\ ∃ xs, SqL K H p xs) \/ (T = "tuple" /\ ∃ o, K.lookup p = some o /\ o.cls = .type "tuple" /\ o.dict = none) \/
  (T = "dict" /\ ((∃kvs,H p=some (.dK kvs))\/∃kvs,H p=some (.dT kvs)))\/(T = "set" /\ ∃S n,H p=some (.set S n))
 | _=>False
theorem rW {pins : List (Addr × Obj)} {σ : St} {H : Hp} {s : Shared} {T : String} {x : V} {v : Value} (I : Inv X pins σ H s) (r : RelV x v) (ty : tyV X.K T x H) :
 s.TypeIs v T/\∀a,v = .ref a->∃ob,s.heap.get? a=some ob/\ob.dict=none:=by
 cases x with
 | str z=>
  obtain ⟨t,rfl⟩:=r
  cases (show T = "str" from ty)
  exact ⟨typeIs_str s z t,fun _ e=>nomatch e⟩
 | int i=>
  obtain ⟨t,rfl⟩:=r
  cases (show T = "int" from ty)
  exact ⟨typeIs_int s i t,fun _ e=>nomatch e⟩
 | ref p=>
  cases r
  rcases ty with ⟨rfl,xs,hq⟩ | ⟨rfl,o,hk,hc,hd⟩ | ⟨rfl,hk⟩ | ⟨rfl,S,n,hk⟩
  . obtain ⟨its,_,pl,_⟩:=I.list hq;refine ⟨pl.isList.typeIs,fun a e=> ?_⟩
    cases e
    obtain ⟨o,n,e,c,hd,_⟩:=pl;exact ⟨o,e,hd⟩
  . refine ⟨⟨o,I.kIn p o hk,hc⟩,fun a e=> ?_⟩
    cases e
    exact ⟨o,I.kIn _ o hk,hd⟩
  . have z : ∃ o, s.heap.get? p = some o /\ o.ExactDict := by
     rcases hk with ⟨kvs,hk⟩ | ⟨kvs,hk⟩
     . obtain ⟨_,_,_,_,o,_,_,e,ex,_⟩:=I.hok p _ hk;exact ⟨o,e,ex⟩
     . obtain ⟨_,_,_,_,o,_,_,e,ex,_⟩:=I.hok p _ hk;exact ⟨o,e,ex⟩
    obtain ⟨o,e,ex⟩:=z;refine ⟨⟨o,e,ex.1⟩,fun a e2=> ?_⟩
    cases e2
    exact ⟨o,e,ex.2.1⟩
  . obtain ⟨o,_,_,_,e,ex,_⟩:=I.hok p _ hk;refine ⟨⟨o,e,ex.1⟩,fun a e2=> ?_⟩
    cases e2
    exact ⟨o,e,ex.2.1⟩
 | _=>exact False.elim ty
def tBM(K:PySem.W.Frag)(T:String)(r:V->List V->Hp->VK->Prop)(to:TE)(t:TA):TE:=fun σ H Q=>to σ H fun x H1=>tyV K T x H1/\t σ H1 fun xs H2=>r x xs H2 Q
variable {o e:Expr} {es:List Expr} {to:TE} {t:TA} {name:Str} {apos cpos:Pos} {T id:String} {r:V->List V->Hp->VK->Prop}
theorem Z4 (pa : PlainAttrs T) (slot : Slot T name id) (hty : typeOf (.builtin id) = pure (.type "method_descriptor")) (hm : MtR X id r) (ho : PE X o to) (ha : PA X (e :: es) t)
 (hbase:attributeBase o name X.env (eval o X.env)=eval o X.env:=by rfl)
 (hfew:((backTo cpos (starEach (e::es) X.env)).all (fun x=> !x.1) && (backToKw cpos (keywordEach [] X.env)).all (fun x=>x.1.isSome)
  && decide ((e::es).length+([]:List Keyword).length+(if ([]:List Keyword).isEmpty then 0 else 1)<30))=true:=by rfl)
 (hline:(apos.endLine==cpos.line)=true:=by rfl) (hs:starEach (e::es) X.env=(false,eval e X.env)::starEach es X.env:=by rfl) (hplain:(backTo cpos (starEach es X.env)).any (·.1)=false:=by rfl) :
 PE X (.Call (.Attribute o name apos) (e::es) [] cpos) (tBM X.K T r to t):=by
 intro pins s σ H Q I h;refine wpAny_Call_method_late hbase hfew hline rfl (thn (ho pins s σ H _ I h) fun v s1 ⟨x,H1,I1,r1,ty,q1⟩ => ?_);obtain ⟨h1,h2⟩:=rW I1 r1 ty;refine ⟨T,id,pa,slot,hty,h1,h2,?_⟩;have hA:=ha cpos pins s1 σ H1 _ I1 q1;rw [hs] at hA ⊢
 refine Calls.callWith_builtin (by show (false || (backTo cpos (starEach es X.env)).any (·.1))=false;rw [hplain] <;> rfl) (Calls.evalArgs_plain ?_);exact thn hA fun us s2 ⟨vs,H2,I2,r2,q2⟩=>hm pins s2 σ H2 x vs v us Q I2 r1 r2 q2
/- xs.append(e),list.index on a module's tuple .. are MtR facts of 06m -/
end
end L2
namespace L2
open PySem PySem.Spec PyProof.Rows
def MtM(X:Cx)(id:String)(r:V->List V->Hp->VK->Prop):Prop:=
 ∀(pins:List (Addr×Obj)) (s:Shared) (σ:St) (H:Hp) (x:V) (xs:List V) (v:Value) (us:List Value) (Q:VK),Inv X pins σ H s->RelV x v->Vals xs us->r x xs H Q ->
   wpAny (model X.prog X.w) X.A (call (.builtin id) (v::us)) (EP X pins σ Q) X.xe s
theorem Vals.one:∀ {x:V} {us:List Value},Vals [x] us->∃u,us = [u]/\RelV x u
 | _,_, .cons r .nil=>⟨_,rfl,r⟩
theorem Vals.reverse{xs:List V}{us:List Value}(h:Vals xs us):Vals xs.reverse us.reverse:=by
 induction h with
 | nil=>exact .nil
 | cons r t ih=>rw [L8,L8];exact Vals.append ih (.cons r .nil)
theorem Vals.rep{xs:List V}{us:List Value}(h:Vals xs us):∀k:Nat,Vals (List.replicate k xs).flatten (List.replicate k us).flatten
 | 0=> .nil
 | k+1=>by
  rw [F7,F7,GI,GI];exact Vals.append h (Vals.rep h k)
theorem RC (its : List Value) : ∀ (k : Nat) (acc : List Value),
 List.foldl (fun x1 x2=>x1++x2) acc.toArray (List.replicate k its.toArray)=(acc++(List.replicate k its).flatten).toArray
 | 0,acc=>by simp
 | k+1,acc=>by
  have e:acc.toArray++its.toArray=(acc++its).toArray:=by simp
  have e2:(acc++its)++(List.replicate k its).flatten=acc++(List.replicate (k+1) its).flatten:=by
   rw [F7,GI,TU]
  rw [<-e2, <-RC its k (acc++its), <-e,F7,List.foldl_cons]
section
variable {X:Cx} {pins:List (Addr×Obj)} {σ:St} {H:Hp} {s:Shared} {l b:Addr} {xs ys zs:List V}
theorem Inv.lset {its its' : List Value} {n : Nat} {f : Array Value -> Array Value} {t' : Nat} (I : Inv X pins σ H s) (hH : H l = some (.lst xs))
 (e:s.heap.get? l=some {cls:= .type "list",data:= .seq its.toArray n}) (hf:f its.toArray=its'.toArray) (hv:Vals ys its') (hz:ys.length<=sizeLine) :
 Inv X pins σ (upd H l (.lst ys)) {s with heap:=s.heap.update l (Obj.mapSeq f),toks:=t' }:=by
 have q:=PySem.IsL.update e f;rw [hf] at q
 refine I.write (x:=l) (e:=l) (by rw [hH];exact trivial) (.inl rfl) (fun b' u hb hu=>(Q8 s.heap (Obj.mapSeq f) (HZ hb)).trans hu) ⟨_,q⟩ ?_;exact ⟨hz,its',_,hv,q⟩
theorem Inv.lnew {its : List Value} {t' : Nat} (I : Inv X pins σ H s) (hv : Vals ys its) (hz : ys.length <= sizeLine) :
 Inv X pins σ (upd H s.heap.objs.size (.lst ys)) {s with heap:=s.heap.push {cls:= .type "list",data:= .seq its.toArray},toks:=t' } :=
 I.laid (fun _ _ q=>A3 _ q) (AA _) ⟨hz,its,0,hv,AW _ rfl⟩
theorem Inv.fresh(I:Inv X pins σ H s):H s.heap.objs.size=none:=I.hok.fresh (AA _)
theorem Inv.lstM(I:Inv X pins σ H s)(hH:H l=some (.lst xs)):xs.length<=sizeLine/\∃(its:List Value) (n:Nat),Vals xs its/\xs.length=its.length/\s.heap.get? l=some {cls:= .type "list",data:= .seq its.toArray n}:=by
 obtain ⟨z,its,n,r,e⟩:=I.hok l _ hH;exact ⟨z,its,n,r,r.length,e⟩
theorem VX{n:Nat}(h:n<=sizeLine):Builtin.List.listTooLong n=false:=by
 unfold Builtin.List.listTooLong;exact decide_eq_false (by omega)
end
section
variable {X:Cx}
def rAppend:V->List V->Hp->VK->Prop:=fun x vs H Q=>∃l xs y,x = .ref l/\vs = [y]/\H l=some (.lst xs)/\xs.length<sizeLine/\Q .non (upd H l (.lst (xs ++ [y])))
theorem NG:MtM X "list.append" rAppend:=by
 intro pins s σ H x vs v us Q I rx rv h;obtain ⟨l,xs,y,rfl,rfl,hH,hz,q⟩:=h
 cases rx
 obtain ⟨u,rfl,ru⟩:=rv.one;obtain ⟨z,its,n,r,hl,e⟩:=I.lstM hH;refine aY GF ⟨_,e,rfl⟩ F.entry_list_append (A06 _ _) (zO l its.toArray n u (by rw [AK];omega)) ⟨e,?_⟩;refine ⟨.non,_,I.lset (its':=its ++ [u]) hH e (by simp) (r.append (.cons ru .nil)) ?_,rfl,q⟩;rw [B3,O8];omega
def rExtend:V->List V->Hp->VK->Prop:=fun x vs H Q=>∃l b xs zs,x = .ref l/\vs = [.ref b]/\H l=some (.lst xs)/\H b=some (.lst zs)/\xs.length+zs.length<=sizeLine/\Q .non (upd H l (.lst (xs++zs)))
theorem bL:MtM X "list.extend" rExtend:=by
 intro pins s σ H x vs v us Q I rx rv h;obtain ⟨l,b,xs,zs,rfl,rfl,hH,hB,hz,q⟩:=h
 cases rx
 obtain ⟨u,rfl,ru⟩:=rv.one
 cases ru
 obtain ⟨z,its,n,r,hl,e⟩:=I.lstM hH;obtain ⟨z2,its2,n2,r2,hl2,e2⟩:=I.lstM hB;have hsz:its.toArray.size+its2.toArray.size<=sizeLine:=by rw [AK,AK];omega
 have hlong:¬(!its.toArray.isEmpty && Builtin.List.listTooLong (its.toArray.size+its2.toArray.size))=true:=by
  rw [VX hsz,Bool.and_false];exact ET
 refine aY F.slot_list_extend ⟨_,e,rfl⟩ F.entry_list_extend (F.args_list_extend_2 _ _)
  (AutoSeq1.list_extend_list_list_0 l its.toArray n b its2.toArray n2 hlong (by rw [AK];omega) (by omega)) ⟨e,e2,?_⟩
 refine ⟨.non,_,I.lset (its':=its++its2) hH e (by simp) (r.append r2) ?_,rfl,q⟩;rw [B3];omega
def rRep:R2:=fun x y H Q=>∃l k xs,x = .ref l/\y = .int k/\H l=some (.lst xs) /\ -(2 ^ 63)<=k/\k<2 ^ 63/\xs.length*k.toNat<=sizeLine /\
 ∀p,H p=none->Q (.ref p) (upd H p (.lst (List.replicate k.toNat xs).flatten))
theorem m7{α:Type}(xs:List α)(k:Nat):(List.replicate k xs).flatten.length=k*xs.length:=by
 induction k with
 | zero=>simp
 | succ k ih=>rw [F7,GI,B3,ih,K2,Nat.add_comm]
theorem rK:OpR X (binaryOp .Mult) rRep:=by
 intro pins s σ H x y v u Q I rx ry h;obtain ⟨l,k,xs,rfl,rfl,hH,h1,h2,hz,q⟩:=h
 cases rx
 obtain ⟨t,rfl⟩:=ry;obtain ⟨z,its,n,r,hl,e⟩:=I.lstM hH;have hlen:its.toArray.size*k.toNat<=sizeLine:=by rw [AK, <-hl];exact hz
 have hcap:¬its.toArray.size*k.toNat>(2 ^ 63 - 1) / 8:=by
  have:(sizeLine:Nat)<=(2 ^ 63 - 1) / 8:=by decide
  omega
 have hfit:¬(!Builtin.List.listFitsIndex k)=true:=by
  rw [fitsIndex_both h1 h2];exact ET
 have hlong:¬Builtin.List.listTooLong (its.toArray.size*k.toNat)=true:=by
  rw [VX hlen];exact ET
 have hnew:List.foldl (fun x1 x2=>x1++x2) #[] (List.replicate (if its.toArray.isEmpty=true then 0 else k.toNat) its.toArray)=(List.replicate k.toNat its).flatten.toArray:=by
  have f0:∀m:Nat,List.foldl (fun x1 x2=>x1++x2) #[] (List.replicate m its.toArray)=(List.replicate m its).flatten.toArray:=fun m=>by
   have:=RC its m [];rw [aZ] at this
   exact this
  rw [f0]
  cases its with
  | nil=>simp
  | cons a r'=>rw [C9 (by simp)]
 refine wpAny_binaryOp_repeat_ref (T:= "list") (U:= "int") (by decide) ⟨_,e,rfl⟩ (fun s'=>typeIs_int s' k t) noFill_list_mul F.fills_int_mul F.slot_int_rmul repeat_list F.slot_int_index.lookup
  (aY F.slot_int_rmul (typeIs_int s k t) F.entry_int_rmul (F.args_int_rmul_2 _ _) (int___rmul___int_list k t l its.toArray n)
   ⟨e,rfl,⟨_,e,rfl⟩,aY F.slot_list_mul ⟨_,e,rfl⟩ F.entry_list_mul (F.args_list_mul_2 _ _) (AutoListH.list___mul___list_int_3 l its.toArray n k t hfit hcap hlong) ⟨e,?_⟩⟩)
 rw [hnew];exact ⟨.ref _,_,I.lnew (t':=s.toks) (r.rep k.toNat) (by rw [m7,N4];exact hz),rfl,q _ I.fresh⟩
end
section
variable {prog:Program} {w:World} {A:Around} {E:Value->Shared->Prop} {s:Shared}
end
section
variable {X:Cx}
end
end L2
namespace Att
open PySem PySem.W PySem.Calls PyProof.Rows
theorem OC{P:Params}{h:Heap}:∀(ns:List Int) (vs:List Value),WellAll P h vs (ns.map WData.int)->IntsAre vs ns:=by
 intro ns
 induction ns with
 | nil=>
  intro vs w;rw [r9] at w
  cases w
  exact .nil
 | cons n ns ih=>
  intro vs w;rw [CU] at w
  cases w with
  | cons a b=>
   cases a
   exact .cons _ _ (ih _ b)
theorem bG {l : OpenLaw} {n : Nat} (hn : l.most = some n) {P : Params} {h : Heap} {args : List WData} {vals : List Value}
 (hpre:l.row.toRowW.claim.pre args=true) (hwl:WellAll P h vals args) :
 ∃a vs ns,vals = [Value.ref a]/\args = [WData.list (ns.map WData.int)]/\h.get? a=some {cls:= .type "list",data:= .seq vs.toArray}/\IntsAre vs ns/\ns.length<=n:=by
 have hsh:WShape.hasAll [] args [.list .int]=true:=(pre_splitW hpre).1;have hc:l.pre.holds [] {args:=args}=true:=(pre_splitW hpre).2;obtain ⟨d,r,rfl,h1,h2⟩:=hasAllW_cons hsh;obtain rfl:=hasAllW_nil h2;obtain ⟨xs,rfl,h3⟩:=hasW_list h1;obtain ⟨ns,rfl⟩:=items_int h3
 have hlen:ns.length<=n:=by
  unfold OpenLaw.pre at hc
  have h4:(WTm.not (.lt (.lit (.int (n:Int))) (.len (.arg 0)))).holds [] {args:= [.list (ns.map .int)]}=true:=by
   have h4:=(holds_andW hc).1;rw [hn] at h4
   exact h4
  have h5:=condW_of h4 (w_not (w_lt w_lit (w_len_list (w_arg rfl))));rw [A9] at h5
  refine Nat.le_of_not_lt fun q=> ?_;have q':(n:Int)<((ns.length:Nat):Int):=by omega
  first
   | (rw [D5 q'] at h5;exact absurd h5 (by decide))
   | (simp at h5;omega)
 cases hwl with
 | cons w1 w2=>
  cases w2
  cases w1 with
  | list ho hall=>exact ⟨_,_,ns,rfl,rfl,ho,OC ns _ hall,hlen⟩
theorem cN(l:OpenLaw)(args:List WData):l.row.toRowW.claim.post args (.bool true) args=true:=
 postW_of (r:=l.row.toRowW) (X:=(true==true))
  (show WShape.has [] (.bool true) .bool=true by first | rfl | decide | simp [WShape.has,WShape.arms,WShape.armsAll])
  (show (WTm.eq .res (.lit (.bool true))).value [] {args:=args,res:=some (.bool true),after:=args}=some (.bool (true==true)) from w_eq_bool (w_res rfl) w_lit) rfl
theorem attach_call {l : OpenLaw} {n : Nat} {q : Program} {loose : List Str} {XP : (Str -> Option Value) -> Heap -> Prop} {YP : World -> Heap -> Prop} {d : DefRec}
 (hn:l.most=some n) (hdf:d.params.defaults = [])
 (call:∀(w:World) (s₀ s₁:Shared) (mg mb:Str->Option Value) (fa:Addr) (o:Obj) (pm cd doc:Value) (a:Addr) (vs:List Value) (ns:List Int),
  Ground q loose [] XP w s₀ mg mb s₁.heap->YP w s₁.heap ->
  s₁.heap.get? fa=some o->o.data = .func (docDef d.name d.params d.body d.scope pm cd doc)->s₁.heap.CodeRec cd d.name->mg d.name=some (.ref fa) ->
  s₁.heap.get? a=some {cls:= .type "list",data:= .seq vs.toArray}->IntsAre vs ns->ns.length<=n->s₁.gens = #[] ->
  codeAny (model l.prog w) callerA (.call (.ref fa) ⟨[.ref a],[]⟩) (fun r s'=>r = .ok (.ret (.bool true))/\OldK s₁.heap s'.heap/\s'.os=s₁.os/\AllBare s'.gens) s₁) :
 WalkO q loose XP YP l.row.toRowW d [] (fun f vs=>PySem.call f vs):=by
 intro w s₀ s₁ mg mb G Y fa o pm cd doc dV kV ho hd hcd hD hmg hg args vals as hpre hlay hrd hwl hlo;obtain rfl:dV = .none:=Dflts.none hD hdf;obtain rfl:kV = .none:=Dflts.noKw hD;obtain ⟨a,vs,ns,rfl,rfl,hobj,hints,hlen⟩:=bG hn hpre hwl;refine enter_call (dC (call w s₀ s₁ mg mb fa o pm cd doc a vs ns G Y ho (fd_plain hd) hcd hmg hobj hints hlen hg) fun r s' hq=> ?_);obtain ⟨rfl,h2,h3,h4⟩:=hq;exact ⟨.inl ⟨.bool true, .bool true,[],rfl,fun _=>rfl, .bool true,cN l _,fun _=>⟨L9,fun _ hm=>(nomatch hm)⟩⟩,h2,h3,h4⟩
section
variable {prog:Program} {w:World} {A:Around} {E:Value->Shared->Prop} {s:Shared} {K:Frag}
end
end Att
namespace L2
open PySem PySem.Spec PyProof.Rows
theorem QK:∀ {vs:List Value} {ns:List Int},IntsAre vs ns->Vals (ns.map V.int) vs
 | _,_, .nil=> .nil
 | _,_, .cons n t h=> .cons ⟨t,rfl⟩ (QK h)
end L2
namespace L2
open PySem PySem.Spec PyProof.Rows
def OO(s:Stmt)(j:Nat):Stmt:=match s with
 | .ClassDef _ _ _ body _ _ _ _ _ _ _=>body.getD j (.Pass ⟨0,0,0,0⟩)
 | _=> .Pass ⟨0,0,0,0⟩
def JS(s:Stmt):Arguments:=match s with
 | .FunctionDef _ a _ _ _ _ _ _ _ _=>a
 | _=>{posonlyargs:= [],args:= [],vararg:=none,kwonlyargs:= [],kw_defaults:= [],kwarg:=none,defaults:= []}
def GD(s:Stmt):List Stmt:=match s with
 | .FunctionDef _ _ b _ _ _ _ _ _ _=>b
 | _=> []
def AN(s:Stmt):Scope:=match s with
 | .FunctionDef _ _ _ _ _ _ sc _ _ _=>sc
 | _=>{kind:= .function,names:= [],isGenerator:=false,isCoroutine:=false}
abbrev CX0:CXT:=fun _ _ _ _ _ _=>False
abbrev E0:XK:=fun _ _ _=>False
theorem Z7{X:Cx}:NM CX0 X E0:=fun _ _ _ _ _ _ _ h=>h.elim
structure Fun (K:PySem.W.Frag) (x qual:Str) (st:Stmt) (f:Addr) (fd:FuncData):Prop where
 ex:∃(oc:Value) (od:Option Addr) (kV doc pm:Value) (an:Option Addr) (cdv ct:Value) (osl:Array (Option Value)),
  fd=PySem.W.fnOf x qual (JS st) (GD st) (AN st) .none kV doc pm an cdv ct/\K.lookup f=some ⟨oc,od, .func fd,osl⟩/\PySem.W.codeIn K cdv qual=true
 kp:PySem.W.keepIn K (.ref f)=true
section
variable {P:Program} {w:World} {K:PySem.W.Frag} {mg:Str->Option Value} {base:Heap}
theorem Fun.ok {x qual : Str} {st : Stmt} {f : Addr} {fd : FuncData} {N ps : List Str} {k : Nat} {sp : Sp} (F : Fun K x qual st f fd) (S : FnScope N ps (AN st)) (len : ∀ vs H Q E, sp vs H Q E -> vs.length = ps.length)
 (hbody:∀(cdv:Value) (A:Around) (outer:List Env) (s:Shared) (H:Hp) (vs:List V) (Q:VK) (E:XK),Room k (A.deeper (envOfC qual (AN st) s.heap.objs.size f cdv))->sp vs H Q E ->
  ∃t,PSs (OF CX0 P w K mg base N qual (AN st) f cdv A outer s H E).nox (GD st) t/\t {nx:=fun _ H'=>Q .non H',rt:=Q} (start N vs) H):FnOk P w K mg base CX0 (k+1) f fd ps sp:=by
 obtain ⟨oc,od,kV,doc,pm,an,cdv,ct,osl,rfl,lk,hcd⟩:=F.ex;refine qE lk hcd S len fun A outer s H vs Q E hr hsp=> ?_;obtain ⟨t,h,q⟩:=hbody cdv A outer s H vs Q E hr hsp;exact ⟨t,h.nox,q⟩
theorem Fun.binds {x qual : Str} {st : Stmt} {f : Addr} {fd : FuncData} {ps : List Str} (F : Fun K x qual st f fd)
 (h:∀(kV doc pm:Value) (an:Option Addr) (cdv ct:Value) (us:List Value),us.length=ps.length->bindArgs (PySem.W.fnOf x qual (JS st) (GD st) (AN st) .none kV doc pm an cdv ct) ⟨us,[]⟩=pure (ps.zip us)):Binds K fd ps []:=by
 obtain ⟨oc,od,kV,doc,pm,an,cdv,ct,osl,rfl,lk,hcd⟩:=F.ex;exact .all (h kV doc pm an cdv ct)
theorem C0 {x qual : Str} {st : Stmt} {f : Addr} {oc : Value} {od an : Option Addr} {osl : Array (Option Value)} {kV doc pm cdv ct : Value} (l : K.lookup f = some ⟨oc, od, .func (PySem.W.fnOf x qual (JS st) (GD st) (AN st) .none kV doc pm an cdv ct), osl⟩)
 (c:PySem.W.codeIn K cdv qual=true) (k:PySem.W.keepIn K (.ref f)=true):Fun K x qual st f (PySem.W.fnOf x qual (JS st) (GD st) (AN st) .none kV doc pm an cdv ct):=⟨⟨oc,od,kV,doc,pm,an,cdv,ct,osl,rfl,l,c⟩,k⟩
end
section
variable {X:Cx}
end
theorem V2{A B:Prop}(h:B):if false=true then A else B:=by
 rw [C9 ET];exact h
theorem UZ{A B:Prop}(h:A):if true=true then A else B:=by
 rw [CQ rfl];exact h
def Same(H H':Hp):Prop:=∀b o,H b=some o->H' b=some o
theorem Same.refl(H:Hp):Same H H:=fun _ _ h=>h
theorem Same.trans{H H1 H2:Hp}(a:Same H H1)(b:Same H1 H2):Same H H2:=fun c o h=>b c o (a c o h)
theorem Same.free{H H':Hp}(e:Same H H'){l:Addr}(h:H' l=Option.none):H l=Option.none:=by
 cases q:H l with
 | none=>rfl
 | some o=>
  rw [e l o q] at h
  cases h
theorem Same.seq{K:PySem.W.Frag}{H H':Hp}{a:Addr}{xs:List V}(e:Same H H')(h:SqL K H a xs):SqL K H' a xs:=by
 rcases h with (h | ⟨o,h⟩) | h
 . exact .inl (.inl (e _ _ h))
 . exact .inl (.inr ⟨o,e _ _ h⟩)
 . exact .inr h
end L2
namespace L2
open PySem PySem.Spec PyProof.Rows
section
variable {κ:Type} [DecidableEq κ]
def xP(kvs:List (κ×V))(k:κ):Option V:=(kvs.find? fun kv=>decide (kv.1=k)).map (·.2)
def yC(kvs:List (κ×V))(k:κ)(v:V):List (κ×V) :=
 if (kvs.any fun kv=>decide (kv.1=k))=true then kvs.map (fun kv=>if kv.1=k then (kv.1,v) else kv) else kvs ++ [(k,v)]
end
abbrev KT (H:Hp):List (List Key×V)->List (List Key×Addr×Value)->Prop:=Paired fun p q=>p.1=q.1/\H q.2.1=some (.tup (p.1.map kV))/\RelV p.2 q.2.2
section
variable {P:Program} {w:World} {H:Hp} {h:Heap} {a:Addr}
end
def zV(H:Hp)(a:Addr)(y:V)(r:Option V):Prop:=
 (∃kvs k,Rd H a (.dK kvs)/\y=kV k/\r=xP kvs k)\/∃kvs k b,Rd H a (.dT kvs)/\y = .ref b/\H b=some (.tup (k.map kV))/\r=xP kvs k
def zW(H:Hp)(a:Addr)(y v:V)(H':Hp):Prop:=
 (∃kvs k,H a=some (.dK kvs)/\y=kV k/\kvs.length<sizeLine/\H'=upd H a (.dK (yC kvs k v))) \/
 ∃kvs k b,H a=some (.dT kvs)/\y = .ref b/\H b=some (.tup (k.map kV))/\kvs.length<sizeLine/\H'=upd H a (.dT (yC kvs k v))
section
variable {X:Cx} {pins:List (Addr×Obj)} {σ:St} {H:Hp} {s:Shared} {a:Addr} {y v:V} {u r:Value} {o:Option V} {A:Around} {E:Value->Shared->Prop}
end
section
variable {X:Cx} {pins:List (Addr×Obj)} {σ:St} {H:Hp} {s:Shared} {a:Addr} {kvs:List (Key×V)} {k:Key} {u:Value} {A:Around} {E:Value->Shared->Prop}
end
section
variable {X:Cx} {o i e value:Expr} {pos pos' tpos:Pos} {td ty tv:TE}
end
section
variable {X:Cx} {pos:Pos}
end
structure M1 (X:Cx) (o:Expr) (m:Str) (apos:Pos) (e:Expr) (cpos:Pos):Prop where
 base:attributeBase o m X.env (eval o X.env)=eval o X.env
 few:((backTo cpos (starEach [e] X.env)).all (fun x=> !x.1) && (backToKw cpos (keywordEach [] X.env)).all (fun x=>x.1.isSome)
  && decide (([e]:List Expr).length+([]:List Keyword).length+(if ([]:List Keyword).isEmpty then 0 else 1)<30))=true
 line:(apos.endLine==cpos.line)=true
 trees:backTo cpos (starEach [e] X.env) = [(false,eval e X.env)]
structure M2 (X:Cx) (o:Expr) (m:Str) (apos:Pos) (e f:Expr) (cpos:Pos):Prop where
 base:attributeBase o m X.env (eval o X.env)=eval o X.env
 few:((backTo cpos (starEach [e,f] X.env)).all (fun x=> !x.1) && (backToKw cpos (keywordEach [] X.env)).all (fun x=>x.1.isSome)
  && decide (([e,f]:List Expr).length+([]:List Keyword).length+(if ([]:List Keyword).isEmpty then 0 else 1)<30))=true
 line:(apos.endLine==cpos.line)=true
 trees:backTo cpos (starEach [e,f] X.env) = [(false,eval e X.env),(false,eval f X.env)]
section
variable {X:Cx} {pins:List (Addr×Obj)} {σ:St} {H:Hp} {s:Shared} {a:Addr} {y d:V} {u r:Value} {o:Option V} {A:Around} {E:Value->Shared->Prop}
end
section
variable {X:Cx} {o e f:Expr} {apos cpos:Pos} {td ty tx:TE}
end
section
variable {X:Cx} {pins:List (Addr×Obj)} {σ:St} {H:Hp} {s:Shared} {a:Addr} {kvs:List (Key×V)} {A:Around} {E:Value->Shared->Prop}
end
section
variable {X:Cx} {pins:List (Addr×Obj)} {σ:St} {H:Hp} {s:Shared} {a:Addr} {y:V} {u:Value} {A:Around} {E:Value->Shared->Prop}
end
section
variable {κ:Type} [DecidableEq κ]
end
end L2
namespace Tf
open PySem PySem.Spec PyProof.Rows L2
theorem wO:bootBuiltins "abs" = some (.builtin "abs"):=by decide +kernel
theorem QD:bootBuiltins "isinstance" = some (.builtin "isinstance"):=by decide +kernel
theorem DR:bootBuiltins "len" = some (.builtin "len"):=by decide +kernel
theorem bt_sum:bootBuiltins "sum" = some (.builtin "sum"):=by decide +kernel
theorem kQ:bootBuiltins "max" = some (.builtin "max"):=by decide +kernel
theorem j9:bootBuiltins "int" = some (.type "int"):=by decide +kernel
theorem kY:bootBuiltins "bool" = some (.type "bool"):=by decide +kernel
theorem MQ:bootBuiltins "list" = some (.type "list"):=by decide +kernel
theorem JK:bootBuiltins "tuple" = some (.type "tuple"):=by decide +kernel
theorem jK:bootBuiltins "zip" = some (.type "zip"):=by decide +kernel
theorem NX:bootBuiltins "reversed" = some (.type "reversed"):=by decide +kernel
def Bt(n:Nat)(i:Int):Prop:=i.natAbs<2 ^ n
theorem Bt.mono{n m:Nat}{i:Int}(h:Bt n i)(k:n<=m):Bt m i:=B2 h (DY (by decide) k)
theorem Bt.mul{n m:Nat}{i j:Int}(h:Bt n i)(k:Bt m j):Bt (n+m) (i*j):=by
 unfold Bt at *
 rw [FF,Nat.pow_add];exact Nat.mul_lt_mul_of_lt_of_le h (HY k) (DZ (DL _) k)
theorem Bt.of_le{n:Nat}{i j:Int}(h:Bt n j)(k:i.natAbs<=j.natAbs):Bt n i:=DZ k h
theorem Bt.fdiv{n:Nat}{i j:Int}(h:Bt n i):Bt n (i.fdiv j):=by
 refine h.of_le ?_
 by_cases hj:j=0
 . subst hj;simp
 . have key : ∀ (a b : Int), 0 < b -> (a.fdiv b).natAbs <= a.natAbs := by
    intro a b hb;rw [KC a (N5 hb)];exact kR a b
   rcases (by omega:0<j\/j<0) with p | p
   . exact key i j p
   . have:=key (-i) (-j) (by omega);rw [Int.neg_fdiv_neg] at this
     simpa using this
theorem Bt.bits{n:Nat}{i:Int}(h:Bt n i):Builtin.Int.intBits i<=n:=by
 unfold Builtin.Int.intBits
 split
 . exact DL _
 . rename_i hz
   have h0:i.natAbs≠0:=by
    intro e;apply hz;have:i=0:=by omega
    subst this;rfl
   exact (Nat.log2_lt h0).mpr h
theorem Bt.log{n:Nat}{i:Int}(h:Bt n i)(hn:0<n):i.natAbs.log2<n:=by
 by_cases h0:i.natAbs=0
 . rw [h0];simpa using hn
 . exact (Nat.log2_lt h0).mpr h
theorem xU{n m:Nat}{i j:Int}(h:Bt n i)(k:Bt m j)(hn:n+m<=134217728):IntMulOk i j:=by
 unfold IntMulOk;have hb1:=h.bits;have hb2:=k.bits
 have:Builtin.Int.intTooBig (Builtin.Int.intBits i+Builtin.Int.intBits j)=false:=by
  unfold Builtin.Int.intTooBig;apply decide_eq_false;unfold bitsLine;have:(2:Nat) ^ 27=134217728:=by decide
  rw [this];omega
 rw [this];simp
def qK(i j:Int):Prop:=∃n m,Bt n i/\Bt m j/\n+m<=134217728
def eQ(_i j:Int):Prop:=j≠0/\Bt 9000 j
section
variable {X:Cx}
theorem fR:OpR X (binaryOp .FloorDiv) (rI eQ fun i j=> .int (i.fdiv j)):=opI fun _ _ _ _ _ _ _ hc q=>floordiv_int hc.1 q (.inl (PyProof.noPylong_of_log2 (hc.2.log (by decide))))
theorem PY{i j:Int}{n m:Nat}(h:Bt n i)(k:Bt m j)(e:decide (n+m<=134217728)=true):qK i j:=⟨n,m,h,k,AL e⟩
theorem y7 {x:Str} {T:String} {pos:Pos} (hg:Gl X x) (hm:X.mg x=none) (hv:bootBuiltins x=some (.type T)) (hn:x ≠ "__name__" :=by decide) (hd:(x==("__debug__" : Str))=false:=by decide):PE X (.Name x pos) (tC (.ty T)) :=
 nH hg hm hv rfl hn hd
inductive TyV (K:PySem.W.Frag) (H:Hp):V->String->Prop where
 | non:TyV K H .non "NoneType"
 | bl (x:Bool):TyV K H (.bl x) "bool"
 | int (i:Int):TyV K H (.int i) "int"
 | str (x:Str):TyV K H (.str x) "str"
 | lst {a:Addr} {xs:List V} (e:SqL K H a xs):TyV K H (.ref a) "list"
 | tup {a:Addr} {xs:List V} (e:SqT K H a xs):TyV K H (.ref a) "tuple"
theorem bU {pins : List (Addr × Obj)} {σ : L2.St} {H : Hp} {s : Shared} {A : Around} {E : Value -> Shared -> Prop} {Q : Value -> Shared -> Prop} {c : Value} {b : Bool} {x : V} {u : Value} {t : String} (I : Inv X pins σ H s) (rx : RelV x u) (ty : TyV X.K H x t) (e : PySem.W.kitOne X.K (.type t) c = some b) (h : ∀ tk, Q (.bool b) { s with toks := tk }) :
 wpAny (model X.prog X.w) A (call (.builtin "isinstance") [u,c]) Q E s:=by
 cases ty with
 | non=>cases (show u=Value.none from rx);exact HM PySem.W.kitx_none I.kIn D4 e (fun z=>nomatch z) h
 | bl y=>cases (show u=Value.bool y from rx);exact HM PySem.W.kitx_bool I.kIn D4 e (fun z=>nomatch z) h
 | int i=>obtain ⟨t,q⟩:=(show ∃t,u=Value.int i t from rx);cases q;exact HM PySem.W.kitx_int I.kIn D4 e (fun z=>nomatch z) h
 | str y=>obtain ⟨t,q⟩:=(show ∃t,u=Value.str y t from rx);cases q;exact HM PySem.W.kitx_str I.kIn D4 e (fun z=>nomatch z) h
 | @lst a xs ea=>
  cases (show u=Value.ref a from rx)
  obtain ⟨its,_,⟨o,n,h1,h2,_⟩,_⟩:=I.list ea
  exact HM PySem.W.kitx_list I.kIn ⟨o,h1,h2⟩ e (fun z=>nomatch z) h
 | @tup a xs ea=>
  cases (show u=Value.ref a from rx)
  obtain ⟨its,_,⟨o,h1,h2,_⟩,_⟩:=I.tuple ea;exact HM PySem.W.kitx_tuple I.kIn ⟨o,h1,h2⟩ e (fun z=>nomatch z) h
def y6(K:PySem.W.Frag):List V->Hp->VK->Prop:=fun xs H Q=>∃x n t b,xs = [x, .ty n]/\TyV K H x t/\PySem.W.kitOne K (.type t) (.type n)=some b/\Q (.bl b) H
theorem gF:JX X (.builtin "isinstance") (y6 X.K):=by
 intro pins s σ H xs us Q I r h;obtain ⟨x,n,t,b,rfl,ty,e,q⟩:=h;obtain ⟨u,w',rfl,rx,rn⟩:=eD r
 cases (show w'=Value.type n from rn)
 exact bU I rx ty e fun tk=>⟨.bl b,H,I.tok _,rfl,q⟩
def zA:Key->PyData
 | .inl i=> .int i
 | .inr x=> .str x
def tH(k:List Key):PyData:= .tuple (k.map zA)
def mkD:PyData×PyData:=(.none, .none)
mutual
inductive Rep (K:PySem.W.Frag) (H:Hp):V->PyData->Prop
 | none:Rep K H .non .none
 | bool (b:Bool):Rep K H (.bl b) (.bool b)
 | int (i:Int):Rep K H (.int i) (.int i)
 | str (x:Str):Rep K H (.str x) (.str x)
 | list {a:Addr} {xs:List V} {ds:List PyData}:SqL K H a xs->Reps K H xs ds->Rep K H (.ref a) (.list ds)
 | tuple {a:Addr} {xs:List V} {ds:List PyData}:SqT K H a xs->Reps K H xs ds->Rep K H (.ref a) (.tuple ds)
 | dict {a:Addr} {ks:List (List Key)} {xs:List V} {ds:List PyData}:Rd H a (.dT (ks.zip xs))->ks.length=xs.length->Reps K H xs ds->Rep K H (.ref a) (.dict ((ks.map tH).zip ds))
 | dictF {a:Addr} {o:Obj} {ks:List (List Key)} {xs:List V} {ds:List PyData}:H a=some (.frz o (.dT (ks.zip xs)))->ks.length=xs.length->Reps K H xs ds->Rep K H (.ref a) (.dict (mkD::(ks.map tH).zip ds))
inductive Reps (K:PySem.W.Frag) (H:Hp):List V->List PyData->Prop
 | nil:Reps K H [] []
 | cons {v:V} {vs:List V} {d:PyData} {ds:List PyData}:Rep K H v d->Reps K H vs ds->Reps K H (v::vs) (d::ds)
end
theorem Reps.length{K:PySem.W.Frag}{H:Hp}:∀ {vs:List V} {ds:List PyData},Reps K H vs ds->vs.length=ds.length
 | _,_, .nil=>rfl
 | _,_, .cons _ t=>by rw [BS,BS,Reps.length t]
mutual
theorem Rep.reads{pins:List (Addr×Obj)}{σ:L2.St}{H:Hp}{s:Shared}(I:Inv X pins σ H s):∀ {v:V} {d:PyData} {u:Value},Rep X.K H v d->RelV v u->d.canLay0=true->∃as,Reads s.heap u d as
 | _,_,_, .none,r,_=>by cases (show _=Value.none from r);exact ⟨_, .none⟩
 | _,_,_, .bool b,r,_=>by cases (show _=Value.bool b from r);exact ⟨_, .bool b⟩
 | _,_,_, .int i,r,_=>by obtain ⟨t,q⟩:=(show ∃t,_=Value.int i t from r);cases q;exact ⟨_, .int i t⟩
 | _,_,_, .str x,r,_=>by obtain ⟨t,q⟩:=(show ∃t,_=Value.str x t from r);cases q;exact ⟨_, .str x t⟩
 | _,_,_, .list (a:=a) h hs,r,c=>by
  cases (show _=Value.ref a from r)
  obtain ⟨its,rv,⟨o,n,h1,h2,_,h3⟩,_⟩:=I.list h;obtain ⟨as,ra⟩:=Reps.reads I hs rv (by simpa [PyData.canLay0] using c)
  exact ⟨_, .list h1 h2 h3 (by simpa using ra)⟩
 | _,_,_, .tuple (a:=a) h hs,r,c=>by
  cases (show _=Value.ref a from r)
  obtain ⟨its,rv,⟨o,h1,h2,n,h3⟩,_⟩:=I.tuple h;obtain ⟨as,ra⟩:=Reps.reads I hs rv (by simpa [PyData.canLay0] using c)
  exact ⟨_, .tuple h1 h2 h3 (by simpa using ra)⟩
 | _,_,_, .dict _ _ _,_,c=>by simp [PyData.canLay0] at c
 | _,_,_, .dictF _ _ _,_,c=>by simp [PyData.canLay0] at c
theorem Reps.reads{pins:List (Addr×Obj)}{σ:L2.St}{H:Hp}{s:Shared}(I:Inv X pins σ H s):∀ {vs:List V} {ds:List PyData} {us:List Value},Reps X.K H vs ds->Vals vs us->PyData.canLayAll0 ds=true->∃as,ReadsAll s.heap us ds as
 | _,_,_, .nil,r,_=>by cases r;exact ⟨_, .nil⟩
 | _,_,_, .cons h hs,r,c=>by
  have c:=OQ.mp (show (_ && _)=true by rw [<-PyData.canLayAll0];exact c)
  cases r with
  | cons r1 r2=>
   obtain ⟨as,q⟩:=Rep.reads I h r1 c.1;obtain ⟨bs,q2⟩:=Reps.reads I hs r2 c.2;exact ⟨_, .cons q q2⟩
end
theorem JH:∀ {ds:List PyData},(∀d ∈ ds,d.canLay0=true)->PyData.canLayAll0 ds=true
 | [],_=>by simp [PyData.canLayAll0]
 | d::ds,h=>by
  simp only [PyData.canLayAll0,FX];exact ⟨h d BU,JH fun e he=>h e (B6 _ he)⟩
def xN(K:PySem.W.Frag):R2:=fun x y H Q=>∃dx dy,Rep K H x dx/\Rep K H y dy/\dx.canLay0=true/\dy.canLay0=true/\min dx.depth dy.depth<=60/\Q (.bl (PyData.eqv dx dy)) H
def xH(K:PySem.W.Frag):R2:=fun x y H Q=>∃dx dy,Rep K H x dx/\Rep K H y dy/\dx.canLay0=true/\dy.canLay0=true/\min dx.depth dy.depth<=60/\Q (.bl (!PyData.eqv dx dy)) H
theorem dG(hu:X.A.units+64<cLine):OpR X (compareOp .Eq) (xN X.K):=by
 intro pins s σ H x y v u Q I rx ry h;obtain ⟨dx,dy,h1,h2,c1,c2,hd,q⟩:=h;obtain ⟨as,r1⟩:=h1.reads I rx c1;obtain ⟨bs,r2⟩:=h2.reads I ry c2;exact SeqAt.compareEq_reads r1 r2 c1 c2 (by omega) ⟨.bl _,H,I,rfl,q⟩
theorem sO(hu:X.A.units+64<cLine):OpR X (compareOp .NotEq) (xH X.K):=by
 intro pins s σ H x y v u Q I rx ry h;obtain ⟨dx,dy,h1,h2,c1,c2,hd,q⟩:=h;obtain ⟨as,r1⟩:=h1.reads I rx c1;obtain ⟨bs,r2⟩:=h2.reads I ry c2;exact SeqAt.compareNe_reads r1 r2 c1 c2 (by omega) ⟨.bl _,H,I,rfl,q⟩
end
theorem _root_.L2.Same.upd{H:Hp}{p:Addr}(h:H p=none)(o:HO):Same H (L2.upd H p o):=fun b u q=>by rw [AY (BD q h)];exact q
theorem _root_.L2.Same.seqT{K:PySem.W.Frag}{H H':Hp}{a:Addr}{xs:List V}(e:Same H H')(h:SqT K H a xs):SqT K H' a xs:=by
 rcases h with (h | ⟨o,h⟩) | h
 . exact .inl (.inl (e _ _ h))
 . exact .inl (.inr ⟨o,e _ _ h⟩)
 . exact .inr h
theorem Rd.same{H H':Hp}{a:Addr}{u:HO}(e:Same H H')(h:Rd H a u):Rd H' a u:=by
 rcases h with h | ⟨o,h⟩
 . exact .inl (e _ _ h)
 . exact .inr ⟨o,e _ _ h⟩
mutual
theorem Rep.same{K:PySem.W.Frag}{H H':Hp}(e:Same H H'):∀ {v:V} {d:PyData},Rep K H v d->Rep K H' v d
 | _,_, .none=> .none
 | _,_, .bool b=> .bool b
 | _,_, .int i=> .int i
 | _,_, .str x=> .str x
 | _,_, .list h hs=> .list (e.seq h) (Reps.same e hs)
 | _,_, .tuple h hs=> .tuple (Same.seqT e h) (Reps.same e hs)
 | _,_, .dict h hl hs=> .dict (Rd.same e h) hl (Reps.same e hs)
 | _,_, .dictF h hl hs=> .dictF (e _ _ h) hl (Reps.same e hs)
theorem Reps.same{K:PySem.W.Frag}{H H':Hp}(e:Same H H'):∀ {vs:List V} {ds:List PyData},Reps K H vs ds->Reps K H' vs ds
 | _,_, .nil=> .nil
 | _,_, .cons h hs=> .cons (Rep.same e h) (Reps.same e hs)
end
section
variable {CX:CXT} {P:Program} {w:World} {K:PySem.W.Frag} {mg:Str->Option Value} {base:Heap} {N:List Str} {qual:Str} {scope:Scope} {f:Addr} {cd:Value} {A:Around} {outer:List Env} {s:Shared} {H:Hp} {E:XK}
end
structure Def (P:Program) (w:World) (K:PySem.W.Frag) (mg:Str->Option Value) (base:Heap) (k:Nat) (x:Str) (ps:List Str) (sp:Sp):Prop where
 ex:∃f fd,FnOk P w K mg base CX0 k f fd ps sp/\mg x=some (.ref f)/\PySem.W.keepIn K (.ref f)=true/\Binds K fd ps []
section
variable {X:Cx} {k j:Nat} {x:Str} {ps:List Str} {sp:Sp} {p pos:Pos} {e:Expr} {es:List Expr} {t:TA}
theorem PD (D : Def X.prog X.w X.K X.mg X.base j x ps sp) (hr : Room k X.A) (ha : PA X (e :: es) t) (hj : j <= k := by decide) (hg : Gl X x := by rfl)
 (hdb:(x==("__debug__" : Str))=false:=by decide) (he:starEach (e::es) X.env=(false,eval e X.env)::starEach es X.env:=by rfl) (hpl:(backTo pos (starEach es X.env)).any (·.1)=false:=by rfl) :
 PE X (.Call (.Name x p) (e::es) [] pos) (V3 sp [] E0 t):=by
 obtain ⟨f,fd,F,hm,hk,hb⟩:=D.ex;exact mS F (hr.mono hj) hg hm hk hb .nil Z7 ha hdb he hpl
end
end Tf
namespace Tf
open PySem PySem.Spec PyProof.Rows L2
def GP(cells:List (Str×Addr)):List (Str×NameKind)->List (Str×Addr)->List (Str×Addr)
 | [],acc=>acc
 | (n,k)::r,acc=>if k == .free then GP cells r ((n,(cells.lookup n).getD 0)::acc) else GP cells r acc
theorem NV {env : Env} : ∀ (names : List (Str × NameKind)) (acc : List (Str × Addr)), (∀ y ∈ names, y.2 = .free -> ∃ c, env.cells.lookup y.1 = some c) ->
 (forIn names acc fun (x:Str×NameKind) (r:List (Str×Addr))=>(match x with | (name,kind)=>if (kind==NameKind.free)=true then do let a <-cellOf env name;pure (ForInStep.yield ((name,a)::r)) else pure (ForInStep.yield r):Sem (ForInStep (List (Str×Addr)))))=pure (GP env.cells names acc)
 | [],acc,_=>by rw [OS];rfl
 | (n,k)::r,acc,h=>by
  have ih:=fun acc=>NV r acc fun y hy=>h y (List.mem_cons_of_mem _ hy);rw [List.forIn_cons];unfold GP
  by_cases hk:(k==NameKind.free)=true
  . obtain ⟨c,hc⟩:=h (n,k) List.mem_cons_self (by simpa using hk);have e:cellOf env n=pure c:=by unfold cellOf;rw [hc]
    simp only [hk,GW,e];rw [hc];exact ih ((n,c)::acc)
  . simp only [hk,dE];exact ih acc
theorem LG{scope:Scope}{env:Env}(h:∀y ∈ scope.names,y.2 = .free->∃c,env.cells.lookup y.1=some c):closureFor scope env=pure (GP env.cells scope.names []):=by
 unfold closureFor;have:=NV (env:=env) scope.names [] h;simp only [bind_pure];exact this
theorem PN{cells:List (Str×Addr)}:∀ {names:List (Str×NameKind)} {acc:List (Str×Addr)} {x:Str} {c:Addr},(GP cells names acc).lookup x=some c->acc.lookup x=some c\/((x,NameKind.free) ∈ names/\c=(cells.lookup x).getD 0)
 | [],_,_,_,h=> .inl h
 | (n,k)::r,acc,x,c,h=>by
  unfold GP at h
  split at h
  . rename_i hk;rcases PN h with q | ⟨q,e⟩
    . rw [D6] at q
      cases hx:x==n with
      | true=>
       rw [hx] at q
       have e:=E9.mp hx;subst e;have hk':k = .free:=by simpa using hk
       subst hk'
       exact .inr ⟨BU,(B9 q).symm⟩
      | false=>rw [hx] at q;exact .inl q
    . exact .inr ⟨B6 _ q,e⟩
  . rcases PN h with q | ⟨q,e⟩
    . exact .inl q
    . exact .inr ⟨B6 _ q,e⟩
theorem NJ{cells:List (Str×Addr)}:∀ {names:List (Str×NameKind)} {acc:List (Str×Addr)} {x:Str},acc.lookup x=some ((cells.lookup x).getD 0)->(GP cells names acc).lookup x=some ((cells.lookup x).getD 0)
 | [],_,_,h=>h
 | (n,k)::r,acc,x,h=>by
  unfold GP
  split
  . refine NJ ?_;rw [D6]
    cases hx:x==n with
    | true=>have e:=E9.mp hx;subst e;rfl
    | false=>exact h
  . exact NJ h
theorem JP{cells:List (Str×Addr)}:∀ {names:List (Str×NameKind)} {acc:List (Str×Addr)} {x:Str},(x,NameKind.free) ∈ names->(GP cells names acc).lookup x=some ((cells.lookup x).getD 0)
 | (n,k)::r,acc,x,h=>by
  unfold GP;rcases List.mem_cons.mp h with e | h
  . cases e
    simp only [LZ,GW];exact NJ (by rw [D6,LZ])
  . split
    . exact JP h
    . exact JP h
theorem KG:∀(names:List (Str×NameKind)) (n:Nat) (acc:List (Str×Addr)),cellsFrom n names acc=cellsFrom n names []++acc
 | [],_,_=>rfl
 | (x,k)::r,n,acc=>by
  unfold cellsFrom
  split
  . rw [KG r (n+1) ((x,n)::acc),KG r (n+1) [(x,n)],TU];rfl
  . exact KG r n acc
theorem II{α:Type}(x:Str):∀(a b:List (Str×α)),(a++b).lookup x=(match a.lookup x with | some c=>some c | none=>b.lookup x)
 | [],b=>rfl
 | (k,v)::r,b=>by
  rw [IW,D6,D6]
  cases hx:x==k with
  | true=>rfl
  | false=>exact II x r b
theorem WF:∀ {names:List (Str×NameKind)} {n:Nat} {acc:List (Str×Addr)} {x:Str},(x,NameKind.cell) ∈ names->∃c,(cellsFrom n names acc).lookup x=some c
 | (y,k)::r,n,acc,x,h=>by
  unfold cellsFrom;rcases List.mem_cons.mp h with e | h
  . obtain ⟨rfl,rfl⟩:=Prod.mk.inj e;simp only [LZ,GW];rw [KG,II]
    cases q:(cellsFrom (n+1) r []).lookup x with
    | some c=>exact ⟨c,rfl⟩
    | none=>exact ⟨n,by simp [D6]⟩
  . split
    . exact WF h
    . exact WF h
theorem XD:∀ {names:List (Str×NameKind)} {n:Nat} {x:Str} {c:Addr},(x,c) ∈ cellsFrom n names []->(x,NameKind.cell) ∈ names
 | (y,k)::r,n,x,c,h=>by
  unfold cellsFrom at h
  split at h
  . rename_i hk;rw [KG] at h
    rcases CN.mp h with q | q
    . exact B6 _ (XD q)
    . have hk':k = .cell:=by simpa using hk
      subst hk';have e:(x,c)=(y,n):=by simpa using q
      cases e
      exact BU
  . exact B6 _ (XD h)
def MR(sc osc:Scope):Scope:=
 {sc with names:=sc.names.map fun (n,k)=>if (k == .free && osc.kind == .function && osc.names.lookup n==some .cell) then (n, .cell) else (n,k)}
theorem OW(sc:Scope)(env:Env):relabel sc env=MR sc env.scope:=rfl
theorem GB {osc : Scope} : ∀ {names : List (Str × NameKind)} {x : Str} {k : NameKind}, (names.map fun (p : Str × NameKind) => (match p with | (n, k) => if (k == NameKind.free && osc.kind == .function && osc.names.lookup n == some NameKind.cell) = true then (n, NameKind.cell) else (n, k))).lookup x = some k ->
 ∃k',names.lookup x=some k'/\(k'=k\/(k' = .free/\k = .cell))
 | [],_,_,h=>by simp at h
 | (n,k0)::r,x,k,h=>by
  rw [CU] at h
  by_cases hc:(k0==NameKind.free && osc.kind == .function && osc.names.lookup n==some NameKind.cell)=true
  . simp only [hc,GW] at h
    rw [D6] at h
    cases hx:x==n with
    | true=>
     rw [hx] at h
     simp only [LA] at h
     subst h;refine ⟨k0,by rw [D6,hx], .inr ⟨?_,rfl⟩⟩;simp only [FX,E9] at hc
     exact hc.1.1
    | false=>
     rw [hx] at h
     obtain ⟨k',e,d⟩:=GB h;exact ⟨k',by rw [D6,hx];exact e,d⟩
  . simp only [C9 hc] at h
    rw [D6] at h
    cases hx:x==n with
    | true=>
     rw [hx] at h
     simp only [LA] at h
     subst h
     exact ⟨k0,by rw [D6,hx], .inl rfl⟩
    | false=>
     rw [hx] at h
     obtain ⟨k',e,d⟩:=GB h;exact ⟨k',by rw [D6,hx];exact e,d⟩
theorem IY{α:Type}:∀ {l:List (Str×α)} {x:Str} {k:α},(l.map (·.1)).Nodup->(x,k) ∈ l->l.lookup x=some k
 | (y,j)::r,x,k,nd,h=>by
  rw [CU,b7] at nd
  rw [D6];rcases AZ.mp h with e | h'
  . cases e;rw [LZ]
  . have : (x == y) = false := by
     apply FU.mpr;intro e;subst e;exact nd.1 (BY.mpr ⟨_,h',rfl⟩)
    rw [this];exact IY nd.2 h'
def WR(osc sc:Scope)(N N':List Str)(ix:List (Option Nat)):Bool:=
 decide (sc.kind = .function) && decide (osc.kind = .function) && sc.names.all (fun y=>decide (y.2 = .local->sc.names.lookup y.1=some .local)) &&
 sc.names.all (fun y=>decide (y.2 = .free->(osc.names.lookup y.1=some .cell\/osc.names.lookup y.1=some .free))) && decide (N'.Nodup) && decide ((sc.names.map (·.1)).Nodup) && decide (N'.length=ix.length) &&
 (List.range ix.length).all fun i=>match ix[i]? with
  | some (some j)=>decide (N[j]? = N'[i]?) && (match N'[i]? with | some x=>decide (sc.names.lookup x=some .free) | none=>false)
  | _=>true
structure CS (osc sc:Scope) (N N':List Str) (ix:List (Option Nat)):Prop where
 kind:sc.kind = .function
 okind:osc.kind = .function
 names:∀y ∈ sc.names,y.2 = .local->sc.names.lookup y.1=some .local
 free:∀y ∈ sc.names,y.2 = .free->osc.names.lookup y.1=some .cell\/osc.names.lookup y.1=some .free
 nd:N'.Nodup
 ns:(sc.names.map (·.1)).Nodup
 len:N'.length=ix.length
 ixs:∀(i j:Nat),ix[i]? = some (some j)->∃x,N'[i]? = some x/\N[j]? = some x/\sc.names.lookup x=some .free
theorem CS.of{osc sc:Scope}{N N':List Str}{ix:List (Option Nat)}(h:WR osc sc N N' ix=true):CS osc sc N N' ix:=by
 unfold WR at h
 simp only [FX,EG,zP] at h
 obtain ⟨⟨⟨⟨⟨⟨⟨h1,h2⟩,h3⟩,h4⟩,h5⟩,h8⟩,h6⟩,h7⟩:=h;refine ⟨h1,h2,h3,h4,h5,h8,h6,fun i j e=> ?_⟩;have hi:i<ix.length:=(AX.mp e).1;have q:=h7 i (BZ.mpr hi);rw [e] at q
 simp only [FX,zP] at q
 cases e2:N'[i]? with
 | none=>rw [e2] at q;exact absurd q.2 (by simp)
 | some x=>
  rw [e2] at q
  exact ⟨x,rfl,q.1,by simpa using q.2⟩
def FY(ix:List (Option Nat))(σ:L2.St):L2.St:=ix.map fun o=>match o with | some j=>(σ[j]?).join | none=>none
structure CB where
 C:Addr
 s₀:Shared
 H₀:Hp
 ex:List Addr
def v6(osc sc:Scope)(cl:List (Str×Addr))(C:Addr)(env:Env):Env:=
 {scope:=MR sc osc,locals:=C,globals:=env.globals,cells:=cellsFrom (C+1) sc.names cl,qual:=env.qual,func:=none,code:=env.code,frame:=env.frame,builtins:=env.builtins}
def cxC(X:Cx)(osc sc:Scope)(N':List Str)(b:CB):Cx where
 prog:=X.prog
 w:=X.w
 K:=X.K
 mg:=X.mg
 base:=X.base
 A:=X.A
 N:=N'
 s₀:=b.s₀
 H₀:=b.H₀
 env:=v6 osc sc (GP X.env.cells sc.names []) b.C X.env
 outer:=X.stack
 stack:=X.stack
 ex:=b.ex
 fn:=fun x=>decide (sc.names.lookup x=some .cell)
 calm:=X.calm
 pn:= []
 xe:=fun _ _=>False
def HR:Obj:={cls:= .type "list",dict:=none,data:= .seq ([]:List Value).toArray}
def SA:Obj:={cls:= .type "dict",data:= .dict #[]}
def IP(h:Heap)(sc:Scope):Heap:=pushCells ((h.push HR).push SA) sc.names
theorem JI{h:Heap}{sc:Scope}:∀b o,h.get? b=some o->(IP h sc).get? b=some o:=fun b o e=>rA _ _ b o (A3 _ (A3 _ e))
theorem IU {M : Model} {A : Around} {E : Value -> Shared -> Prop} {s : Shared} {scope : Scope} {globals : Addr} {cl : List (Str × Addr)} {qual : Str} {env : Env} {Q : Env -> Shared -> Prop}
 (h:Q (newEnv scope s.heap.objs.size globals (cellsFrom (s.heap.objs.size+1) scope.names cl) qual none .none (some env) builtinsNs) {s with heap:=pushCells (s.heap.push SA) scope.names}) :
 wpAny M A (newFunctionEnv scope globals cl [] qual none .none (some env)) Q E s:=by
 simp only [newFunctionEnv,Option.isSome_some,GW];refine A5 (wpAny_alloc ?_);refine A5 (wpAny_layCells _ (fun name kind cells=>by cases hkc:kind==NameKind.cell <;> simp [hkc]) _ _ _ _ ?_);rw [show ({s with heap:=s.heap.push {cls:= .type "dict",data:= .dict #[]} }:Shared).heap.objs.size=s.heap.objs.size+1 from CZ ..];simp only [OS];exact A5 (AR (AR h))
section
variable {X:Cx} {pins:List (Addr×Obj)} {σ:L2.St} {H:Hp} {s:Shared} {osc sc:Scope} {N':List Str} {ix:List (Option Nat)} {fp:List Addr}
theorem XX(I:Inv X pins σ H s)(cs:CS osc sc X.N N' ix)(ho:X.env.scope=osc):∀y ∈ sc.names,y.2 = .free->∃c,X.env.cells.lookup y.1=some c:=fun y hy hf=>by
 refine I.ok.has y.1 ?_;have q:=cs.free y hy hf;rw [<-ho] at q
 exact q
theorem fX (I : Inv X pins σ H s) (cs : CS osc sc X.N N' ix) (ho : X.env.scope = osc) {C : Addr} {x : Str} {c : Addr} (h : (cellsFrom (C + 1) sc.names (GP X.env.cells sc.names [])).lookup x = some c) :
 ((x,c) ∈ cellsFrom (C+1) sc.names [] )\/((x,NameKind.free) ∈ sc.names/\X.env.cells.lookup x=some c):=by
 rw [KG,II] at h
 cases e:(cellsFrom (C+1) sc.names []).lookup x with
 | some d=>rw [e] at h;cases h;exact .inl (mem_of_lookup e)
 | none=>
  rw [e] at h
  rcases PN h with q | ⟨q,d⟩
  . cases q
  . obtain ⟨c',hc⟩:=XX I cs ho _ q rfl;rw [show X.env.cells.lookup x=some c' from hc] at d
    exact .inr ⟨q,by rw [show X.env.cells.lookup x=some c' from hc];rw [d];rfl⟩
theorem gQ (I : Inv X pins σ H s) (cs : CS osc sc X.N N' ix) (ho : X.env.scope = osc) (hfp : ∀ b ∈ fp, KM X pins H b) (hlt : ∀ b ∈ fp, b < s.heap.objs.size) :
 Inv (cxC X osc sc N' ⟨s.heap.objs.size+1,s,H,fp ++ [s.heap.objs.size]⟩) [] (FY ix σ) H {s with heap:=IP s.heap sc}:=by
 have okc:=cellsFrom_ok sc.names ((s.heap.push HR).push SA) (s.heap.objs.size+2) [] ⟨fun _ _ hm=>(nomatch hm),L9⟩ (by rw [CZ,CZ];exact AA _);have esz:((s.heap.push HR).push SA).objs.size=s.heap.objs.size+1+1:=by rw [CZ,CZ]
 rw [esz] at okc
 have cell:=fun {x:Str} {c:Addr}=>fX (C:=s.heap.objs.size+1) (x:=x) (c:=c) I cs ho;have oldc:∀ {x:Str} {c:Addr},X.env.cells.lookup x=some c -> @LT.lt Nat _ c s.heap.objs.size:=fun {x c} h=>(I.cell x c h).elim fun v hv=>hv.lt;have ltS:∀ {h:Heap} {b:Addr} {o:Obj},h.get? b=some o -> @LT.lt Nat _ b h.objs.size:=fun e=>AU e;have newc:∀ {x:Str} {c:Addr},(x,c) ∈ cellsFrom (s.heap.objs.size+1+1) sc.names []->s.heap.objs.size+2<=c:=fun {x c} h=>(okc.empty x c h).2
 have nsC:∃m,(IP s.heap sc).Ns (s.heap.objs.size+1) m:=⟨_,by
  have q:=(Heap.Ns.new (s.heap.push HR) (.type "dict")).keeps (rA sc.names _);rw [CZ] at q
  exact q⟩
 refine ⟨?ok,rfl,I.bare,Un.kept JI,?loc,?cell,I.hok.fresh (L7 _),?freeC,?pin,I.hok.kept JI,?len⟩
 case ok=>
  refine ⟨I.ok.mod,cs.kind,I.ok.glob,I.ok.blt,L7 _,?inj,?has,?cab,I.ok.hd,I.ok.frames, .inl rfl,?exf,I.bs,?bsz,?noex,?exfs,I.stack,I.stkFree,I.tb⟩
  case inj=>
   intro x y c hx hy;rcases cell hx with p | ⟨p,p'⟩ <;> rcases cell hy with q | ⟨q,q'⟩
   . exact name_of_addr okc.apart p q
   . have a1:=newc p;have a2:=oldc q';omega
   . have a1:=newc q;have a2:=oldc p';omega
   . exact I.ok.inj x y c p' q'
  case has=>
   intro x hx
   have key:∀k,(MR sc osc).names.lookup x=some k->(k = .cell\/k = .free)->∃c,(cellsFrom (s.heap.objs.size+1+1) sc.names (GP X.env.cells sc.names [])).lookup x=some c:=by
    intro k hk hk2;obtain ⟨k',e,d⟩:=GB hk;have hm:=mem_of_lookup e
    have:k' = .cell\/k' = .free:=by
     rcases d with d | d
     . rcases hk2 with r | r
       . exact .inl (d.trans r)
       . exact .inr (d.trans r)
     . exact .inr d.1
    rcases this with r | r
    . subst r;exact WF hm
    . subst r;rw [KG,II,JP hm]
      cases (cellsFrom (s.heap.objs.size+1+1) sc.names []).lookup x with
      | some c=>exact ⟨c,rfl⟩
      | none=>exact ⟨_,rfl⟩
   rcases hx with hx | hx
   . exact key _ hx (.inl rfl)
   . exact key _ hx (.inr rfl)
  case cab=>
   intro x c hf hc;have hf':sc.names.lookup x=some .cell:=AL hf;rcases cell hc with p | ⟨p,p'⟩
   . have:=newc p;show s.heap.objs.size<=c;omega
   . rw [IY cs.ns p] at hf'
     cases hf'
  case exf=>
   intro b hb;rcases CN.mp hb with hb | hb
   . have hl : @LT.lt Nat _ b s.heap.objs.size:=hlt b hb;obtain ⟨f0,f1,f2,f3,f4,f5⟩:=hfp b hb;refine ⟨fun e=> ?_,fun x c hc e=> ?_⟩
     . have e:b=s.heap.objs.size+1:=e;subst e;omega
     . rcases cell hc with p | ⟨p,p'⟩
       . have:=newc p;subst e;omega
       . exact f4 x c p' e
   . have hb:b=s.heap.objs.size:=by simpa using hb
     subst hb;refine ⟨fun e=>Nat.succ_ne_self _ (Eq.symm (show s.heap.objs.size=s.heap.objs.size+1 from e)),fun x c hc e=> ?_⟩;rcases cell hc with p | ⟨p,p'⟩
     . have:=newc p;subst e;omega
     . have:=oldc p';subst e;omega
  case bsz=>exact BH I.ok.bsz I.sz
  case noex=>
   intro b o e hb;have e:X.base.get? b=some o:=e;rcases CN.mp hb with hb | hb
   . obtain ⟨f0,f1,f2,f3,f4,f5⟩:=hfp b hb;rcases f3 with f3 | f3
     . exact I.ok.noex b o e f3
     . have:=ltS e;have:=I.ok.bsz;omega
   . have hb:b=s.heap.objs.size:=by simpa using hb
     have:=ltS e;have:=I.ok.bsz;have:=I.sz;subst hb;omega
  case exfs=>
   intro b hb hf;have hf:=I.stkSub b hf;rcases CN.mp hb with hb | hb
   . obtain ⟨f0,f1,f2,f3,f4,f5⟩:=hfp b hb;rcases AZ.mp hf with e | hf
     . exact f1 e
     . exact f2 hf
   . have hb:b=s.heap.objs.size:=by simpa using hb
     rcases AZ.mp hf with e | hf
     . have l : @LT.lt Nat _ X.env.locals s.heap.objs.size:=I.lt;rw [hb] at e
       rw [<-e] at l
       omega
     . exact I.nofs (qZ hb.symm) hf
 case loc=>
  obtain ⟨m',hm'⟩:=nsC;obtain ⟨m,hm,hl⟩:=I.loc;refine ⟨m',hm',fun i x v hx hv hvis=> ?_⟩;unfold FY at hv
  rw [B8] at hv
  cases e:ix[i]? with
  | none=>rw [e] at hv;cases hv
  | some o=>
   rw [e] at hv
   cases o with
   | none=>cases hv
   | some j=>
    simp only [G6,LA] at hv
    obtain ⟨y,h1,h2,h3⟩:=cs.ixs i j e;have hx':N'[i]? = some x:=hx;rw [h1] at hx'
    cases hx'
    have hj:σ[j]? = some (some v):=by
     cases q:σ[j]? with
     | none=>rw [q] at hv;cases hv
     | some z=>rw [q] at hv;simp only [CJ] at hv;rw [hv]
    have hfree:=mem_of_lookup h3;have hk:=cs.free _ hfree rfl;rw [<-ho] at hk
    have hvis0:Vis X.env.scope x:=by
     rcases hk with r | r
     . exact .inr (.inl r)
     . exact .inr (.inr r)
    obtain ⟨u,ru,lk⟩:=hl j x v h2 hj hvis0;refine ⟨u,ru, .inr ⟨?_,?_⟩⟩
    . rcases hvis with q | q | q
      . obtain ⟨k',e',d⟩:=GB q;rw [h3] at e'
        cases e'
        rcases d with d | d
        . cases d
        . cases d.2
      . exact .inl q
      . exact .inr q
    . rcases lk with ⟨lk,_⟩ | ⟨_,c,hc,hcell⟩
      . have:X.env.scope.names.lookup x=some .local:=lk;rw [this] at hk
        rcases hk with r | r <;> cases r
      . refine ⟨c,?_,hcell.keeps JI⟩;show (cellsFrom (s.heap.objs.size+1+1) sc.names (GP X.env.cells sc.names [])).lookup x=some c;rw [KG,II,JP hfree,hc]
        cases e2:(cellsFrom (s.heap.objs.size+1+1) sc.names []).lookup x with
        | some d=>
         have:=IY cs.ns (XD (mem_of_lookup e2));rw [h3] at this
         cases this
        | none=>rfl
 case cell=>
  intro x c hc;rcases cell hc with p | ⟨p,p'⟩
  . exact ⟨_,(okc.empty x c p).1⟩
  . obtain ⟨v,hv⟩:=I.cell x c p';exact ⟨v,hv.keeps JI⟩
 case freeC=>
  intro x c hc;rcases cell hc with p | ⟨p,p'⟩
  . have:=newc p;exact I.hok.fresh (by omega)
  . exact I.freeC x c p'
 case pin=>intro p hp;cases hp
 case len=>
  show (FY ix σ).length=N'.length;unfold FY;rw [List.length_map,cs.len]
def GK(S:Nat->Bool)(g:TG):Prop:=∀v σ H Q,g v σ H Q->g v σ H fun σ' H'=>Q σ' H'/\σ'.length=σ.length/\∀i:Nat,S i=false->σ'[i]? = σ[i]?
def PTs(X:Cx)(ifs:List Expr)(t:TT):Prop:=
 ∀(pins:List (Addr×Obj)) (s:Shared) (σ:L2.St) (H:Hp) (Q:Bool->Hp->Prop),Inv X pins σ H s->t σ H Q ->
   wpAny (model X.prog X.w) X.A (forIn ifs true fun c r=>if r=true then do let ok <-isTrue c X.env (eval c X.env);pure (ForInStep.yield ok) else pure (ForInStep.yield r)) (TP X pins σ Q) X.xe s
def tNoTest:TT:=fun _ H Q=>Q true H
theorem lC{X:Cx}:PTs X [] tNoTest:=fun _ _ _ H _ I h=>wpAny_tests_nil ⟨H,I,h⟩
theorem pN{X:Cx}{c:Expr}{t:TT}(h:PT X c t):PTs X [c] t:=fun pins s σ H Q I q=>wpAny_tests_one (h pins s σ H Q I q)
def xQ(J:It)(σ0:L2.St)(g:TG)(tt:TT)(te:TE)(H1:Hp)(Q:VK):Prop:=∃W:Nat->Nat->List V->Hp->Prop,(∃m,W 0 m [] H1)/\∀i m ys H,W i m ys H->ys.length<sizeLine /\
 ((J.stop i H/\∀p,H p=none->Q (.ref p) (upd H p (.lst ys))) \/
  (J.go i H/\∃N:List V->Hp->Prop,(∀ys' H',N ys' H'->∃m',m'<m/\W (i+1) m' ys' H')/\∀x H',J.yld i H x H'->g x σ0 H' fun σ2 H2=>tt σ2 H2 fun b H3=>if b=true then te σ2 H3 fun y H4=>N (ys ++ [y]) H4 else N ys H3))
theorem KL {prog : Program} {w : World} {A : Around} {R : Result -> Shared -> Prop} {s : Shared} {elt target iter : Expr} {ifs : List Expr} {scope : Scope} {pos : Pos} {it acc : Value} {env : Env} (I : Nat -> Shared -> Prop)
 (turn:∀n s,I n s->wpAny (model prog w) A (pyNext it) (fun r s₁=>match r with
  | none=>R (.ok .next) s₁
  | some v => wpAny (model prog w) A (letOwnedTupleGo target it v) (fun _ s₁ => wpAny (model prog w) A (assign target env v) (fun _ s₂ =>
   wpAny (model prog w) A (forIn ifs true fun c r=>if r=true then do let ok <-isTrue c env (eval c env);pure (ForInStep.yield ok) else pure (ForInStep.yield r)) (fun ok s₃=>
    if ok=true then wpAny (model prog w) A (eval elt env) (fun x s₄=>
     wpAny (model prog w) A (call (.builtin "list.append") [acc,x]) (fun _ s₅=>∃m,m<n/\I m s₅) (fun _ _=>False) s₄) (fun _ _=>False) s₃
    else ∃m,m<n/\I m s₃) (fun _ _=>False) s₂) (fun _ _=>False) s₁) (fun _ _=>False) s₁) (fun _ _=>False) s)
 (n:Nat) (h:I n s) :
 codeAny (model prog w) A (.compLoop (.ListComp elt [⟨target,iter,ifs,0⟩] scope pos) 0 it acc env) R s:=by
 refine codeAny_loop rfl I (fun n s hI=> ?_) n h;show wpAny _ A ((compTurn (.ListComp elt [⟨target,iter,ifs,0⟩] scope pos) 0 it acc env).onRaise (fun x=>do noteFrame x env;theTreesLotGoes x)) _ _ s;refine wpAny_noted ?_;rw [compTurn_list];refine A5 (XZ (A5 (FN (turn n s hI) (fun r s₁ h₁=> ?_) fun _ _ h'=>h'.elim)))
 cases r with
 | none=>exact AR h₁
 | some v=>
  refine A5 (FN h₁ (fun _ s₁ h₁=> ?_) fun _ _ h'=>h'.elim);refine A5 (FN h₁ (fun _ s₂ h₂=>A5 (FN h₂ (fun ok s₃ h₃=> ?_) fun _ _ h'=>h'.elim)) fun _ _ h'=>h'.elim)
  cases ok with
  | false=>exact AR ⟨rfl,h₃⟩
  | true=>
   exact A5 (A5 (FN h₃ (fun x s₄ h₄=>A5 (FN h₄ (fun _ s₅ h₅=>AR (AR ⟨rfl,h₅⟩)) fun _ _ h'=>h'.elim)) fun _ _ h'=>h'.elim))
theorem SS{P:Program}{w:World}{H:Hp}{h:Heap}{a:Addr}{o:HO}(x:HOk P w H h)(hn:H a=none)(new:ObjOk P w (upd H a o) h a o):HOk P w (upd H a o) h:=fun b u e=>by
 by_cases hb:b=a
 . subst hb;rw [BC] at e
   cases e
   exact new
 . rw [AY hb] at e
   refine (x b u e).stay (fun _ _ _ q=>q) (fun c q=> ?_) (fun c xs q=> ?_) fun c ob xs q=> ?_
   . rw [AY (BD q hn)];exact q
   . rw [AY (BD q hn)];exact q
   . rw [AY (BD q hn)];exact q
def O0(ix:List (Option Nat))(i:Nat):Bool:=match ix[i]? with | some (some _)=>false | _=>true
structure BlkEnd (X:Cx) (pins:List (Addr×Obj)) (σ:L2.St) (C D:Addr) (H:Hp) (ys:List V) (s':Shared):Prop where
 inv:Inv X pins σ (upd H D (.lst ys)) s'
 free:H D=none
 ns:∃m,s'.heap.Ns C m
 cfree:(upd H D (.lst ys)) C=none
 cl:C≠X.env.locals
 cn:X.s₀.heap.objs.size<=C
 cc:∀x c,X.env.cells.lookup x=some c->c≠C
 cp:∀p ∈ X.pn++pins,p.1≠C
theorem QQ {tg elt iter : Expr} {ifs : List Expr} {scope : Scope} {pos : Pos} {J : It} {it : Addr} {tn : Nat -> Heap -> Prop} {g : TG} {tt : TT} {te : TE} {Q : VK} {R : Result -> Shared -> Prop}
 (I2:Inv X pins σ H s) (cs:CS osc sc X.N N' ix) (ho:X.env.scope=osc) (hc:X.calm=true) (T:Turn X.prog X.w X.K tg J fp it tn) (st2:tn 0 s.heap) (f2:∀b ∈ fp,KM X pins H b)
 (hg:PG (cxC X osc sc N' ⟨s.heap.objs.size+1,s,H,fp ++ [s.heap.objs.size]⟩) tg g) (gk:GK (O0 ix) g)
 (ht:PTs (cxC X osc sc N' ⟨s.heap.objs.size+1,s,H,fp ++ [s.heap.objs.size]⟩) ifs tt) (he:PE (cxC X osc sc N' ⟨s.heap.objs.size+1,s,H,fp ++ [s.heap.objs.size]⟩) elt te)
 (rd:xQ J (FY ix σ) g tt te H Q)
 (hR:∀ys H' s',BlkEnd X pins σ (s.heap.objs.size+1) s.heap.objs.size H' ys s'->Q (.ref s.heap.objs.size) (upd H' s.heap.objs.size (.lst ys))->R (.ok .next) s') :
 codeAny (model X.prog X.w) X.A (.compStart (.ListComp elt [⟨tg,iter,ifs,0⟩] scope pos) 0 (.ref it) (.ref s.heap.objs.size) (v6 osc sc (GP X.env.cells sc.names []) (s.heap.objs.size+1) X.env)) R {s with heap:=IP s.heap sc}:=by
 have ltS:∀ {h:Heap} {b:Addr} {o:Obj},h.get? b=some o -> @LT.lt Nat _ b h.objs.size:=fun e=>AU e;have hlt:∀b ∈ fp,b<s.heap.objs.size:=fun b hb=>(T.obj 0 _ st2 b hb).elim fun o h=>AU h.1;have I3:=gQ I2 cs ho f2 hlt;generalize eX:cxC X osc sc N' ⟨s.heap.objs.size+1,s,H,fp ++ [s.heap.objs.size]⟩=X' at *
 have eE:v6 osc sc (GP X.env.cells sc.names []) (s.heap.objs.size+1) X.env=X'.env:=by rw [<-eX];rfl
 have eP:X'.prog=X.prog:=by rw [<-eX];rfl
 have eW:X'.w=X.w:=by rw [<-eX];rfl
 have eK:X'.K=X.K:=by rw [<-eX];rfl
 have eA:X'.A=X.A:=by rw [<-eX];rfl
 have eC:X'.calm=true:=by rw [<-eX];exact hc
 have eL:X'.env.locals=s.heap.objs.size+1:=by rw [<-eX];rfl
 have eF:X'.fs=frs X.stack:=by rw [<-eX];rfl
 have eEx:X'.ex=fp ++ [s.heap.objs.size]:=by rw [<-eX];rfl
 have eN:X'.pn = []:=by rw [<-eX];rfl
 have eS:X'.s₀=s:=by rw [<-eX];rfl
 have eH:X'.H₀=H:=by rw [<-eX];rfl
 have exe:X'.xe=fun _ _=>False:=by rw [<-eX];rfl
 have okX:=I3.ok;have mD:s.heap.objs.size ∈ X'.ex:=by rw [eEx];exact AM _ (AD.mpr rfl)
 have mF:∀b ∈ fp,b ∈ X'.ex:=fun b hb=>by rw [eEx];exact J7 _ hb
 obtain ⟨W,⟨m0,w0⟩,turn⟩:=rd
 have stat:∀ {H':Hp} {o:Obj},(∀b ∈ fp,H' b=none)->∀b ∈ fp,KM X' [(s.heap.objs.size,o)] H' b:=fun {H' o} hn b hb=>by
  refine ⟨hn b hb,(okX.exf b (mF b hb)).1,okX.exfs b (mF b hb), .inl (mF b hb),(okX.exf b (mF b hb)).2,fun p hp e=> ?_⟩;rw [eN] at hp
  have hp:p=(s.heap.objs.size,o):=by simpa using hp
  subst hp;have l : @LT.lt Nat _ b s.heap.objs.size:=hlt b hb;have e:s.heap.objs.size=b:=e;rw [<-e] at l
  omega
 have pinD:∀ {σ':L2.St} {H':Hp} {s':Shared} {o:Obj},Inv X' [] σ' H' s'->s'.heap.get? s.heap.objs.size=some o->H' s.heap.objs.size=none->(∀v,o.data ≠ .cell v)->Inv X' [(s.heap.objs.size,o)] σ' H' s':=fun {σ' H' s' o} I e hn hd=>by
  refine I.pins_of fun p hp=> ?_;have hp:p=(s.heap.objs.size,o):=by simpa using hp
  subst hp;exact ⟨e,hn,(okX.exf _ mD).1,okX.exfs _ mD,hd⟩
 rw [eE];have I3':Inv X' [] (FY ix σ) H {s with heap:=IP s.heap sc}:=I3;have dat:∀(its:List Value) (k:Nat) (v:Option Value),({cls:= .type "list",data:= .seq its.toArray k}:Obj).data ≠ .cell v:=fun _ _ _ z=>nomatch z;have acc0:(IP s.heap sc).get? s.heap.objs.size=some {cls:= .type "list",data:= .seq ([]:List Value).toArray 0}:=rA _ _ _ _ (A3 _ (AW _ rfl));have st3:tn 0 (IP s.heap sc):=T.keep 0 _ _ st2 fun b hb o e=>JI b o e
 have loop:∀s3:Shared,s3={s with heap:=IP s.heap sc}->codeAny (model X.prog X.w) X.A (.compLoop (.ListComp elt [⟨tg,iter,ifs,0⟩] scope pos) 0 (.ref it) (.ref s.heap.objs.size) X'.env) R s3:=by
  rintro s3 rfl
  refine KL (fun n s'=>∃i ys H' its k,Inv X' [] (FY ix σ) H' s'/\tn i s'.heap/\(∀b ∈ fp,H' b=none)/\W i n ys H'/\s'.heap.get? s.heap.objs.size=some {cls:= .type "list",data:= .seq its.toArray k}/\Vals ys its/\H' s.heap.objs.size=none)
   ?_ m0 ⟨0,[],H,[],0,I3',st3,fun b hb=>(f2 b hb).1,w0,acc0, .nil,I2.hok.fresh (AA _)⟩
  rintro n s3 ⟨i,ys,H3,its,k,J3,t3,fr3,w3,a3,v3,d3⟩;obtain ⟨hz,w3⟩:=turn i n ys H3 w3;have J3p:=pinD J3 a3 d3 (dat its k);rcases w3 with ⟨stop,q⟩ | ⟨go,N,hN,step⟩
  . have TD:=T.done X' eP eW eK eC i [(s.heap.objs.size,_)] s3 (FY ix σ) H3 (fun _ _=>False) J3p (stat fr3) t3 stop;rw [eA] at TD
    refine thn TD fun r s4 ⟨hr,I4⟩ => ?_;subst hr;have a4:=(I4.pin (s.heap.objs.size,_) (AM _ (AD.mpr rfl))).1;have hd4:=I4.base;rw [eF,eEx,eH,eS] at hd4
    refine hR ys H3 s4 ⟨?_,d3,?_,?_,?_,?_,?_,?_⟩ (q _ d3)
    . refine I2.call' (ch:=fp ++ [s.heap.objs.size]) (by have z:=I4.os;rw [eS] at z;exact z) ?_ ?_ I4.bare ?_
      . refine ⟨hd4.keep,hd4.slot,fun b o e n x=> ?_,hd4.there,fun b xs e=> ?_,fun b o u e=> ?_,fun b ps e=> ?_⟩
        . have l:=ltS e;rw [AY (by intro z;subst z;omega)];exact hd4.free b o e n x
        . have z:=hd4.tups b xs e;rw [AY (BD z d3)];exact z
        . have z:=hd4.frzs b o u e;rw [AY (BD z d3)];exact z
        . obtain ⟨more,z⟩:=hd4.tbls b ps e;exact ⟨more,by rw [AY (BD z d3)];exact z⟩
      . have hk:=I4.hok;rw [eP,eW] at hk
        exact SS hk d3 ⟨HY hz,its,k,v3,a4⟩
      . intro b hb;rcases CN.mp hb with hb | hb
        . obtain ⟨f0,f1,f2,f3,f4,f5⟩:=f2 b hb;exact ⟨f3,f1,f4,f5⟩
        . have hb:b=s.heap.objs.size:=by simpa using hb
          subst hb;refine ⟨.inr I2.sz,fun e=> ?_,fun x c hx e=> ?_,fun p hp e=> ?_⟩
          . have l : @LT.lt Nat _ X.env.locals s.heap.objs.size:=I2.lt;rw [<-e] at l
            omega
          . obtain ⟨v,hv⟩:=I2.cell x c hx;have l : @LT.lt Nat _ c s.heap.objs.size:=hv.lt;rw [e] at l
            omega
          . have l:=ltS (I2.pin p hp).1;rw [e] at l
            omega
    . obtain ⟨m,hm,_⟩:=I4.loc;rw [eL] at hm
      exact ⟨m,hm⟩
    . rw [AY (Nat.succ_ne_self _)];have z:=I4.free;rw [eL] at z
      exact z
    . intro e;have l : @LT.lt Nat _ X.env.locals s.heap.objs.size:=I2.lt;rw [<-e] at l
      omega
    . have:=I2.sz;exact zQ this
    . intro x c hx e;obtain ⟨v,hv⟩:=I2.cell x c hx;have l : @LT.lt Nat _ c s.heap.objs.size:=hv.lt;rw [e] at l
      omega
    . intro p hp e;have l:=ltS (I2.pin p hp).1;rw [e] at l
      omega
  . have TI:=T.item X' eP eW eK eC i [(s.heap.objs.size,_)] s3 (FY ix σ) H3 (fun _ _=>False) J3p (stat fr3) t3 go;rw [eA] at TI
    refine thn TI fun r s4 ⟨u,hr,h4⟩ => ?_;subst hr;refine thn h4 fun _ s5 ⟨x,H5,I5,r5,y5,st5,fr5⟩ => ?_;have I5':=I5.pinned (stat fr5) (T.obj _ _ st5);have HG:=hg _ s5 (FY ix σ) H5 x u _ I5' r5 (gk _ _ _ _ (step x H5 y5));rw [eP,eW,eA,exe] at HG
    refine thn HG fun _ s6 ⟨σ6,H6,I6,q6,l6,k6⟩ => ?_;have HT:=ht _ s6 σ6 H6 _ I6 q6;rw [eP,eW,eA,exe] at HT
    refine thn HT fun b s7 ⟨H7,I7,q7⟩ => ?_
    have weak:∀ {ps:List (Addr×Obj)} {H':Hp} {s':Shared},Inv X' ps σ6 H' s'->Inv X' ps (FY ix σ) H' s':=fun I=>I.weak l6.symm fun j v e=>by
     have hs:O0 ix j=false:=by
      unfold O0;unfold FY at e
      rw [B8] at e
      cases e2:ix[j]? with
      | none=>rw [e2] at e;cases e
      | some o=>
       rw [e2] at e
       cases o with
       | none=>cases e
       | some z=>rfl
     rw [k6 j hs];exact e
    have pinA : ∀ {σ' : L2.St} {H' : Hp} {s' : Shared}, Inv X' ([(s.heap.objs.size, { cls := .type "list", data := .seq its.toArray k })] ++ PH fp s5.heap) σ' H' s' ->
     s'.heap.get? s.heap.objs.size=some {cls:= .type "list",data:= .seq its.toArray k}/\H' s.heap.objs.size=none/\tn (i+1) s'.heap/\∀b ∈ fp,H' b=none:=fun {σ' H' s'} I=>by
     have z:=I.pin (s.heap.objs.size,_) (AM _ (J7 _ (AD.mpr rfl)));refine ⟨z.1,z.2.1,T.keep _ _ _ st5 fun b hb o e=>(I.pin (b,o) (AM _ (AM _ (JM hb e)))).1,fun b hb=> ?_⟩;obtain ⟨o,e,d⟩:=T.obj _ _ st5 b hb;exact (I.pin (b,o) (AM _ (AM _ (JM hb e)))).2.1
    cases b with
    | false=>
     have q7:N ys H7:=q7;obtain ⟨m',hm,w7⟩:=hN ys H7 q7;obtain ⟨p1,p2,p3,p4⟩:=pinA I7
     exact ⟨m',hm,i+1,ys,H7,its,k,(weak I7).pins_of (fun _ z=>(nomatch z)),p3,p4,w7,p1,v3,p2⟩
    | true=>
     have HE:=he _ s7 σ6 H7 _ I7 q7;rw [eP,eW,eA,exe] at HE
     refine thn HE fun y s8 ⟨z,H8,I8,r8,q8⟩ => ?_;obtain ⟨m',hm,w8⟩:=hN _ H8 q8;obtain ⟨p1,p2,p3,p4⟩:=pinA I8;refine aY GF ⟨_,p1,rfl⟩ F.entry_list_append (A06 _ _) (zO s.heap.objs.size its.toArray k y (by rw [AK, <-v3.length];omega)) ⟨p1,?_⟩;have q:=PySem.IsL.update p1 (fun a=>a.push y);have other:∀b o,b≠s.heap.objs.size->s8.heap.get? b=some o->(s8.heap.update s.heap.objs.size (Obj.mapSeq fun a=>a.push y)).get? b=some o:=fun b o hb e=>(Q8 s8.heap _ (HZ hb)).trans e;have eq:its.toArray.push y=(its ++ [y]).toArray:=by simp
     have q:IsL (s8.heap.update s.heap.objs.size (Obj.mapSeq fun a=>a.push y)) s.heap.objs.size (its.toArray.push y) _:=q;rw [eq] at q
     refine ⟨m',hm,i+1,ys ++ [z],H8,its ++ [y],_,?_,T.keep _ _ _ p3 fun b hb o e=>other b o (fun z=> ?_) e,p4,w8,q,v3.append (.cons r8 .nil),p2⟩
     . have I8w:Inv X' [] (FY ix σ) H8 s8:=(weak I8).pins_of fun _ z=>nomatch z;refine I8w.turned (it:=s.heap.objs.size) other p2 (okX.exf _ mD).1 (.inl mD) (okX.exf _ mD).2 fun p hp=> ?_;rw [eN] at hp
       cases hp
     . have l : @LT.lt Nat _ b s.heap.objs.size:=hlt b hb;rw [z] at l
       omega
 exact codeAny_compStart_list (loop _ rfl) (T.self X.A 0 _ _ _ st3 (loop _ rfl))
def tLC(ix:List (Option Nat))(wi:TI)(g:CB->TG)(tt:CB->TT)(te:CB->TE):TE:=fun σ H Q=>wi σ H fun J H1=>∀b:CB,xQ J (FY ix σ) (g b) (tt b) (te b) H1 Q
theorem xD {tg elt iter : Expr} {ifs : List Expr} {pos : Pos} {wi : TI} {g : CB -> TG} {tt : CB -> TT} {te : CB -> TE} (hc : X.calm = true) (ho : X.env.scope = osc) {N : List Str} (hN : X.N = N) (hcs : WR osc sc N N' ix = true) (hi : PI X tg iter wi)
 (hb:∀b:CB,PG (cxC X osc sc N' b) tg (g b)/\PTs (cxC X osc sc N' b) ifs (tt b)/\PE (cxC X osc sc N' b) elt (te b)) (gk:∀b:CB,GK (O0 ix) (g b))
 (hs:∀x,foldedSetIterable iter X.env x=pure x:=by intro _;rfl):PE X (.ListComp elt [⟨tg,iter,ifs,0⟩] sc pos) (tLC ix wi g tt te):=by
 subst hN;have cs:=CS.of hcs;intro pins s σ H Q I h;rw [eval_ListComp];have hcl:=LG (XX I cs ho);refine yW (use:=none) rfl hs hcl cs.kind cs.names (thn (hi pins s σ H _ I h) fun v s1 h1=>thn h1 fun itv s2 h2=> ?_);obtain ⟨it,fp,tn,J,H2,e,I2,T,st2,f2,rd⟩:=h2;subst e;refine FD ?_;refine IU ?_;have hb':=hb ⟨s2.heap.objs.size+1,s2,H2,fp ++ [s2.heap.objs.size]⟩
 have rb:=QQ (scope:=sc) (pos:=pos) (iter:=iter) (R:=compPost (model X.prog X.w) X.A X.xe none (EP X pins σ Q) (.ref s2.heap.objs.size) (s2.heap.objs.size+1)) I2 cs ho hc T st2 f2 hb'.1 (gk _) hb'.2.1 hb'.2.2 (rd _) (fun ys H' s' B q=>by
  obtain ⟨m,hm⟩:=B.ns;refine ⟨m,hm,fun h' hsb=> ?_⟩;refine ⟨.ref s2.heap.objs.size,upd H' s2.heap.objs.size (.lst ys),?_,rfl,q⟩;exact B.inv.turned (it:=s2.heap.objs.size+1) (fun b o hb e=>hsb.extBut b o hb e) B.cfree B.cl (.inr B.cn) B.cc B.cp)
 have sz:(s2.heap.push HR).objs.size=s2.heap.objs.size+1:=CZ ..;show codeAny _ _ (.compStart _ 0 (.ref it) (.ref s2.heap.objs.size) {newEnv sc (s2.heap.push HR).objs.size X.env.globals (cellsFrom ((s2.heap.push HR).objs.size+1) sc.names (GP X.env.cells sc.names [])) X.env.qual none .none (some X.env) builtinsNs with scope:=relabel sc X.env}) (compPost _ _ _ none _ (.ref s2.heap.objs.size) (s2.heap.push HR).objs.size) _;rw [sz,OW,ho];exact rb
def qC(i:Nat)(t:TE):TS:=fun D σ H=>t σ H fun v H1=>D.nx (σ.set i (some v)) H1
theorem YE {tg elt iter : Expr} {ifs : List Expr} {pos py spos : Pos} {wi : TI} {g : CB -> TG} {tt : CB -> TT} {te : CB -> TE} {i : Nat} {y : Str} (hnd : X.N.Nodup) (hi' : X.N[i]? = some y) (hy : X.env.scope.names.lookup y = some .local)
 (hsw:swapsWith (.ListComp elt [⟨tg,iter,ifs,0⟩] sc pos) (some (.Name y py)) spos.line X.env=pure true)
 (hc:X.calm=true) (ho:X.env.scope=osc) {N:List Str} (hN:X.N=N) (hcs:WR osc sc N N' ix=true) (hi:PI X tg iter wi)
 (hb:∀b:CB,PG (cxC X osc sc N' b) tg (g b)/\PTs (cxC X osc sc N' b) ifs (tt b)/\PE (cxC X osc sc N' b) elt (te b)) (gk:∀b:CB,GK (O0 ix) (g b))
 (hs:∀x,foldedSetIterable iter X.env x=pure x:=by intro _;rfl):PS X (.Assign [.Name y py] (.ListComp elt [⟨tg,iter,ifs,0⟩] sc pos) spos) (qC i (tLC ix wi g tt te)):=by
 have hN':=hN;subst hN;have cs:=CS.of hcs;intro pins s σ H D I h;rw [exec_Assign_Name_used _ _ _ _ hsw];have hcl:=LG (XX I cs ho);refine A5 (XZ (A5 ?_));show wpAny _ X.A (do let _ <-comprehension (.ListComp elt [⟨tg,iter,ifs,0⟩] sc pos) sc X.env _ (newList []) false (eval iter X.env) (some (assign (.Name y py) X.env))) _ _ s
 refine A5 (FN (yW (use:=some (assign (.Name y py) X.env)) (Q:=fun _ s'=>SP X pins D .next s') rfl hs hcl cs.kind cs.names
  (thn (hi pins s σ H _ I h) fun v s1 h1=>thn h1 fun itv s2 h2=> ?_)) (fun _ s' hq=>AR (AR hq)) fun _ _ e=>e)
 obtain ⟨it,fp,tn,J,H2,e,I2,T,st2,f2,rd⟩:=h2;subst e;refine FD ?_;refine IU ?_;have hb':=hb ⟨s2.heap.objs.size+1,s2,H2,fp ++ [s2.heap.objs.size]⟩
 have rb:=QQ (scope:=sc) (pos:=pos) (iter:=iter) (R:=compPost (model X.prog X.w) X.A X.xe (some (assign (.Name y py) X.env)) (fun _ s'=>SP X pins D .next s') (.ref s2.heap.objs.size) (s2.heap.objs.size+1)) I2 cs ho hc T st2 f2 hb'.1 (gk _) hb'.2.1 hb'.2.2 (rd _) (fun ys H' s' B q=>by
  show wpAny _ X.A (assign (.Name y py) X.env (.ref s2.heap.objs.size)) _ _ s';refine wpAny_assign_Name (QN (v:= .ref s2.heap.objs.size) B.inv hnd hi' (.inl hy) rfl (fun s'' I'' ⟨a,sb,ha⟩ => ?_) (.inr hy))
  have hne:s2.heap.objs.size+1≠a:=by
   rcases ha with ha | ha
   . rw [ha];exact B.cl
   . exact (B.cc y a ha).symm
  obtain ⟨m,hm⟩:=B.ns;refine ⟨m,hm.sameBut sb hne,fun h' hsb=> ?_⟩;exact ⟨_,_,I''.turned (it:=s2.heap.objs.size+1) (fun b o hb e=>hsb.extBut b o hb e) B.cfree B.cl (.inr B.cn) B.cc B.cp,q⟩)
 have sz:(s2.heap.push HR).objs.size=s2.heap.objs.size+1:=CZ ..;show codeAny _ _ (.compStart _ 0 (.ref it) (.ref s2.heap.objs.size) {newEnv sc (s2.heap.push HR).objs.size X.env.globals (cellsFrom ((s2.heap.push HR).objs.size+1) sc.names (GP X.env.cells sc.names [])) X.env.qual none .none (some X.env) builtinsNs with scope:=relabel sc X.env}) (compPost _ _ _ _ _ (.ref s2.heap.objs.size) (s2.heap.push HR).objs.size) _;rw [sz,OW,ho];exact rb
end
end Tf
namespace Tf
open PySem PySem.Spec PyProof.Rows L2
def Itz(K:PySem.W.Frag)(a b:Addr):It:=
 ⟨fun i H=>∃xs ys x y,SqL K H a xs/\SqL K H b ys/\xs[i]? = some x/\ys[i]? = some y,
  fun i H v H'=>∃p x y,H p=none/\v = .ref p/\H'=upd H p (.tup [x,y])/\(∀xs,SqL K H a xs->xs[i]? = some x)/\(∀ys,SqL K H b ys->ys[i]? = some y),
  fun i H=>∃xs ys,SqL K H a xs/\SqL K H b ys/\(xs.length<=i\/ys.length<=i)⟩
def xM(z TI TO i1 i2 l1 l2:Addr)(i:Nat)(h:Heap):Prop:=IsZip h z TI TO .none/\IsPair h TI (.ref i1) (.ref i2)/\(∃a b,IsPair h TO a b)/\h.IsListIter i1 l1 i/\h.IsListIter i2 l2 i
theorem U2 {P : Program} {w : World} {K : PySem.W.Frag} {elts : List Expr} {k : Nat} {pos : Pos} {z TI TO i1 i2 l1 l2 : Addr} (D : ZipApart z TI TO i1 i2 l1 l2) :
 Turn P w K (.Tuple elts k pos) (Itz K l1 l2) [z,TI,TO,i1,i2] z (xM z TI TO i1 i2 l1 l2) where
 mem:=by simp
 obj:=fun i h st b hb=>by
  obtain ⟨h1,h2,⟨a,c,h3⟩,⟨o4,h4,_,d4⟩,⟨o5,h5,_,d5⟩⟩:=st;simp only [AZ,BA,EH] at hb
  rcases hb with rfl | rfl | rfl | rfl | rfl
  . exact ⟨_,h1,fun v e=>(nomatch e)⟩
  . exact ⟨_,h2,fun v e=>(nomatch e)⟩
  . exact ⟨_,h3,fun v e=>(nomatch e)⟩
  . exact ⟨_,h4,fun v e=>by rw [d4] at e;cases e⟩
  . exact ⟨_,h5,fun v e=>by rw [d5] at e;cases e⟩
 keep:=fun i h h' st kk=>by
  obtain ⟨h1,h2,⟨a,c,h3⟩,h4,h5⟩:=st;exact ⟨kk z (by simp) _ h1,kk TI (by simp) _ h2,⟨a,c,kk TO (by simp) _ h3⟩,h4.at fun o e=>kk i1 (by simp) o e,h5.at fun o e=>kk i2 (by simp) o e⟩
 item:=by
  intro X hP hw hK hc i pins s σ H E I hf st hg;subst hP hw hK;obtain ⟨h1,h2,⟨a,c,h3⟩,h4,h5⟩:=st;obtain ⟨xs,ys,x,y,q1,q2,hx,hy⟩:=hg;obtain ⟨its,rv,p,hz⟩:=I.list q1;obtain ⟨jts,rw',p',hz'⟩:=I.list q2;obtain ⟨u,hu,ru⟩:=rv.get hx;obtain ⟨u',hu',ru'⟩:=rw'.get hy;have ltS:∀ {h:Heap} {b:Addr} {o:Obj},h.get? b=some o -> @LT.lt Nat _ b h.objs.size:=fun e=>AU e;refine wpAny_pyNext_zip_item D h1 h2 h3 h4 h5 p.isList p'.isList (x:=u) (y:=u') (by simpa using hu) (by simpa using hu') fun h' a1 a2 a3 a4 a5 a6 hk=> ?_;refine ⟨_,rfl,yP a1 fun h'' a1' sb=> ?_⟩;have ch:∀b ∈ [z,TI,TO,i1,i2],H b=none:=fun b hb=>(hf b hb).1
  have kk:∀b o,b ∉ [z,TO,i1,i2]->s.heap.get? b=some o->h''.get? b=some o:=fun b o hb e=>by
   simp only [AZ,BA,EH,not_or] at hb
   exact sb.extBut b o hb.1 (hk b o hb.1 hb.2.1 hb.2.2.1 hb.2.2.2 e)
  have eT:h''.get? s.heap.objs.size=some {cls:= .type "tuple",data:= .seq #[u,u']}:=sb.extBut _ _ (fun e=>by have l:=ltS h1;rw [<-e] at l;omega) a5
  have sub:∀b,b ∈ [z,TO,i1,i2]->b ∈ [z,TI,TO,i1,i2]:=fun b hb=>by
   simp only [AZ,BA,EH] at hb ⊢
   rcases hb with r | r | r | r
   . exact .inl r
   . exact .inr (.inr (.inl r))
   . exact .inr (.inr (.inr (.inl r)))
   . exact .inr (.inr (.inr (.inr r)))
  have nT:H s.heap.objs.size=none:=I.hok.fresh (AA _)
  have hok1 : HOk X.prog X.w H h'' := fun b o e => (I.hok b o e).stay (fun d v hd q => kk d v (fun hm => by
   have n:=ch d (sub d hm);rcases hd with hd | hd
   . rw [hd,e] at n;cases n
   . rw [hd] at n;cases n) q) (fun _ q=>q) fun _ _ q=>q
  have hok2:HOk X.prog X.w (upd H s.heap.objs.size (.tup [x,y])) h'':=SS hok1 nT ⟨by show 2<=sizeLine;decide,[u,u'], .cons ru (.cons ru' .nil),⟨_,eT,rfl,_,rfl⟩⟩
  have un:Un (frs X.stack) [z,TO,i1,i2] H (upd H s.heap.objs.size (.tup [x,y])) s.heap h'':=by
   refine ⟨fun b o e _ _ hx=>kk b o hx e,fun b o e _ _ hx=>⟨o.slots,kk b o hx e⟩,fun b o e n _=> ?_,fun b o e hx=>⟨o,kk b o hx e⟩,fun b zs e=> ?_,fun b o v e=> ?_,fun b ps e=>⟨#[],?_⟩⟩
   . have l:=ltS e;rw [AY (by intro q;subst q;omega)];exact n
   . rw [AY (BD e nT)];exact e
   . rw [AY (BD e nT)];exact e
   . rw [AY (BD e nT)];simpa using e
  have I2:Inv X pins σ (upd H s.heap.objs.size (.tup [x,y])) {s with heap:=h'' }:=I.call' rfl un hok2 I.bare fun b hb=>by
   obtain ⟨f0,f1,f2,f3,f4,f5⟩:=hf b (sub b hb);exact ⟨f3,f1,f4,f5⟩
  refine ⟨.ref s.heap.objs.size,_,I2,rfl,⟨s.heap.objs.size,x,y,nT,rfl,rfl,fun zs hq=> ?_,fun zs hq=> ?_⟩,⟨a1',?_,⟨_,_,sb.extBut _ _ D.TOz a2⟩,a3.extBut sb.extBut D.i1z,a4.extBut sb.extBut D.i2z⟩,fun b hb=> ?_⟩
  . rw [I.list_inj hq q1];exact hx
  . rw [I.list_inj hq q2];exact hy
  . exact sb.extBut _ _ D.TIz (hk TI _ D.TIz D.TITO D.TIi1 D.TIi2 h2)
  . have n:=ch b hb
    obtain ⟨o,e⟩:∃o,s.heap.get? b=some o:=by
     simp only [AZ,BA,EH] at hb
     rcases hb with rfl | rfl | rfl | rfl | rfl
     . exact ⟨_,h1⟩
     . exact ⟨_,h2⟩
     . exact ⟨_,h3⟩
     . obtain ⟨o,e,_⟩:=h4;exact ⟨o,e⟩
     . obtain ⟨o,e,_⟩:=h5;exact ⟨o,e⟩
    have l:=ltS e;rw [AY (by intro q;subst q;omega)];exact n
 done:=by
  intro X hP hw hK hc i pins s σ H E I hf st hg;subst hP hw hK;obtain ⟨h1,h2,⟨a,c,h3⟩,h4,h5⟩:=st;obtain ⟨xs,ys,q1,q2,he⟩:=hg;obtain ⟨its,rv,p,hz⟩:=I.list q1;obtain ⟨jts,rw',p',hz'⟩:=I.list q2;have l1:=rv.length;have l2:=rw'.length
  refine wpAny_pyNext_zip_end (I.ok.hd hc) D h1 h2 h3 h4 h5 p.isList p'.isList (by rcases he with e | e; · left; simp; omega
                                                                                   . right;simp;omega) fun h' hk=>⟨rfl,?_⟩
  have ch:∀b ∈ [z,TI,TO,i1,i2],H b=none:=fun b hb=>(hf b hb).1
  have sub:∀b,b ∈ [z,TO,i1,i2]->b ∈ [z,TI,TO,i1,i2]:=fun b hb=>by
   simp only [AZ,BA,EH] at hb ⊢
   rcases hb with r | r | r | r
   . exact .inl r
   . exact .inr (.inr (.inl r))
   . exact .inr (.inr (.inr (.inl r)))
   . exact .inr (.inr (.inr (.inr r)))
  have kk:∀b o,b ∉ [z,TO,i1,i2]->s.heap.get? b=some o->h'.get? b=some o:=fun b o hb e=>by
   simp only [AZ,BA,EH,not_or] at hb
   exact hk b o hb.1 hb.2.1 hb.2.2.1 hb.2.2.2 e
  have hok1 : HOk X.prog X.w H h' := fun b o e => (I.hok b o e).stay (fun d v hd q => kk d v (fun hm => by
   have n:=ch d (sub d hm);rcases hd with hd | hd
   . rw [hd,e] at n;cases n
   . rw [hd] at n;cases n) q) (fun _ q=>q) fun _ _ q=>q
  have un:Un (frs X.stack) [z,TO,i1,i2] H H s.heap h' :=
   ⟨fun b o e _ _ hx=>kk b o hx e,fun b o e _ _ hx=>⟨o.slots,kk b o hx e⟩,fun b o e n _=>n,fun b o e hx=>⟨o,kk b o hx e⟩,fun b zs e=>e,fun b o v e=>e,fun b ps e=>⟨#[],by simpa using e⟩⟩
  exact I.call' rfl un hok1 I.bare fun b hb=>by
   obtain ⟨f0,f1,f2,f3,f4,f5⟩:=hf b (sub b hb);exact ⟨f3,f1,f4,f5⟩
 self:=fun _ _ _ _ _ st h=>K4 st.1 h
section
variable {X:Cx}
def yD(K:PySem.W.Frag)(ta:TA):TI:=fun σ H R=>ta σ H fun vs H1=>∃l1 l2,vs = [.ref l1, .ref l2]/\(∃xs,SqL K H1 l1 xs)/\(∃ys,SqL K H1 l2 ys)/\R (Itz K l1 l2) H1
theorem t9 {a b : Expr} {ta : TA} {elts : List Expr} {k : Nat} {tp p pos : Pos} (hg : Gl X "zip") (hm : X.mg "zip" = none) (ha : PA X [a, b] ta) (hs : starEach [a, b] X.env = [(false, eval a X.env), (false, eval b X.env)] := by rfl) (hs2 : starEach [b] X.env = [(false, eval b X.env)] := by rfl) :
 PI X (.Tuple elts k tp) (.Call (.Name "zip" p) [a,b] [] pos) (yD X.K ta):=by
 intro pins s σ H R I h;refine Call_ (IF I hg hm jK (CY (thn (ha pos pins s σ H _ I h) fun us s1 ⟨vs,H1,I1,r1,q1⟩ => ?_) (by rw [hs,hs2]) (by rw [hs2];rfl)));obtain ⟨l1,l2,e,⟨xs,q1⟩,⟨ys,q2⟩,q⟩:=q1;subst e;obtain ⟨u,w',rfl,ru,rw'⟩:=eD r1
 cases (show u=Value.ref l1 from ru)
 cases (show w'=Value.ref l2 from rw')
 obtain ⟨its,rv,p1,hz⟩:=I1.list q1;obtain ⟨jts,rv',p2,hz'⟩:=I1.list q2;have lt1:l1<s1.heap.objs.size:=by obtain ⟨o,n,e,_⟩:=p1;exact AU e
 have lt2:l2<s1.heap.objs.size:=by obtain ⟨o,n,e,_⟩:=p2;exact AU e
 refine call_zip_2 p1.isList p2.isList fun h' a1 a2 a3 a4 a5 a6 hk=> ?_;refine K4 (s:={s1 with heap:=h' }) a1 ?_;refine ⟨_,[s1.heap.objs.size+4,s1.heap.objs.size+2,s1.heap.objs.size+3,s1.heap.objs.size,s1.heap.objs.size+1],_,_,H1,rfl,I1.kept (t':=s1.toks) hk,U2 (zipApart_new lt1 lt2),⟨a1,a2,⟨_,_,a3⟩,a4,a5⟩,fun b hb=> ?_,q⟩
 have hb:s1.heap.objs.size<=b:=by
  simp only [AZ,BA,EH] at hb
  rcases hb with rfl | rfl | rfl | rfl | rfl
  . exact E2 _ _
  . exact E2 _ _
  . exact E2 _ _
  . exact AA _
  . exact E2 _ _
 exact I1.fpOk hb (I1.hok.fresh hb)
theorem VR(hc:X.calm=true):JX X (.builtin "sum") (fun xs H Q=>∃p ns,xs = [.ref p]/\SqL X.K H p (ns.map V.int)/\Q (.int (List.sum ns)) H):=by
 intro pins s σ H xs us Q I r h;obtain ⟨p,ns,rfl,hq,q⟩:=h;obtain ⟨u,rfl,ru⟩:=K0 r
 cases (show u=Value.ref p from ru)
 obtain ⟨its,rv,pl,hz⟩:=I.list hq;have hi:=X9 rv;obtain ⟨zs,ez⟩:=hi.allInts.items;have hl:s.heap.IsList p (intItems zs):=ez ▸ pl.isList
 have en:preSum (numAt zs) zs.size=ns.sum:=by
  rw [preSum_eq,BV (by simp)];have:=hi.numsOf;rw [<-this];have e2:its=(intItems zs).toList:=by rw [<-ez]
  rw [e2,nums_intItems]
 refine sum_intListG (I.ok.hd hc) hl fun h' tk t' hk=> ?_;rw [en];exact ⟨.int ns.sum,H,I.kept hk,⟨t',rfl⟩,q⟩
section
variable {K:PySem.W.Frag} {σ0:L2.St} {g:TG} {tt:TT} {te:TE} {H:Hp} {Q:VK}
theorem Reps.snoc{vs:List V}{ds:List PyData}{v:V}{d:PyData}(h:Reps K H vs ds)(k:Rep K H v d):Reps K H (vs ++ [v]) (ds ++ [d]):=by
 induction vs generalizing ds with
 | nil=>cases h;exact .cons k .nil
 | cons x xs ih=>cases h with | cons a b=>exact .cons a (ih b)
theorem Reps.get:∀ {vs:List V} {ds:List PyData} {i:Nat} {d:PyData},Reps K H vs ds->ds[i]? = some d->∃v,vs[i]? = some v/\Rep K H v d
 | _,_,_,_, .nil,e=>by simp at e
 | _,_,0,_, .cons r _,e=>by simp at e;subst e;exact ⟨_,rfl,r⟩
 | _,_,i+1,d, .cons _ t,e=>by
  obtain ⟨u,h1,h2⟩:=Reps.get (i:=i) (d:=d) t (by simpa using e);exact ⟨u,by simpa using h1,h2⟩
end
end
end Tf
namespace Dm
open PySem PySem.Spec PyProof.Rows L2 Tf
inductive Sl where
 | val (d:PyData)
 | own (ds:List PyData)
 | dct (kvs:List (PyData×PyData))
def Sl.dat:Sl->PyData
 | .val d=>d
 | .own ds=> .list ds
 | .dct kvs=> .dict kvs
abbrev En:=List (Option Sl)
theorem cA{H0 H:Hp}{p:Addr}{o:HO}(h:Same H0 H):Same (upd H0 p o) (upd H p o):=fun b u e=>by
 by_cases hb:b=p
 . subst hb;rw [BC] at e ⊢;exact e
 . rw [AY hb] at e ⊢;exact h b u e
def Mu:HO->Prop
 | .tup _=>False
 | _=>True
structure Ext (H0 H H0' H':Hp):Prop where
 s:Same H H'
 s0:Same H0 H0'
 s1:Same H0' H'
 own:∀a o,H a=some o->Mu o->H0 a=none->H0' a=none
theorem Ext.refl{H0 H:Hp}(h:Same H0 H):Ext H0 H H0 H:=⟨Same.refl _,Same.refl _,h,fun _ _ _ _ h=>h⟩
theorem Ext.trans{H0 H H1 J1 H2 J2:Hp}(a:Ext H0 H H1 J1)(b:Ext H1 J1 H2 J2):Ext H0 H H2 J2:=
 ⟨a.s.trans b.s,a.s0.trans b.s0,b.s1,fun x o h m h0=>b.own x o (a.s x o h) m (a.own x o h m h0)⟩
theorem Ext.chain{S0 HB H0 H H1 J1:Hp}(a:Ext S0 HB H0 H)(b:Ext H0 H H1 J1):Ext S0 HB H1 J1:=
 ⟨a.s.trans b.s,a.s0.trans b.s0,b.s1,fun x o h m h0=>b.own x o (a.s x o h) m (a.own x o h m h0)⟩
theorem Ext.rebase{S0 HB H0 H:Hp}(a:Ext S0 HB H0 H):Ext H0 HB H0 H:=⟨a.s,Same.refl _,a.s1,fun _ _ _ _ h=>h⟩
theorem Ext.unbase{S0 HB H0 H H1 J1:Hp}(a:Ext S0 HB H0 H)(b:Ext H0 HB H1 J1):Ext S0 HB H1 J1:=
 ⟨b.s,a.s0.trans b.s0,b.s1,fun x o h m h0=>b.own x o h m (a.own x o h m h0)⟩
theorem Ext.alloc{H0 H:Hp}{p:Addr}(h:Same H0 H)(hp:H p=none)(o:HO):Ext H0 H H0 (upd H p o) :=
 ⟨Same.upd hp o,Same.refl _,h.trans (Same.upd hp o),fun _ _ _ _ h=>h⟩
theorem Ext.allocF{H0 H:Hp}{p:Addr}(h:Same H0 H)(hp:H p=none)(o:HO):Ext H0 H (upd H0 p o) (upd H p o) :=
 ⟨Same.upd hp o,Same.upd (h.free hp) o,cA h,fun a o' ha _ h0=>by rw [AY (BD ha hp)];exact h0⟩
section
variable {K:PySem.W.Frag}
def DctR(K:PySem.W.Frag)(H0:Hp)(t:List (List Key×V))(kvs:List (PyData×PyData)):Prop:=∃(ks:List (List Key)) (xs:List V) (ds:List PyData),t=ks.zip xs/\ks.length=xs.length/\Reps K H0 xs ds/\kvs=(ks.map tH).zip ds
theorem DctR.same{H0 H0':Hp}{t:List (List Key×V)}{kvs:List (PyData×PyData)}(s:Same H0 H0')(h:DctR K H0 t kvs):DctR K H0' t kvs:=by
 obtain ⟨ks,xs,ds,e1,e2,e3,e4⟩:=h;exact ⟨ks,xs,ds,e1,e2,Reps.same s e3,e4⟩
theorem DctR.rep{H:Hp}{a:Addr}{t:List (List Key×V)}{kvs:List (PyData×PyData)}(h:DctR K H t kvs)(e:H a=some (.dT t)):Rep K H (.ref a) (.dict kvs):=by
 obtain ⟨ks,xs,ds,rfl,e2,e3,rfl⟩:=h;exact .dict (.inl e) e2 e3
def SlP(K:PySem.W.Frag)(H0 H:Hp)(v:V):Sl->Prop
 | .val d=>Rep K H0 v d
 | .own ds=>∃a vs,v = .ref a/\H a=some (.lst vs)/\Reps K H0 vs ds
 | .dct kvs=>∃a t,v = .ref a/\H a=some (.dT t)/\DctR K H0 t kvs
def SlH(K:PySem.W.Frag)(HB H0 H:Hp)(v:V):Sl->Prop
 | .val d=>Rep K H0 v d
 | .own ds=>∃a vs,v = .ref a/\HB a=none/\H0 a=none/\H a=some (.lst vs)/\Reps K H0 vs ds
 | .dct kvs=>∃a t,v = .ref a/\HB a=none/\H0 a=none/\H a=some (.dT t)/\DctR K H0 t kvs
theorem SlH.p{HB H0 H:Hp}{v:V}:∀ {s:Sl},SlH K HB H0 H v s->SlP K H0 H v s
 | .val _,h=>h
 | .own _,⟨a,vs,e,_,_,h1,h2⟩=>⟨a,vs,e,h1,h2⟩
 | .dct _,⟨a,vs,e,_,_,h1,h2⟩=>⟨a,vs,e,h1,h2⟩
theorem SlH.base{HB HB' H0 H:Hp}{v:V}(s:Same HB HB'):∀ {r:Sl},SlH K HB' H0 H v r->SlH K HB H0 H v r
 | .val _,h=>h
 | .own _,⟨a,vs,e,h0,h1,h2,h3⟩=>⟨a,vs,e,s.free h0,h1,h2,h3⟩
 | .dct _,⟨a,vs,e,h0,h1,h2,h3⟩=>⟨a,vs,e,s.free h0,h1,h2,h3⟩
theorem SlH.ext{HB H0 H H0' H':Hp}{v:V}(x:Ext H0 H H0' H'):∀ {r:Sl},SlH K HB H0 H v r->SlH K HB H0' H' v r
 | .val _,h=>Rep.same x.s0 h
 | .own _,⟨a,vs,e,h0,h1,h2,h3⟩=>⟨a,vs,e,h0,x.own a _ h2 D4 h1,x.s _ _ h2,Reps.same x.s0 h3⟩
 | .dct _,⟨a,vs,e,h0,h1,h2,h3⟩=>⟨a,vs,e,h0,x.own a _ h2 D4 h1,x.s _ _ h2,h3.same x.s0⟩
theorem SlP.ext{H0 H H0' H':Hp}{v:V}(x:Ext H0 H H0' H'):∀ {r:Sl},SlP K H0 H v r->SlP K H0' H' v r
 | .val _,h=>Rep.same x.s0 h
 | .own _,⟨a,vs,e,h2,h3⟩=>⟨a,vs,e,x.s _ _ h2,Reps.same x.s0 h3⟩
 | .dct _,⟨a,vs,e,h2,h3⟩=>⟨a,vs,e,x.s _ _ h2,h3.same x.s0⟩
theorem SlP.rep{H0 H:Hp}{v:V}(s:Same H0 H):∀ {r:Sl},SlP K H0 H v r->Rep K H v r.dat
 | .val _,h=>Rep.same s h
 | .own _,⟨a,vs,e,h2,h3⟩=>by subst e;exact .list (SqL.of h2) (Reps.same s h3)
 | .dct _,⟨a,vs,e,h2,h3⟩=>by subst e;exact (h3.same s).rep h2
theorem SlP.lst{H0 H:Hp}{v:V}{ds:List PyData}(s:Same H0 H):∀ {r:Sl},SlP K H0 H v r->r.dat = .list ds->∃a vs,v = .ref a/\SqL K H a vs/\Reps K H0 vs ds
 | .val _,h,e=>by
  cases h with
  | list h1 h2=>cases e;exact ⟨_,_,rfl,s.seq h1,h2⟩
  | _=>cases e
 | .own _,⟨a,vs,e,h2,h3⟩,e2=>by cases e2;exact ⟨a,vs,e,SqL.of h2,h3⟩
 | .dct _,_,e2=>by cases e2
theorem SlP.tup{H0 H:Hp}{v:V}{ds:List PyData}:∀ {r:Sl},SlP K H0 H v r->r.dat = .tuple ds->∃a vs,v = .ref a/\SqT K H0 a vs/\Reps K H0 vs ds
 | .val _,h,e=>by
  cases h with
  | tuple h1 h2=>cases e;exact ⟨_,_,rfl,h1,h2⟩
  | _=>cases e
 | .own _,_,e=>by cases e
 | .dct _,_,e=>by cases e
theorem SlP.int{H0 H:Hp}{v:V}{i:Int}(h:SlP K H0 H v (.val (.int i))):v = .int i:=by cases (show Rep K H0 v (.int i) from h);rfl
theorem SlP.bool{H0 H:Hp}{v:V}{i:Bool}(h:SlP K H0 H v (.val (.bool i))):v = .bl i:=by cases (show Rep K H0 v (.bool i) from h);rfl
theorem SlP.none{H0 H:Hp}{v:V}(h:SlP K H0 H v (.val .none)):v = .non:=by cases (show Rep K H0 v .none from h);rfl
theorem nB{H:Hp}{v:V}{d:PyData}(h:Rep K H v d):v = .non↔d = .none:=by
 cases h <;> simp
structure ER (K:PySem.W.Frag) (HB H0 H:Hp) (σ:L2.St) (ρ:En):Prop where
 len:σ.length=ρ.length
 get:∀(i:Nat) s,ρ[i]? = some (some s)->∃v,σ[i]? = some (some v)/\SlH K HB H0 H v s
 apart:∀(i j:Nat) a ds es,i≠j->ρ[i]? = some (some (.own ds))->ρ[j]? = some (some (.own es))->σ[i]? = some (some (.ref a))->σ[j]? ≠ some (some (.ref a))
theorem ER.ext{HB H0 H H0' H':Hp}{σ:L2.St}{ρ:En}(x:Ext H0 H H0' H')(e:ER K HB H0 H σ ρ):ER K HB H0' H' σ ρ:=
 ⟨e.len,fun i s h=>by obtain ⟨v,h1,h2⟩:=e.get i s h;exact ⟨v,h1,h2.ext x⟩,e.apart⟩
structure Rl where
 r:Hp->Hp->Hp->L2.St->En->Prop
 slot:Nat->Prop
structure ST (R:Rl) (HB H0 H:Hp) (σ:L2.St) (ρ:En):Prop where
 r:R.r HB H0 H σ ρ
class RelOk (K:outParam PySem.W.Frag) (R:Rl):Prop where
 ext:∀ {HB H0 H H0' H':Hp} {σ:L2.St} {ρ:En},Ext H0 H H0' H'->R.r HB H0 H σ ρ->R.r HB H0' H' σ ρ
 get:∀ {HB H0 H:Hp} {σ:L2.St} {ρ:En} {i:Nat} {s:Sl},R.r HB H0 H σ ρ->R.slot i->ρ[i]? = some (some s)->∃v,σ[i]? = some (some v)/\SlH K HB H0 H v s
 set:∀ {HB H0 H H0' H':Hp} {σ:L2.St} {ρ:En} {i:Nat} {v:V} {s:Sl},R.r HB H0 H σ ρ->R.slot i->Ext H0 H H0' H'->Same HB H->SlH K H H0' H' v s->R.r HB H0' H' (σ.set i (some v)) (ρ.set i (some s))
 write:∀ {HB H0 H:Hp} {σ:L2.St} {ρ:En} {i:Nat} {a:Addr} {ds es:List PyData} {vs ys:List V},R.r HB H0 H σ ρ->R.slot i->ρ[i]? = some (some (.own ds))->σ[i]? = some (some (.ref a))->HB a=none->H0 a=none->H a=some (.lst vs)->Reps K H0 ys es->R.r HB H0 (upd H a (.lst ys)) σ (ρ.set i (some (.own es)))
 frz:∀ {S0 HB H0 H:Hp} {σ:L2.St} {ρ:En} {i:Nat} {ds:List PyData},R.r HB H0 H σ ρ->R.slot i->ρ[i]? = some (some (.own ds))->Ext S0 HB H0 H->∃H0',Ext S0 HB H0' H/\R.r HB H0' H σ (ρ.set i (some (.val (.list ds))))
theorem ST.ext{R:Rl} [RelOk K R] {HB H0 H H0' H':Hp} {σ:L2.St} {ρ:En} (x:Ext H0 H H0' H') (e:ST R HB H0 H σ ρ):ST R HB H0' H' σ ρ:=⟨RelOk.ext (K:=K) x e.r⟩
def PR(K:PySem.W.Frag):Rl:=⟨ER K,fun _=>True⟩
variable {R:Rl} [RelOk K R]
def RX{α:Type}(K:PySem.W.Frag)(R:Rl)(P:Hp->Hp->Hp->V->α->Prop)(te:TE)(f:En->Option α):Prop:=
 ∀(HB:Hp) (σ:L2.St) (ρ:En) (H0 H:Hp),Same H0 H->ST R HB H0 H σ ρ->∀r,f ρ=some r->∀Q:VK,(∀v H0' H',Ext H0 H H0' H'->P H H0' H' v r->Q v H')->te σ H Q
abbrev RE (K:PySem.W.Frag) (R:Rl):TE->(En->Option Sl)->Prop:=RX K R (fun H H0' H' v r=>SlH K H H0' H' v r)
abbrev RP (K:PySem.W.Frag) (R:Rl):TE->(En->Option Sl)->Prop:=RX K R (fun _ H0' H' v r=>SlP K H0' H' v r)
abbrev RV (K:PySem.W.Frag) (R:Rl):TE->(En->Option PyData)->Prop:=RX K R (fun _ H0' _ v d=>Rep K H0' v d)
def RT(K:PySem.W.Frag)(R:Rl)(tt:TT)(f:En->Option Bool):Prop:=
 ∀(HB:Hp) (σ:L2.St) (ρ:En) (H0 H:Hp),Same H0 H->ST R HB H0 H σ ρ->∀b,f ρ=some b->∀Q:Bool->Hp->Prop,(∀H0' H',Ext H0 H H0' H'->Q b H')->tt σ H Q
def RA(K:PySem.W.Frag)(R:Rl)(ta:TA)(f:En->Option (List PyData)):Prop:=
 ∀(HB:Hp) (σ:L2.St) (ρ:En) (H0 H:Hp),Same H0 H->ST R HB H0 H σ ρ->∀ds,f ρ=some ds->∀Q:List V->Hp->Prop,(∀vs H0' H',Ext H0 H H0' H'->Reps K H0' vs ds->Q vs H')->ta σ H Q
def RQ(K:PySem.W.Frag)(R:Rl)(ta:TA)(f:En->Option (List Sl)):Prop:=
 ∀(HB:Hp) (σ:L2.St) (ρ:En) (H0 H:Hp),Same H0 H->ST R HB H0 H σ ρ->∀ss,f ρ=some ss->∀Q:List V->Hp->Prop,(∀vs H0' H',Ext H0 H H0' H'->Paired (SlP K H0' H') vs ss->Q vs H')->ta σ H Q
theorem RE.rp{te:TE}{f:En->Option Sl}(h:RE K R te f):RP K R te f:=fun HB σ ρ H0 H s e r hr Q q=>h HB σ ρ H0 H s e r hr Q fun v H0' H' x p=>q v H0' H' x p.p
theorem YJ{H0 H H0' H':Hp}{a:Addr}{w:HO}(x:Ext H0 H H0' H')(hn:H a=none)(h1:H0' a=none)(h2:H' a=some w):Ext H0 H (upd H0' a w) H' :=
 ⟨x.s,x.s0.trans (Same.upd h1 _),fun b u e=>by
  by_cases hb:b=a
  . subst hb;rw [BC] at e;rw [h2];exact e
  . rw [AY hb] at e;exact x.s1 b u e,fun b o hb m h0=>by
  rw [AY (BD hb hn)];exact x.own b o hb m h0⟩
def mDat(f:En->Option Sl):En->Option PyData:=fun ρ=>(f ρ).map Sl.dat
theorem RE.rv{te:TE}{f:En->Option Sl}(h:RE K R te f):RV K R te (mDat f):=fun HB σ ρ H0 H s e d hd Q q=>by
 obtain ⟨r,hr,rfl⟩:=AQ.mp hd;refine h HB σ ρ H0 H s e r hr Q fun v H0' H' x p=> ?_
 cases r with
 | val d=>exact q v H0' H' x p
 | own ds=>
  obtain ⟨a,vs,rfl,hn,h1,h2,h3⟩:=p
  exact q _ _ _ (YJ x hn h1 h2) (.list (SqL.of BC) (Reps.same (Same.upd h1 _) h3))
 | dct kvs=>
  obtain ⟨a,t,rfl,hn,h1,h2,h3⟩:=p;exact q _ _ _ (YJ x hn h1 h2) ((h3.same (Same.upd h1 _)).rep BC)
def mPk(i:Nat):En->Option Sl:=fun ρ=>(ρ[i]?).join
def mVar(i:Nat):En->Option Sl:=fun ρ=>match (ρ[i]?).join with
 | some (.val d)=>some (.val d)
 | _=>none
def mK(d:PyData):En->Option Sl:=fun _=>some (.val d)
theorem join_some{α:Type}{o:Option (Option α)}{a:α}(h:o.join=some a):o=some (some a):=by
 cases o with
 | none=>cases h
 | some b=>exact LX some h
theorem s9(i:Nat)(hs:R.slot i):RP K R (KI i) (mPk i):=fun HB σ ρ H0 H s e r hr Q q=>by
 obtain ⟨v,h1,h2⟩:=RelOk.get (K:=K) e.r hs (join_some hr);exact ⟨v,h1,q v H0 H (Ext.refl s) h2.p⟩
theorem vZ(i:Nat)(hs:R.slot i):RE K R (KI i) (mVar i):=fun HB σ ρ H0 H s e r hr Q q=>by
 unfold mVar at hr
 cases ej:(ρ[i]?).join with
 | none=>rw [ej] at hr;cases hr
 | some r' =>
  rw [ej] at hr
  cases r' with
  | own _=>cases hr
  | dct _=>cases hr
  | val d=>
   cases hr
   obtain ⟨v,h1,h2⟩:=RelOk.get (K:=K) e.r hs (join_some ej);exact ⟨v,h1,q v H0 H (Ext.refl s) h2⟩
theorem pB{v:V}{d:PyData}(h:∀H0:Hp,Rep K H0 v d):RE K R (tC v) (mK d):=fun HB σ ρ H0 H s e r hr Q q=>by
 cases hr
 exact q v H0 H (Ext.refl s) (h H0)
def OpD(K:PySem.W.Frag)(r:R2)(op:Sl->Sl->Option Sl):Prop:=
 ∀(H0 H:Hp) (x y:V) (sx sy z:Sl),Same H0 H->SlP K H0 H x sx->SlP K H0 H y sy->op sx sy=some z->∀Q:VK,(∀v H0' H',Ext H0 H H0' H'->SlH K H H0' H' v z->Q v H')->r x y H Q
def UnD(K:PySem.W.Frag)(r:V->Hp->VK->Prop)(op:Sl->Option Sl):Prop:=
 ∀(H0 H:Hp) (x:V) (sx z:Sl),Same H0 H->SlP K H0 H x sx->op sx=some z->∀Q:VK,(∀v H0' H',Ext H0 H H0' H'->SlH K H H0' H' v z->Q v H')->r x H Q
def mBin(op:Sl->Sl->Option Sl)(fa fb:En->Option Sl):En->Option Sl:=fun ρ=>(fa ρ).bind fun a=>(fb ρ).bind fun b=>op a b
def mUn(op:Sl->Option Sl)(fa:En->Option Sl):En->Option Sl:=fun ρ=>(fa ρ).bind op
theorem TH{r:R2}{op:Sl->Sl->Option Sl}{ta tb:TE}{fa fb:En->Option Sl}(ho:OpD K r op)(ha:RP K R ta fa)(hb:RP K R tb fb):RE K R (tOp r ta tb) (mBin op fa fb):=fun HB σ ρ H0 H s e z hz Q q=>by
 obtain ⟨x,hx,hz⟩:=A0.mp hz;obtain ⟨y,hy,hz⟩:=A0.mp hz;refine ha HB σ ρ H0 H s e x hx _ fun v H1 J1 x1 p1=> ?_;refine hb HB σ ρ H1 J1 x1.s1 (e.ext (K:=K) x1) y hy _ fun u H2 J2 x2 p2=> ?_;exact ho H2 J2 v u x y z x2.s1 (p1.ext x2) p2 hz Q fun w H3 J3 x3 p3=>q w H3 J3 ((x1.trans x2).trans x3) (p3.base (x1.trans x2).s)
theorem xK{r:V->Hp->VK->Prop}{op:Sl->Option Sl}{ta:TE}{fa:En->Option Sl}(ho:UnD K r op)(ha:RP K R ta fa):RE K R (tUn r ta) (mUn op fa):=fun HB σ ρ H0 H s e z hz Q q=>by
 obtain ⟨x,hx,hz⟩:=A0.mp hz;refine ha HB σ ρ H0 H s e x hx _ fun v H1 J1 x1 p1=> ?_;exact ho H1 J1 v x z x1.s1 p1 hz Q fun w H3 J3 x3 p3=>q w H3 J3 (x1.trans x3) (p3.base x1.s)
def iop(g:Int->Int->Int):Sl->Sl->Option Sl
 | .val (.int i), .val (.int j)=>some (.val (.int (g i j)))
 | _,_=>none
open Classical in
noncomputable def UA(C:Int->Int->Prop)(g:Int->Int->Int):Sl->Sl->Option Sl
 | .val (.int i), .val (.int j)=>if C i j then some (.val (.int (g i j))) else none
 | _,_=>none
def icmp(g:Int->Int->Bool):Sl->Sl->Option Sl
 | .val (.int i), .val (.int j)=>some (.val (.bool (g i j)))
 | _,_=>none
def iun(g:Int->Int):Sl->Option Sl
 | .val (.int i)=>some (.val (.int (g i)))
 | _=>none
theorem oR{g:Int->Int->Int}:OpD K (rI0 fun i j=> .int (g i j)) (iop g):=fun H0 H x y sx sy z s px py hz Q q=>by
 unfold iop at hz
 split at hz
 . cases hz
   exact ⟨_,_,px.int,py.int,q _ _ _ (Ext.refl s) (.int _)⟩
 . cases hz
theorem PX{C:Int->Int->Prop}{g:Int->Int->Int}:OpD K (rI C fun i j=> .int (g i j)) (UA C g):=fun H0 H x y sx sy z s px py hz Q q=>by
 unfold UA at hz
 split at hz
 . split at hz
   . rename_i hc
     cases hz
     exact ⟨_,_,px.int,py.int,hc,q _ _ _ (Ext.refl s) (.int _)⟩
   . cases hz
 . cases hz
theorem P8{g:Int->Int->Bool}:OpD K (rI0 fun i j=> .bl (g i j)) (icmp g):=fun H0 H x y sx sy z s px py hz Q q=>by
 unfold icmp at hz
 split at hz
 . cases hz
   exact ⟨_,_,px.int,py.int,q _ _ _ (Ext.refl s) (.bool _)⟩
 . cases hz
theorem pH{g:Int->Int}:UnD K (rU fun i=> .int (g i)) (iun g):=fun H0 H x sx z s px hz Q q=>by
 unfold iun at hz
 split at hz
 . cases hz
   exact ⟨_,px.int,q _ _ _ (Ext.refl s) (.int _)⟩
 . cases hz
def eqD(a b:PyData):Option Bool:=if a.canLay0=true/\b.canLay0=true/\min a.depth b.depth<=60 then some (PyData.eqv a b) else none
def deq:Sl->Sl->Option Sl:=fun a b=>(eqD a.dat b.dat).map fun k=> .val (.bool k)
def dne:Sl->Sl->Option Sl:=fun a b=>(eqD a.dat b.dat).map fun k=> .val (.bool (!k))
theorem jW:OpD K (xN K) deq:=fun H0 H x y sx sy z s px py hz Q q=>by
 obtain ⟨k,hk,rfl⟩:=Option.map_eq_some_iff.mp hz;unfold eqD at hk
 split at hk
 . rename_i hc
   cases hk
   exact ⟨_,_,px.rep s,py.rep s,hc.1,hc.2.1,hc.2.2,q _ _ _ (Ext.refl s) (.bool _)⟩
 . cases hk
theorem tU:OpD K (xH K) dne:=fun H0 H x y sx sy z s px py hz Q q=>by
 obtain ⟨k,hk,rfl⟩:=Option.map_eq_some_iff.mp hz;unfold eqD at hk
 split at hk
 . rename_i hc
   cases hk
   exact ⟨_,_,px.rep s,py.rep s,hc.1,hc.2.1,hc.2.2,q _ _ _ (Ext.refl s) (.bool _)⟩
 . cases hk
def isNone:PyData->Bool
 | .none=>true
 | _=>false
def disN:Sl->Sl->Option Sl
 | a, .val .none=>some (.val (.bool (isNone a.dat)))
 | _,_=>none
def disNN:Sl->Sl->Option Sl
 | a, .val .none=>some (.val (.bool (!isNone a.dat)))
 | _,_=>none
theorem bO{H0 H:Hp}{v:V}{r:Sl}(s:Same H0 H)(p:SlP K H0 H v r):decide (v = .non)=isNone r.dat:=by
 have h:=nB (p.rep s)
 cases e:r.dat <;> simp_all [isNone]
theorem o3:OpD K (fun x y H Q=>y = .non/\Q (.bl (decide (x = .non))) H) disN:=fun H0 H x y sx sy z s px py hz Q q=>by
 unfold disN at hz
 split at hz
 . cases hz
   refine ⟨py.none,?_⟩;rw [bO s px];exact q _ _ _ (Ext.refl s) (.bool _)
 . cases hz
def dix:Sl->Sl->Option Sl
 | a, .val (.int i)=>match a.dat with
  | .list ds=>(atI ds i).map .val
  | .tuple ds=>(atI ds i).map .val
  | _=>none
 | _,_=>none
theorem Reps.atI{H:Hp}{vs:List V}{ds:List PyData}{i:Int}{d:PyData}(h:Reps K H vs ds)(e:atI ds i=some d):∃v,atI vs i=some v/\Rep K H v d:=by
 unfold L2.atI at e ⊢
 rw [h.length]
 cases ej:ixN ds.length i with
 | none=>rw [ej] at e;cases e
 | some j=>
  rw [ej] at e
  obtain ⟨v,h1,h2⟩:=Tf.Reps.get h (show ds[j]? = some d from e);exact ⟨v,h1,h2⟩
theorem rX:OpD K (rIx K) dix:=fun H0 H x y sx sy z s px py hz Q q=>by
 unfold dix at hz
 split at hz
 . split at hz
   . rename_i i ds hd;obtain ⟨d,he,rfl⟩:=AQ.mp hz;obtain ⟨a,vs,rfl,h1,h2⟩:=px.lst s hd;obtain ⟨v,h3,h4⟩:=Reps.atI h2 he;exact .inl ⟨a,vs,_,v,rfl,py.int,h1,h3,q _ _ _ (Ext.refl s) h4⟩
   . rename_i i ds hd;obtain ⟨d,he,rfl⟩:=AQ.mp hz;obtain ⟨a,vs,rfl,h1,h2⟩:=px.tup hd;obtain ⟨v,h3,h4⟩:=Reps.atI h2 he;exact .inr (.inl ⟨a,vs,_,v,rfl,py.int,s.seqT h1,h3,q _ _ _ (Ext.refl s) h4⟩)
   . cases hz
 . cases hz
end
end Dm
namespace Dm
open PySem PySem.Spec PyProof.Rows L2 Tf
section
variable {K:PySem.W.Frag} {R:Rl} [RelOk K R]
def mNil:En->Option (List PyData):=fun _=>some []
def mCons(f:En->Option Sl)(g:En->Option (List PyData)):En->Option (List PyData):=fun ρ=>(f ρ).bind fun a=>(g ρ).bind fun as=>some (a.dat::as)
theorem vB:RA K R tNil mNil:=fun HB σ ρ H0 H s e ds hd Q q=>by
 cases hd
 exact q [] H0 H (Ext.refl s) .nil
theorem oT{te:TE}{ta:TA}{f:En->Option Sl}{g:En->Option (List PyData)}(hf:RE K R te f)(hg:RA K R ta g):RA K R (JV te ta) (mCons f g):=fun HB σ ρ H0 H s e ds hd Q q=>by
 obtain ⟨a,ha,hd⟩:=A0.mp hd;obtain ⟨as,has,hd⟩:=A0.mp hd
 cases hd
 refine hf.rv HB σ ρ H0 H s e a.dat (by unfold mDat;rw [ha];rfl) _ fun v H1 J1 x1 p1=> ?_;exact hg HB σ ρ H1 J1 x1.s1 (e.ext (K:=K) x1) as has _ fun vs H2 J2 x2 p2=>q _ H2 J2 (x1.trans x2) (.cons (Rep.same x2.s0 p1) p2)
def mNilP:En->Option (List Sl):=fun _=>some []
def mConsP(f:En->Option Sl)(g:En->Option (List Sl)):En->Option (List Sl):=fun ρ=>(f ρ).bind fun a=>(g ρ).bind fun as=>some (a::as)
theorem tS:RQ K R tNil mNilP:=fun HB σ ρ H0 H s e ds hd Q q=>by
 cases hd
 exact q [] H0 H (Ext.refl s) .nil
theorem nO{te:TE}{ta:TA}{f:En->Option Sl}{g:En->Option (List Sl)}(hf:RP K R te f)(hg:RQ K R ta g):RQ K R (JV te ta) (mConsP f g):=fun HB σ ρ H0 H s e ds hd Q q=>by
 obtain ⟨a,ha,hd⟩:=A0.mp hd;obtain ⟨as,has,hd⟩:=A0.mp hd
 cases hd
 refine hf HB σ ρ H0 H s e a ha _ fun v H1 J1 x1 p1=> ?_;exact hg HB σ ρ H1 J1 x1.s1 (e.ext (K:=K) x1) as has _ fun vs H2 J2 x2 p2=>q _ H2 J2 (x1.trans x2) (.cons (p1.ext x2) p2)
def mTup(f:En->Option (List PyData)):En->Option Sl:=fun ρ=>(f ρ).bind fun ds=>if ds.length<=sizeLine then some (.val (.tuple ds)) else none
def mLst(f:En->Option (List PyData)):En->Option Sl:=fun ρ=>(f ρ).bind fun ds=>if ds.length<=sizeLine then some (.own ds) else none
theorem rZ{ta:TA}{f:En->Option (List PyData)}(h:RA K R ta f):RE K R (sZ ta) (mTup f):=fun HB σ ρ H0 H s e z hz Q q=>by
 obtain ⟨ds,hd,hz⟩:=A0.mp hz
 split at hz
 . rename_i hl
   cases hz
   refine h HB σ ρ H0 H s e ds hd _ fun vs H1 J1 x1 p1=>⟨by rw [p1.length];exact hl,fun p hp=> ?_⟩;exact q _ _ _ (x1.trans (Ext.allocF x1.s1 hp _)) (.tuple (SqT.of BC) (Reps.same (Same.upd (x1.s1.free hp) _) p1))
 . cases hz
theorem v5{ta:TA}{f:En->Option (List PyData)}(h:RA K R ta f):RE K R (x6 ta) (mLst f):=fun HB σ ρ H0 H s e z hz Q q=>by
 obtain ⟨ds,hd,hz⟩:=A0.mp hz
 split at hz
 . rename_i hl
   cases hz
   refine h HB σ ρ H0 H s e ds hd _ fun vs H1 J1 x1 p1=>⟨by rw [p1.length];exact hl,fun p hp=> ?_⟩;exact q _ _ _ (x1.trans (Ext.alloc x1.s1 hp _)) ⟨p,vs,rfl,x1.s.free hp,x1.s1.free hp,BC,p1⟩
 . cases hz
def spD(K:PySem.W.Frag)(F:List PyData->Option Sl):Sp:=fun vs H Q _=>∃H0 ds r,Same H0 H/\Reps K H0 vs ds/\F ds=some r/\∀v H0' H',Ext H0 H H0' H'->SlH K H H0' H' v r->Q v H'
def mCall(F:List PyData->Option Sl)(f:En->Option (List PyData)):En->Option Sl:=fun ρ=>(f ρ).bind F
theorem oS{F:List PyData->Option Sl}{E:XK}{ta:TA}{f:En->Option (List PyData)}(h:RA K R ta f):RE K R (V3 (spD K F) [] E ta) (mCall F f):=fun HB σ ρ H0 H s e z hz Q q=>by
 obtain ⟨ds,hd,hz⟩:=A0.mp hz;refine h HB σ ρ H0 H s e ds hd _ fun vs H1 J1 x1 p1=> ?_;rw [DH];exact ⟨H1,ds,z,x1.s1,p1,hz,fun v H2 J2 x2 p2=>q v H2 J2 (x1.trans x2) (p2.base x1.s)⟩
def LH(K:PySem.W.Frag)(r:List V->Hp->VK->Prop)(F:List Sl->Option Sl):Prop:=
 ∀(H0 H:Hp) (vs:List V) (ss:List Sl) (z:Sl),Same H0 H->Paired (SlP K H0 H) vs ss->F ss=some z->∀Q:VK,(∀v H0' H',Ext H0 H H0' H'->SlH K H H0' H' v z->Q v H')->r vs H Q
def mCallP(F:List Sl->Option Sl)(f:En->Option (List Sl)):En->Option Sl:=fun ρ=>(f ρ).bind F
theorem VJ{r:List V->Hp->VK->Prop}{F:List Sl->Option Sl}{ta:TA}{f:En->Option (List Sl)}(hc:LH K r F)(h:RQ K R ta f):RE K R (tCB r ta) (mCallP F f):=fun HB σ ρ H0 H s e z hz Q q=>by
 obtain ⟨ss,hd,hz⟩:=A0.mp hz;refine h HB σ ρ H0 H s e ss hd _ fun vs H1 J1 x1 p1=> ?_;exact hc H1 J1 vs ss z x1.s1 p1 hz Q fun v H2 J2 x2 p2=>q v H2 J2 (x1.trans x2) (p2.base x1.s)
theorem HC{H0 H:Hp}{vs:List V}{a:Sl}(h:Paired (SlP K H0 H) vs [a]):∃v,vs = [v]/\SlP K H0 H v a:=by
 cases h with | cons h t=>cases t;exact ⟨_,rfl,h⟩
theorem nW{H0 H:Hp}{vs:List V}{a b:Sl}(h:Paired (SlP K H0 H) vs [a,b]):∃v w,vs = [v,w]/\SlP K H0 H v a/\SlP K H0 H w b:=by
 cases h with | cons h t=>cases t with | cons h2 t=>cases t;exact ⟨_,_,rfl,h,h2⟩
def dLen:List Sl->Option Sl
 | [a]=>match a.dat with
  | .list ds=>some (.val (.int ds.length))
  | .tuple ds=>some (.val (.int ds.length))
  | _=>none
 | _=>none
theorem DU:LH K (fun xs H Q=>∃p ys,xs = [.ref p]/\(SqL K H p ys\/SqT K H p ys)/\Q (.int ys.length) H) dLen:=fun H0 H vs ss z s p hz Q q=>by
 unfold dLen at hz
 split at hz
 . obtain ⟨v,rfl,pa⟩:=HC p
   split at hz
   . rename_i ds hd
     cases hz
     obtain ⟨a,vs,rfl,h1,h2⟩:=pa.lst s hd;refine ⟨a,vs,rfl, .inl h1,?_⟩;rw [h2.length];exact q _ _ _ (Ext.refl s) (.int _)
   . rename_i ds hd
     cases hz
     obtain ⟨a,vs,rfl,h1,h2⟩:=pa.tup hd;refine ⟨a,vs,rfl, .inr (s.seqT h1),?_⟩;rw [h2.length];exact q _ _ _ (Ext.refl s) (.int _)
   . cases hz
 . cases hz
def dAbs:List Sl->Option Sl
 | [.val (.int i)]=>some (.val (.int (if i<0 then -i else i)))
 | _=>none
theorem wA:LH K (fun xs H Q=>∃i,xs = [.int i]/\Q (.int (if i<0 then -i else i)) H) dAbs:=fun H0 H vs ss z s p hz Q q=>by
 unfold dAbs at hz
 split at hz
 . obtain ⟨v,rfl,pa⟩:=HC p
   cases hz
   exact ⟨_,by rw [pa.int],q _ _ _ (Ext.refl s) (.int _)⟩
 . cases hz
def dList:List Sl->Option Sl
 | [a]=>match a.dat with
  | .list ds=>some (.own ds)
  | .tuple ds=>some (.own ds)
  | _=>none
 | _=>none
theorem OG:LH K (fun xs H Q=>∃p ys,xs = [.ref p]/\(SqL K H p ys\/SqT K H p ys)/\∀l,H l=none->Q (.ref l) (upd H l (.lst ys))) dList:=fun H0 H vs ss z s p hz Q q=>by
 unfold dList at hz
 split at hz
 . obtain ⟨v,rfl,pa⟩:=HC p
   split at hz
   . rename_i ds hd
     cases hz
     obtain ⟨a,vs,rfl,h1,h2⟩:=pa.lst s hd;exact ⟨a,vs,rfl, .inl h1,fun l hl=>q _ _ _ (Ext.alloc s hl _) ⟨l,vs,rfl,hl,s.free hl,BC,h2⟩⟩
   . rename_i ds hd
     cases hz
     obtain ⟨a,vs,rfl,h1,h2⟩:=pa.tup hd;exact ⟨a,vs,rfl, .inr (s.seqT h1),fun l hl=>q _ _ _ (Ext.alloc s hl _) ⟨l,vs,rfl,hl,s.free hl,BC,h2⟩⟩
   . cases hz
 . cases hz
def dTuple:List Sl->Option Sl
 | [a]=>match a.dat with
  | .list ds=>some (.val (.tuple ds))
  | .tuple ds=>some (.val (.tuple ds))
  | _=>none
 | _=>none
theorem MA:LH K (fun xs H Q=>∃p ys,xs = [.ref p]/\((SqL K H p ys/\∀l,H l=none->Q (.ref l) (upd H l (.tup ys)))\/(SqT K H p ys/\Q (.ref p) H))) dTuple:=fun H0 H vs ss z s p hz Q q=>by
 unfold dTuple at hz
 split at hz
 . obtain ⟨v,rfl,pa⟩:=HC p
   split at hz
   . rename_i ds hd
     cases hz
     obtain ⟨a,vs,rfl,h1,h2⟩:=pa.lst s hd;exact ⟨a,vs,rfl, .inl ⟨h1,fun l hl=>q _ _ _ (Ext.allocF s hl _) (.tuple (SqT.of BC) (Reps.same (Same.upd (s.free hl) _) h2))⟩⟩
   . rename_i ds hd
     cases hz
     obtain ⟨a,vs,rfl,h1,h2⟩:=pa.tup hd;exact ⟨a,vs,rfl, .inr ⟨s.seqT h1,q _ _ _ (Ext.refl s) (.tuple h1 h2)⟩⟩
   . cases hz
 . cases hz
def J0:List PyData->Option (List Int)
 | []=>some []
 | .int i::r=>(J0 r).map (i :: ·)
 | _::_=>none
theorem NC:∀ {ds:List PyData} {ns:List Int},J0 ds=some ns->ds=ns.map .int
 | [],ns,h=>by cases h;rfl
 | .int i::r,ns,h=>by
  obtain ⟨ms,h1,rfl⟩:=AQ.mp (show (J0 r).map (i :: ·)=some ns from h);rw [NC h1];rfl
theorem P7:∀ns:List Int,J0 (ns.map .int)=some ns
 | []=>rfl
 | i::r=>by show (J0 (r.map .int)).map (i :: ·)=_;rw [P7 r];rfl
theorem NL{H:Hp}:∀ {vs:List V} {ns:List Int},Reps K H vs (ns.map .int)->vs=ns.map .int
 | _,[],h=>by cases h;rfl
 | _,n::r,h=>by
  cases h with
  | cons h t=>cases h;rw [NL t];rfl
def dSum:List Sl->Option Sl
 | [a]=>match a.dat with
  | .list ds=>(J0 ds).map fun ns=> .val (.int (List.sum ns))
  | _=>none
 | _=>none
theorem j6:LH K (fun xs H Q=>∃p ns,xs = [.ref p]/\SqL K H p (ns.map V.int)/\Q (.int (List.sum ns)) H) dSum:=fun H0 H vs ss z s p hz Q q=>by
 unfold dSum at hz
 split at hz
 . obtain ⟨v,rfl,pa⟩:=HC p
   split at hz
   . rename_i ds hd;obtain ⟨ns,hn,rfl⟩:=AQ.mp hz;obtain ⟨a,vs,rfl,h1,h2⟩:=pa.lst s hd;rw [NC hn] at h2
     rw [NL h2] at h1
     exact ⟨a,ns,rfl,h1,q _ _ _ (Ext.refl s) (.int _)⟩
   . cases hz
 . cases hz
def dInt:List Sl->Option Sl
 | [.val (.int i)]=>some (.val (.int i))
 | [.val (.bool k)]=>some (.val (.int (if k then 1 else 0)))
 | _=>none
theorem sN:LH K (fun xs H Q=>(∃i,xs = [.int i]/\Q (.int i) H)\/∃k,xs = [.bl k]/\Q (.int (if k then 1 else 0)) H) dInt:=fun H0 H vs ss z s p hz Q q=>by
 unfold dInt at hz
 split at hz
 . obtain ⟨v,rfl,pa⟩:=HC p
   cases hz
   exact .inl ⟨_,by rw [pa.int],q _ _ _ (Ext.refl s) (.int _)⟩
 . obtain ⟨v,rfl,pa⟩:=HC p
   cases hz
   exact .inr ⟨_,by rw [pa.bool],q _ _ _ (Ext.refl s) (.int _)⟩
 . cases hz
def tyD:PyData->Option String
 | .none=>some "NoneType"
 | .bool _=>some "bool"
 | .int _=>some "int"
 | .str _=>some "str"
 | .list _=>some "list"
 | .tuple _=>some "tuple"
 | _=>none
theorem rQ{H:Hp}{v:V}{d:PyData}(h:Rep K H v d)(hn:(tyD d).isSome=true):∃t,tyD d=some t/\TyV K H v t:=by
 cases h with
 | none=>exact ⟨_,rfl, .non⟩
 | bool b=>exact ⟨_,rfl, .bl b⟩
 | int i=>exact ⟨_,rfl, .int i⟩
 | str x=>exact ⟨_,rfl, .str x⟩
 | list h _=>exact ⟨_,rfl, .lst h⟩
 | tuple h _=>exact ⟨_,rfl, .tup h⟩
 | dict h _ _=>cases hn
 | dictF h _ _=>cases hn
def isiD(n:String)(t:String):Option Bool:=
 if n = "int" then some (t == "int" || t == "bool") else if n = "bool" \/ n = "str" \/ n = "list" \/ n = "tuple" then some (t==n) else none
def mIsi(n:String)(f:En->Option Sl):En->Option Sl:=fun ρ=>(f ρ).bind fun a=>(tyD a.dat).bind fun t=>(isiD n t).map fun b=> .val (.bool b)
theorem tW {te:TE} {f:En->Option Sl} {n:String} (hk:∀t b,isiD n t=some b->(t = "NoneType" \/ t = "bool" \/ t = "int" \/ t = "str" \/ t = "list" \/ t = "tuple")->PySem.W.kitOne K (.type t) (.type n)=some b) (h:RP K R te f):RE K R (tCB (y6 K) (JV te (JV (tC (.ty n)) tNil))) (mIsi n f):=fun HB σ ρ H0 H s e z hz Q q=>by
 obtain ⟨a,ha,hz⟩:=A0.mp hz;obtain ⟨t,ht,hz⟩:=A0.mp hz;obtain ⟨b,hb,rfl⟩:=AQ.mp hz;refine h HB σ ρ H0 H s e a ha _ fun v H1 J1 x1 p1=> ?_;obtain ⟨t',ht',ty⟩:=rQ (p1.rep x1.s1) (by rw [ht];rfl);rw [ht] at ht'
 cases ht'
 refine ⟨v,n,t,b,rfl,ty,hk t b hb ?_,q _ _ _ x1 (.bool _)⟩
 cases ty <;> simp
def mTest(f:En->Option Sl):En->Option Bool:=fun ρ=>(f ρ).bind fun a=>match a with
 | .val (.bool b)=>some b
 | _=>none
theorem JU{f:En->Option Sl}{ρ:En}{b:Bool}(h:mTest f ρ=some b):f ρ=some (.val (.bool b)):=by
 obtain ⟨a,ha,h⟩:=A0.mp h;rw [ha]
 split at h
 . cases h;rfl
 . cases h
theorem nE{te:TE}{f:En->Option Sl}(h:RP K R te f):RT K R (pZ te) (mTest f):=fun HB σ ρ H0 H s e b hb Q q=>
 h HB σ ρ H0 H s e _ (JU hb) _ fun v H1 J1 x1 p1=>⟨b,p1.bool,q _ _ x1⟩
theorem zJ{te:TE}{f:En->Option Sl}(h:RP K R te f):RT K R (tB te) (mTest f):=fun HB σ ρ H0 H s e b hb Q q=>
 h HB σ ρ H0 H s e _ (JU hb) _ fun v H1 J1 x1 p1=>⟨b,p1.bool,q _ _ x1⟩
def mAnd(f g:En->Option Bool):En->Option Bool:=fun ρ=>(f ρ).bind fun b=>if b then g ρ else some false
def mOr(f g:En->Option Bool):En->Option Bool:=fun ρ=>(f ρ).bind fun b=>if b then some true else g ρ
def mNot(f:En->Option Bool):En->Option Bool:=fun ρ=>(f ρ).map (!·)
theorem vS{t u:TT}{f g:En->Option Bool}(h:RT K R t f)(k:RT K R u g):RT K R (xW t u) (mAnd f g):=fun HB σ ρ H0 H s e b hb Q q=>by
 obtain ⟨c,hc,hb⟩:=A0.mp hb;refine h HB σ ρ H0 H s e c hc _ fun H1 J1 x1=> ?_
 cases c with
 | true=>exact UZ (k HB σ ρ H1 J1 x1.s1 (e.ext (K:=K) x1) b hb Q fun H2 J2 x2=>q _ _ (x1.trans x2))
 | false=>cases hb;exact V2 (q _ _ x1)
theorem xZ{t u:TT}{f g:En->Option Bool}(h:RT K R t f)(k:RT K R u g):RT K R (tOr t u) (mOr f g):=fun HB σ ρ H0 H s e b hb Q q=>by
 obtain ⟨c,hc,hb⟩:=A0.mp hb;refine h HB σ ρ H0 H s e c hc _ fun H1 J1 x1=> ?_
 cases c with
 | false=>exact V2 (k HB σ ρ H1 J1 x1.s1 (e.ext (K:=K) x1) b hb Q fun H2 J2 x2=>q _ _ (x1.trans x2))
 | true=>cases hb;exact UZ (q _ _ x1)
theorem sX{t:TT}{f:En->Option Bool}(h:RT K R t f):RT K R (y0 t) (mNot f):=fun HB σ ρ H0 H s e b hb Q q=>by
 obtain ⟨c,hc,rfl⟩:=AQ.mp hb;exact h HB σ ρ H0 H s e c hc _ fun H1 J1 x1=>q _ _ x1
def mAndV(f g:En->Option Sl):En->Option Sl:=fun ρ=>(mTest f ρ).bind fun b=>if b then g ρ else some (.val (.bool false))
def mOrV(f g:En->Option Sl):En->Option Sl:=fun ρ=>(mTest f ρ).bind fun b=>if b then some (.val (.bool true)) else g ρ
def mNotV(f:En->Option Sl):En->Option Sl:=fun ρ=>(mTest f ρ).map fun b=> .val (.bool (!b))
theorem mP{t u:TE}{f g:En->Option Sl}(h:RP K R t f)(k:RE K R u g):RE K R (pX t u) (mAndV f g):=fun HB σ ρ H0 H s e z hz Q q=>by
 obtain ⟨c,hc,hz⟩:=A0.mp hz;refine h HB σ ρ H0 H s e _ (JU hc) _ fun v H1 J1 x1 p1=>⟨c,p1.bool,?_⟩
 cases c with
 | true=>exact UZ (k HB σ ρ H1 J1 x1.s1 (e.ext (K:=K) x1) z hz Q fun v H2 J2 x2 p2=>q _ _ _ (x1.trans x2) (p2.base x1.s))
 | false=>cases hz;exact V2 (q _ _ _ x1 (.bool _))
theorem pA{t:TE}{f:En->Option Sl}(h:RP K R t f):RE K R (qR t) (mNotV f):=fun HB σ ρ H0 H s e z hz Q q=>by
 obtain ⟨c,hc,rfl⟩:=AQ.mp hz;exact h HB σ ρ H0 H s e _ (JU hc) _ fun v H1 J1 x1 p1=>⟨c,p1.bool,q _ _ _ x1 (.bool _)⟩
def mIfE(c:En->Option Bool)(f g:En->Option Sl):En->Option Sl:=fun ρ=>(c ρ).bind fun b=>if b then f ρ else g ρ
theorem rJ{c:TT}{t u:TE}{fc:En->Option Bool}{f g:En->Option Sl}(hc:RT K R c fc)(h:RE K R t f)(k:RE K R u g):RE K R (tIf c t u) (mIfE fc f g):=fun HB σ ρ H0 H s e z hz Q q=>by
 obtain ⟨b,hb,hz⟩:=A0.mp hz;refine hc HB σ ρ H0 H s e b hb _ fun H1 J1 x1=> ?_
 cases b with
 | true=>exact UZ (h HB σ ρ H1 J1 x1.s1 (e.ext (K:=K) x1) z hz Q fun v H2 J2 x2 p2=>q _ _ _ (x1.trans x2) (p2.base x1.s))
 | false=>exact V2 (k HB σ ρ H1 J1 x1.s1 (e.ext (K:=K) x1) z hz Q fun v H2 J2 x2 p2=>q _ _ _ (x1.trans x2) (p2.base x1.s))
def RO(K:PySem.W.Frag)(R:Rl)(to:TO)(f:En->Option (Option Int)):Prop:=
 ∀(HB:Hp) (σ:L2.St) (ρ:En) (H0 H:Hp),Same H0 H->ST R HB H0 H σ ρ->∀o,f ρ=some o->∀Q:Option Int->Hp->Prop,(∀H0' H',Ext H0 H H0' H'->Q o H')->to σ H Q
def mNoPart:En->Option (Option Int):=fun _=>some none
def mPart(f:En->Option Sl):En->Option (Option Int):=fun ρ=>(f ρ).bind fun a=>match a with
 | .val (.int i)=>some (some i)
 | _=>none
theorem mW:RO K R tNoPart mNoPart:=fun HB σ ρ H0 H s e o ho Q q=>by cases ho;exact q _ _ (Ext.refl s)
theorem nZ{te:TE}{f:En->Option Sl}(h:RP K R te f):RO K R (pY te) (mPart f):=fun HB σ ρ H0 H s e o ho Q q=>by
 obtain ⟨a,ha,ho⟩:=A0.mp ho
 split at ho
 . cases ho
   exact h HB σ ρ H0 H s e _ ha _ fun v H1 J1 x1 p1=>⟨_,p1.int,q _ _ x1⟩
 . cases ho
def GZ{α:Type}(xs:List α)(lo hi:Option Int):List α:=(xs.drop (HT.sIx xs.length 0 lo)).take (HT.sIx xs.length xs.length hi - HT.sIx xs.length 0 lo)
theorem Reps.drop{H:Hp}:∀ {vs:List V} {ds:List PyData} (n:Nat),Reps K H vs ds->Reps K H (vs.drop n) (ds.drop n)
 | _,_,0,h=>h
 | _,_,_+1, .nil=> .nil
 | _,_,n+1, .cons _ t=>Reps.drop n t
theorem Reps.take{H:Hp}:∀ {vs:List V} {ds:List PyData} (n:Nat),Reps K H vs ds->Reps K H (vs.take n) (ds.take n)
 | _,_,0,_=> .nil
 | _,_,_+1, .nil=> .nil
 | _,_,n+1, .cons h t=> .cons h (Reps.take n t)
theorem Reps.cut{H:Hp}{vs:List V}{ds:List PyData}(h:Reps K H vs ds)(lo hi:Option Int):Reps K H (VL vs lo hi) (GZ ds lo hi):=by
 unfold VL GZ;rw [h.length];exact Reps.take _ (Reps.drop _ h)
def dSl(a:Sl)(lo hi:Option Int):Option Sl:=match a.dat with
 | .list ds=>some (.own (GZ ds lo hi))
 | .tuple ds=>if HT.sIx ds.length 0 lo=0/\HT.sIx ds.length ds.length hi=ds.length then none else some (.val (.tuple (GZ ds lo hi)))
 | _=>none
def mSl(f:En->Option Sl)(l h:En->Option (Option Int)):En->Option Sl:=fun ρ=>(f ρ).bind fun a=>(l ρ).bind fun lo=>(h ρ).bind fun hi=>dSl a lo hi
theorem yA{te:TE}{tl th:TO}{f:En->Option Sl}{fl fh:En->Option (Option Int)}(h:RP K R te f)(hl:RO K R tl fl)(hh:RO K R th fh):RE K R (tSl (fun x lo hi H Q=>yM K x lo hi H Q\/xV K x lo hi H Q) te tl th) (mSl f fl fh):=fun HB σ ρ H0 H s e z hz Q q=>by
 obtain ⟨a,ha,hz⟩:=Option.bind_eq_some_iff.mp hz;obtain ⟨lo,hlo,hz⟩:=Option.bind_eq_some_iff.mp hz;obtain ⟨hi,hhi,hz⟩:=Option.bind_eq_some_iff.mp hz;refine h HB σ ρ H0 H s e a ha _ fun v H1 J1 x1 p1=> ?_;refine hl HB σ ρ H1 J1 x1.s1 (e.ext (K:=K) x1) lo hlo _ fun H2 J2 x2=> ?_;refine hh HB σ ρ H2 J2 x2.s1 ((e.ext (K:=K) x1).ext (K:=K) x2) hi hhi _ fun H3 J3 x3=> ?_;have x:=(x1.trans x2).trans x3;have p:=p1.ext (x2.trans x3);unfold dSl at hz
 split at hz
 . rename_i ds hd
   cases hz
   obtain ⟨b,vs,rfl,h1,h2⟩:=p.lst x.s1 hd;exact .inl ⟨b,vs,rfl,h1,fun l hl=>q _ _ _ (x.trans (Ext.alloc x.s1 hl _)) ⟨l,_,rfl,x.s.free hl,x.s1.free hl,BC,Reps.cut h2 lo hi⟩⟩
 . rename_i ds hd
   split at hz
   . cases hz
   . rename_i hw
     cases hz
     obtain ⟨b,vs,rfl,h1,h2⟩:=p.tup hd;refine .inr ⟨b,vs,rfl,x.s1.seqT h1,by rw [h2.length];exact hw,fun l hl=>q _ _ _ (x.trans (Ext.allocF x.s1 hl _)) (.tuple (SqT.of BC) (Reps.same (Same.upd (x.s1.free hl) _) (Reps.cut h2 lo hi)))⟩
 . cases hz
end
end Dm
namespace Dm
open PySem PySem.Spec PyProof.Rows L2 Tf
inductive Out where
 | nx (ρ:En) | rt (r:Sl) (ρ:En) | bk (ρ:En) | ct (ρ:En)
section
variable {K:PySem.W.Frag} {R:Rl} [RelOk K R]
def yH(K:PySem.W.Frag)(R:Rl)(HB S0:Hp)(D:Ends):Out->Prop
 | .nx ρ=>∀σ H0 H,Ext S0 HB H0 H->ST R HB H0 H σ ρ->D.nx σ H
 | .bk ρ=>∀σ H0 H,Ext S0 HB H0 H->ST R HB H0 H σ ρ->D.bk σ H
 | .ct ρ=>∀σ H0 H,Ext S0 HB H0 H->ST R HB H0 H σ ρ->D.ct σ H
 | .rt r ρ=>∀v σ H0 H,Ext S0 HB H0 H->ST R HB H0 H σ ρ->SlH K HB H0 H v r->D.rt v H
def RS(K:PySem.W.Frag)(R:Rl)(ts:TS)(g:En->Option Out):Prop:=
 ∀(HB S0:Hp) (σ:L2.St) (ρ:En) (H0 H:Hp),Ext S0 HB H0 H->ST R HB H0 H σ ρ->∀o,g ρ=some o->∀D:Ends,yH K R HB S0 D o->ts D σ H
def mNext:En->Option Out:=fun ρ=>some (.nx ρ)
def mBrk:En->Option Out:=fun ρ=>some (.bk ρ)
def mCt:En->Option Out:=fun ρ=>some (.ct ρ)
def mRetN:En->Option Out:=fun ρ=>some (.rt (.val .none) ρ)
theorem pC:RS K R tNext mNext:=fun HB S0 σ ρ H0 H x e o ho D d=>by cases ho;exact d σ H0 H x e
theorem oU:RS K R tRetN mRetN:=fun HB S0 σ ρ H0 H x e o ho D d=>by cases ho;exact d .non σ H0 H x e .none
def mSeq(f g:En->Option Out):En->Option Out:=fun ρ=>(f ρ).bind fun o=>match o with
 | .nx ρ'=>g ρ'
 | o=>some o
theorem rY{t u:TS}{f g:En->Option Out}(h:RS K R t f)(k:RS K R u g):RS K R (S7 t u) (mSeq f g):=fun HB S0 σ ρ H0 H x e o ho D d=>by
 obtain ⟨o1,h1,ho⟩:=A0.mp ho;refine h HB S0 σ ρ H0 H x e o1 h1 { D with nx:=u D} ?_
 cases o1 with
 | nx ρ'=>exact fun σ' H0' H' x' e'=>k HB S0 σ' ρ' H0' H' x' e' o ho D d
 | rt r _=>cases ho;exact d
 | bk r=>cases ho;exact d
 | ct r=>cases ho;exact d
theorem ER.set{HB H0 H H0' H':Hp}{σ:L2.St}{ρ:En}{i:Nat}{v:V}{r:Sl}(e:ER K HB H0 H σ ρ)(x:Ext H0 H H0' H')(sb:Same HB H)(h:SlH K H H0' H' v r):ER K HB H0' H' (σ.set i (some v)) (ρ.set i (some r)):=by
 have e':=e.ext x;refine ⟨by rw [CD,CD];exact e.len,fun j s hs=> ?_,fun j k a ds es hjk hj hk h1 h2=> ?_⟩
 . by_cases hj:i=j
   . subst hj;rw [BL] at hs ⊢
     cases hq:ρ[i]? with
     | none=>rw [hq] at hs;cases hs
     | some q=>
      rw [hq] at hs
      have hi:i<σ.length:=by rw [e.len];exact (AX.mp hq).1
      rw [B4 hi]
      cases hs
      exact ⟨v,rfl,h.base sb⟩
   . rw [A8 hj] at hs ⊢
     exact e'.get j s hs
 . have key : ∀ (j' k' : Nat) (b : Addr) ds' es', i = j' -> i ≠ k' -> (ρ.set i (some r))[j']? = some (some (.own ds')) -> ρ[k']? = some (some (.own es')) -> (σ.set i (some v))[j']? = some (some (.ref b)) -> σ[k']? ≠ some (some (.ref b)) := by
    clear hj hk h1 h2 hjk;intro j' k' b ds' es' hij hik hj hk h1 h2;subst hij;rw [BL] at hj h1
    cases hq:ρ[i]? with
    | none=>rw [hq] at hj;cases hj
    | some q=>
     rw [hq] at hj
     cases hj
     have hi:i<σ.length:=by rw [e.len];exact (AX.mp hq).1
     rw [B4 hi] at h1
     cases h1
     obtain ⟨a',vs,ea,hn,_⟩:=h
     cases ea
     obtain ⟨w,hw,hb⟩:=e.get k' _ hk;rw [h2] at hw
     cases hw
     obtain ⟨b',ws,eb,_,_,hs,_⟩:=hb
     cases eb
     rw [hn] at hs
     cases hs
   by_cases hij:i=j
   . have hik:i≠k:=fun z=>hjk (hij.symm.trans z);rw [A8 hik] at hk h2
     exact key j k a ds es hij hik hj hk h1 h2
   . rw [A8 hij] at hj h1
     by_cases hik:i=k
     . exact key k j a es ds hik hij hk hj h2 h1
     . rw [A8 hik] at hk h2
       exact e.apart j k a ds es hjk hj hk h1 h2
def mAsg(i:Nat)(f:En->Option Sl):En->Option Out:=fun ρ=>(f ρ).map fun r=> .nx (ρ.set i (some r))
theorem uD{te:TE}{f:En->Option Sl}{i:Nat}(hsl:R.slot i)(h:RE K R te f):RS K R (T4 te (MS i)) (mAsg i f):=fun HB S0 σ ρ H0 H x e o ho D d=>by
 obtain ⟨r,hr,rfl⟩:=AQ.mp ho;exact h HB σ ρ H0 H x.s1 e r hr _ fun v H1 J1 x1 p1=>d _ H1 J1 (x.chain x1) ⟨RelOk.set e.r hsl x1 x.s p1⟩
theorem nN{te:TE}{f:En->Option Sl}{i:Nat}(hsl:R.slot i)(h:RE K R te f):RS K R (qC i te) (mAsg i f):=fun HB S0 σ ρ H0 H x e o ho D d=>by
 obtain ⟨r,hr,rfl⟩:=AQ.mp ho;exact h HB σ ρ H0 H x.s1 e r hr _ fun v H1 J1 x1 p1=>d _ H1 J1 (x.chain x1) ⟨RelOk.set e.r hsl x1 x.s p1⟩
def mRet(f:En->Option Sl):En->Option Out:=fun ρ=>(f ρ).map fun r=> .rt r ρ
theorem tO{te:TE}{f:En->Option Sl}(h:RE K R te f):RS K R (oH te) (mRet f):=fun HB S0 σ ρ H0 H x e o ho D d=>by
 obtain ⟨r,hr,rfl⟩:=AQ.mp ho;exact h HB σ ρ H0 H x.s1 e r hr _ fun v H1 J1 x1 p1=>d v σ H1 J1 (x.chain x1) (e.ext (K:=K) x1) (p1.base x.s)
theorem lL(i:Nat)(hsl:R.slot i):RS K R (oH (KI i)) (mRet (mPk i)):=fun HB S0 σ ρ H0 H x e o ho D d=>by
 obtain ⟨r,hr,rfl⟩:=AQ.mp ho;obtain ⟨v,h1,h2⟩:=RelOk.get (K:=K) e.r hsl (join_some hr);exact ⟨v,h1,d v σ H0 H x e h2⟩
def mIf(c:En->Option Bool)(f g:En->Option Out):En->Option Out:=fun ρ=>(c ρ).bind fun b=>if b then f ρ else g ρ
theorem x0{c:TT}{t u:TS}{fc:En->Option Bool}{f g:En->Option Out}(hc:RT K R c fc)(h:RS K R t f)(k:RS K R u g):RS K R (sI c t u) (mIf fc f g):=fun HB S0 σ ρ H0 H x e o ho D d=>by
 obtain ⟨b,hb,ho⟩:=A0.mp ho;refine hc HB σ ρ H0 H x.s1 e b hb _ fun H1 J1 x1=> ?_
 cases b with
 | true=>exact UZ (h HB S0 σ ρ H1 J1 (x.chain x1) (e.ext (K:=K) x1) o ho D d)
 | false=>exact V2 (k HB S0 σ ρ H1 J1 (x.chain x1) (e.ext (K:=K) x1) o ho D d)
def mDrop(f:En->Option Sl):En->Option Out:=fun ρ=>(f ρ).map fun _=> .nx ρ
theorem Ext.write{S0 HB H0 H:Hp}{a:Addr}(x:Ext S0 HB H0 H)(hb:HB a=none)(h0:H0 a=none)(o:HO):Ext S0 HB H0 (upd H a o) :=
 ⟨fun b u e=>by rw [AY (BD e hb)];exact x.s b u e,x.s0,fun b u e=>by rw [AY (BD e h0)];exact x.s1 b u e,x.own⟩
theorem ER.write {HB H0 H : Hp} {σ : L2.St} {ρ : En} {i : Nat} {a : Addr} {ds es : List PyData} {ys : List V} (e : ER K HB H0 H σ ρ) (hi : ρ[i]? = some (some (.own ds))) (hs : σ[i]? = some (some (.ref a))) (hb : HB a = none) (h0 : H0 a = none) (hr : Reps K H0 ys es) :
 ER K HB H0 (upd H a (.lst ys)) σ (ρ.set i (some (.own es))):=by
 have own:∀(j:Nat),∀ts,(ρ.set i (some (.own es)))[j]? = some (some (.own ts))->∃ts',ρ[j]? = some (some (.own ts')):=by
  intro j ts h
  by_cases hj:i=j
  . subst hj;exact ⟨_,hi⟩
  . rw [A8 hj] at h;exact ⟨_,h⟩
 refine ⟨by rw [CD];exact e.len,fun j s hq=> ?_,fun j k b ts us hjk hj hk h1 h2=> ?_⟩
 . by_cases hj:i=j
   . subst hj;rw [BL,hi] at hq
     cases hq
     exact ⟨.ref a,hs,a,ys,rfl,hb,h0,BC,hr⟩
   . rw [A8 hj] at hq
     obtain ⟨v,h1,h2⟩:=e.get j s hq;refine ⟨v,h1,?_⟩
     cases s with
     | val d=>exact h2
     | own ts=>
      obtain ⟨b,vs,rfl,g1,g2,g3,g4⟩:=h2;refine ⟨b,vs,rfl,g1,g2,?_,g4⟩;rw [AY]
      . exact g3
      . rintro rfl
        exact e.apart i j b ds ts hj hi hq hs h1
     | dct ts=>
      obtain ⟨b,t,rfl,g1,g2,g3,g4⟩:=h2;refine ⟨b,t,rfl,g1,g2,?_,g4⟩;rw [AY]
      . exact g3
      . rintro rfl;obtain ⟨v',hs',a',vs',e',_,_,g5,_⟩:=e.get i _ hi;rw [hs] at hs'
        cases hs'
        cases e'
        rw [g3] at g5
        cases g5
 . obtain ⟨ts',hj⟩:=own j ts hj;obtain ⟨us',hk⟩:=own k us hk;exact e.apart j k b ts' us' hjk hj hk h1 h2
def mApp(i:Nat)(f:En->Option Sl):En->Option Out:=fun ρ=>match (ρ[i]?).join with
 | some (.own ds)=>(f ρ).bind fun r=>if ds.length<sizeLine then some (.nx (ρ.set i (some (.own (ds ++ [r.dat]))))) else none
 | _=>none
theorem SH {HB H0 H : Hp} {σ : L2.St} {ρ : En} {i : Nat} {ds : List PyData} (e : ST R HB H0 H σ ρ) (hsl : R.slot i) (h : (ρ[i]?).join = some (.own ds)) :
 ∃a vs,ρ[i]? = some (some (.own ds))/\σ[i]? = some (some (.ref a))/\HB a=none/\H0 a=none/\H a=some (.lst vs)/\Reps K H0 vs ds:=by
 obtain ⟨v,h1,a,vs,rfl,g1,g2,g3,g4⟩:=RelOk.get (K:=K) e.r hsl (join_some h);exact ⟨a,vs,join_some h,h1,g1,g2,g3,g4⟩
theorem t7{te:TE}{f:En->Option Sl}{i:Nat}(hsl:R.slot i)(h:RE K R te f):RS K R (R6 (tBM K "list" rAppend (KI i) (JV te tNil))) (mApp i f):=fun HB S0 σ ρ H0 H x e o ho D d=>by
 unfold mApp at ho
 split at ho
 . rename_i ds hj;obtain ⟨r,hr,ho⟩:=A0.mp ho
   split at ho
   . rename_i hl
     cases ho
     obtain ⟨a,vs,hi,hs,g1,g2,g3,g4⟩:=SH (K:=K) e hsl hj;refine ⟨.ref a,hs, .inl ⟨rfl,vs,SqL.of g3⟩,?_⟩;refine h.rv HB σ ρ H0 H x.s1 e r.dat (by unfold mDat;rw [hr];rfl) _ fun v H1 J1 x1 p1=> ?_;have l0:=x1.own a _ g3 True.intro g2;refine ⟨a,vs,v,rfl,rfl,x1.s _ _ g3,by rw [g4.length];exact hl,?_⟩;exact d σ H1 _ ((x.chain x1).write g1 l0 _) ⟨RelOk.write (K:=K) (e.ext (K:=K) x1).r hsl hi hs g1 l0 (x1.s _ _ g3) (Tf.Reps.snoc (Reps.same x1.s0 g4) p1)⟩
   . cases ho
 . cases ho
def mSet(i:Nat)(fj f:En->Option Sl):En->Option Out:=fun ρ=>(f ρ).bind fun r=>match (ρ[i]?).join with
 | some (.own ds)=>(fj ρ).bind fun k=>match k with
  | .val (.int k)=>(ixN ds.length k).map fun j=> .nx (ρ.set i (some (.own (ds.set j r.dat))))
  | _=>none
 | _=>none
theorem Reps.set{H:Hp}{v:V}{d:PyData}(r:Rep K H v d):∀ {vs:List V} {ds:List PyData} (i:Nat),Reps K H vs ds->Reps K H (vs.set i v) (ds.set i d)
 | _,_,_, .nil=> .nil
 | _,_,0, .cons _ t=> .cons r t
 | _,_,i+1, .cons q t=> .cons q (Reps.set r i t)
theorem uK{te tj:TE}{f fj:En->Option Sl}{i:Nat}(hsl:R.slot i)(h:RE K R te f)(hj:RP K R tj fj):RS K R (T4 te (t6 (KI i) tj rSetL)) (mSet i fj f):=fun HB S0 σ ρ H0 H x e o ho D d=>by
 obtain ⟨r,hr,ho⟩:=A0.mp ho
 split at ho
 . rename_i ds hown;obtain ⟨k,hk,ho⟩:=A0.mp ho
   split at ho
   . rename_i k;obtain ⟨j,hix,rfl⟩:=Option.map_eq_some_iff.mp ho;refine h.rv HB σ ρ H0 H x.s1 e r.dat (by unfold mDat;rw [hr];rfl) _ fun v H1 J1 x1 p1=> ?_;obtain ⟨a,vs,hi,hs,g1,g2,g3,g4⟩:=SH (K:=K) (e.ext (K:=K) x1) hsl hown;refine ⟨.ref a,hs,?_⟩;refine hj HB σ ρ H1 J1 x1.s1 (e.ext (K:=K) x1) _ hk _ fun w H2 J2 x2 p2=> ?_;have l0:=x2.own a _ g3 True.intro g2;refine ⟨a,vs,k,j,rfl,p2.int,x2.s _ _ g3,by rw [g4.length];exact hix,?_⟩;exact d σ H2 _ (((x.chain x1).chain x2).write g1 l0 _) ⟨RelOk.write (K:=K) ((e.ext (K:=K) x1).ext (K:=K) x2).r hsl hi hs g1 l0 (x2.s _ _ g3) (Reps.set (Rep.same x2.s0 p1) j (Reps.same x2.s0 g4))⟩
   . cases ho
 . cases ho
def frz1(i:Nat)(ρ:En):En:=match (ρ[i]?).join with
 | some (.own ds)=>ρ.set i (some (.val (.list ds)))
 | _=>ρ
def mFrz(i:Nat)(g:En->Option Out):En->Option Out:=fun ρ=>g (frz1 i ρ)
theorem ER.frz{S0 HB H0 H:Hp}{σ:L2.St}{ρ:En}{i:Nat}{ds:List PyData}(e:ER K HB H0 H σ ρ)(hi:ρ[i]? = some (some (.own ds)))(x:Ext S0 HB H0 H):∃a vs,H a=some (.lst vs)/\Ext S0 HB (upd H0 a (.lst vs)) H/\ER K HB (upd H0 a (.lst vs)) H σ (ρ.set i (some (.val (.list ds)))):=by
 obtain ⟨v,hs,a,vs,rfl,g1,g2,g3,g4⟩:=e.get i _ hi;have s0:Same H0 (upd H0 a (.lst vs)):=Same.upd g2 _
 have x' : Ext S0 HB (upd H0 a (.lst vs)) H := ⟨x.s, x.s0.trans s0, fun b u q => by
  by_cases hb:b=a
  . subst hb;rw [BC] at q;rw [g3];exact q
  . rw [AY hb] at q;exact x.s1 b u q,fun b u q m q0=>by rw [AY (BD q g1)];exact x.own b u q m q0⟩
 refine ⟨a,vs,g3,x',⟨by rw [CD];exact e.len,fun j s hq=> ?_,fun j k b ts us hjk h1 h2 h3 h4=> ?_⟩⟩
 . by_cases hij:i=j
   . subst hij;rw [BL,hi] at hq
     cases hq
     exact ⟨.ref a,hs, .list (SqL.of BC) (Reps.same s0 g4)⟩
   . rw [A8 hij] at hq
     obtain ⟨v,h1,h2⟩:=e.get j s hq;refine ⟨v,h1,?_⟩
     cases s with
     | val d=>exact Rep.same s0 h2
     | own ts=>
      obtain ⟨b,ws,rfl,q1,q2,q3,q4⟩:=h2;refine ⟨b,ws,rfl,q1,?_,q3,Reps.same s0 q4⟩;rw [AY]
      . exact q2
      . rintro rfl
        exact e.apart i j b ds ts hij hi hq hs h1
     | dct ts=>
      obtain ⟨b,t,rfl,q1,q2,q3,q4⟩:=h2;refine ⟨b,t,rfl,q1,?_,q3,q4.same s0⟩;rw [AY]
      . exact q2
      . rintro rfl;rw [q3] at g3
        cases g3
 . have hij : i ≠ j := by
    rintro rfl;rw [BL,hi] at h1
    cases h1
   have hik:i≠k:=by
    rintro rfl;rw [BL,hi] at h2
    cases h2
   rw [A8 hij] at h1
   rw [A8 hik] at h2
   exact e.apart j k b ts us hjk h1 h2 h3 h4
instance relOk_PR:RelOk K (PR K) where
 ext:=fun x e=>ER.ext x e
 get:=fun e _ h=>ER.get e _ _ h
 set:=fun e _ x s h=>ER.set e x s h
 write:=fun e _ h1 h2 h3 h4 _ h5=>ER.write e h1 h2 h3 h4 h5
 frz:=fun e _ h x=>by obtain ⟨a,vs,_,h1,h2⟩:=ER.frz e h x;exact ⟨_,h1,h2⟩
theorem sD{ts:TS}{g:En->Option Out}(i:Nat)(hsl:R.slot i)(h:RS K R ts g):RS K R ts (mFrz i g):=fun HB S0 σ ρ H0 H x e o ho D d=>by
 unfold mFrz frz1 at ho
 split at ho
 . rename_i ds hj;obtain ⟨H0',x',e'⟩:=RelOk.frz (K:=K) e.r hsl (join_some hj) x;exact h HB S0 σ _ H0' H x' ⟨e'⟩ o ho D d
 . exact h HB S0 σ ρ H0 H x e o ho D d
def RG(K:PySem.W.Frag)(R:Rl)(g:TG)(fg:PyData->En->Option En):Prop:=
 ∀(HB:Hp) (σ:L2.St) (ρ ρ':En) (H0 H:Hp) (v:V) (d:PyData),Same H0 H->Same HB H->ST R HB H0 H σ ρ->Rep K H0 v d->fg d ρ=some ρ'->∀Q:L2.St->Hp->Prop,(∀σ',ST R HB H0 H σ' ρ'->Q σ' H)->g v σ H Q
def gVar(i:Nat):PyData->En->Option En:=fun d ρ=>some (ρ.set i (some (.val d)))
theorem YF(i:Nat)(hsl:R.slot i):RG K R (MS i) (gVar i):=fun HB σ ρ ρ' H0 H v d s sb e r h Q q=>by
 cases h
 exact q _ ⟨RelOk.set (K:=K) e.r hsl (Ext.refl s) sb (show SlH K H H0 H v (.val d) from r)⟩
def gsAll:List (PyData->En->Option En)->List PyData->En->Option En
 | [],[],ρ=>some ρ
 | g::gs,d::ds,ρ=>(g d ρ).bind fun ρ'=>gsAll gs ds ρ'
 | _,_,_=>none
def gTupD(gs:List (PyData->En->Option En)):PyData->En->Option En:=fun d ρ=>match d with
 | .tuple ds=>if ds.length=gs.length then gsAll gs ds ρ else none
 | _=>none
def RGs(K:PySem.W.Frag)(R:Rl)(g:TGs)(gs:List (PyData->En->Option En)):Prop:=
 ∀(HB:Hp) (σ:L2.St) (ρ ρ':En) (H0 H:Hp) (vs:List V) (ds:List PyData),Same H0 H->Same HB H->ST R HB H0 H σ ρ->Reps K H0 vs ds->gsAll gs ds ρ=some ρ'->∀Q:L2.St->Hp->Prop,(∀σ',ST R HB H0 H σ' ρ'->Q σ' H)->g vs σ H Q
theorem YD:RGs K R gNil []:=fun HB σ ρ ρ' H0 H vs ds s sb e r h Q q=>by
 cases r with
 | nil=>cases h;exact ⟨rfl,q _ e⟩
 | cons _ _=>cases h
theorem W3{g:TG}{u:TGs}{fg:PyData->En->Option En}{gs:List (PyData->En->Option En)}(h1:RG K R g fg)(h2:RGs K R u gs):RGs K R (jR g u) (fg::gs):=fun HB σ ρ ρ' H0 H vs ds s sb e r h Q q=>by
 cases r with
 | nil=>cases h
 | cons r1 r2=>
  obtain ⟨ρ1,e1,h⟩:=A0.mp (show (fg _ ρ).bind _=some ρ' from h);exact ⟨_,_,rfl,h1 HB σ ρ ρ1 H0 H _ _ s sb e r1 e1 _ fun σ' e'=>h2 HB σ' ρ1 ρ' H0 H _ _ s sb e' r2 h Q q⟩
theorem fD{g:TGs}{gs:List (PyData->En->Option En)}{n:Nat}(hn:n=gs.length)(h:RGs K R g gs):RG K R (sV K n g) (gTupD gs):=fun HB σ ρ ρ' H0 H v d s sb e r hd Q q=>by
 unfold gTupD at hd
 split at hd
 . split at hd
   . rename_i ds hl
     cases r with
     | tuple r1 r2=>exact ⟨_,_,rfl,s.seqT r1,by rw [r2.length,hl,hn],h HB σ ρ ρ' H0 H _ _ s sb e r2 hd Q q⟩
   . cases hd
 . cases hd
def ItR(K:PySem.W.Frag)(H0:Hp)(J:It)(ds:List PyData):Prop:=∀H0' H',Same H0 H0'->Same H0' H'->∀i:Nat,(∀d,ds[i]? = some d->J.go i H'/\∀x H2,J.yld i H' x H2->∃H02,Ext H0' H' H02 H2/\Rep K H02 x d)/\(ds.length<=i->J.stop i H')
def RI(K:PySem.W.Frag)(R:Rl)(wi:TI)(f:En->Option (List PyData)):Prop:=
 ∀(HB:Hp) (σ:L2.St) (ρ:En) (H0 H:Hp),Same H0 H->ST R HB H0 H σ ρ->∀ds,f ρ=some ds->∀R:It->Hp->Prop,(∀J H0' H',Ext H0 H H0' H'->ItR K H0' J ds->R J H')->wi σ H R
def mItems(f:En->Option Sl):En->Option (List PyData):=fun ρ=>(f ρ).bind fun a=>match a.dat with
 | .list ds=>some ds
 | _=>none
def mItemsT(f:En->Option Sl):En->Option (List PyData):=fun ρ=>(f ρ).bind fun a=>match a.dat with
 | .tuple ds=>some ds
 | _=>none
theorem YQ{H0:Hp}{a:Addr}{vs:List V}{ds:List PyData}(h:SqL K H0 a vs)(r:Reps K H0 vs ds):ItR K H0 (Itl K a) ds:=fun H0' H' s s' i=>by
 have h':=s'.seq (s.seq h);refine ⟨fun d hd=> ?_,fun hi=>⟨vs,h',by rw [r.length];exact hi⟩⟩;obtain ⟨v,e1,e2⟩:=Tf.Reps.get r hd;refine ⟨⟨vs,v,h',e1⟩,fun x H2 y=> ?_⟩;obtain ⟨rfl,y⟩:=y;have:=y vs h';rw [e1] at this
 cases this
 exact ⟨H0',Ext.refl s',Rep.same s e2⟩
theorem sM{H0:Hp}{a:Addr}{vs:List V}{ds:List PyData}(h:SqT K H0 a vs)(r:Reps K H0 vs ds):ItR K H0 (Itt K a) ds:=fun H0' H' s s' i=>by
 have h':=s'.seqT (s.seqT h);refine ⟨fun d hd=> ?_,fun hi=>⟨vs,h',by rw [r.length];exact hi⟩⟩;obtain ⟨v,e1,e2⟩:=Tf.Reps.get r hd;refine ⟨⟨vs,v,h',e1⟩,fun x H2 y=> ?_⟩;obtain ⟨rfl,y⟩:=y;have:=y vs h';rw [e1] at this
 cases this
 exact ⟨H0',Ext.refl s',Rep.same s e2⟩
theorem mE{te:TE}{f:En->Option Sl}(h:RE K R te f):RI K R (eI K te) (mItems f):=fun HB σ ρ H0 H s e ds hd R q=>by
 obtain ⟨a,ha,hd⟩:=A0.mp hd
 split at hd
 . rename_i es he
   cases hd
   refine h.rv HB σ ρ H0 H s e a.dat (by unfold mDat;rw [ha];rfl) _ fun v H1 J1 x1 p1=> ?_;rw [he] at p1
   cases p1 with
   | list h1 h2=>exact ⟨_,rfl,⟨_,x1.s1.seq h1⟩,q _ _ _ x1 (YQ h1 h2)⟩
 . cases hd
def FA(lo:Int)(n:Nat):List PyData:=(List.range n).map fun i=> .int (lo+(i:Nat))
theorem M5{lo:Int}{n i:Nat}:(FA lo n)[i]? = if i<n then some (.int (lo+(i:Nat))) else none:=by
 unfold FA;rw [List.getElem?_map]
 by_cases h:i<n
 . rw [CH h,CQ h];rfl
 . rw [C9 h,D3 (by simpa using h)];rfl
theorem UX{H0:Hp}{lo:Int}{n:Nat}:ItR K H0 (Itr lo n) (FA lo n):=fun H0' H' s s' i=>by
 refine ⟨fun d hd=> ?_,fun hi=>show n<=i by simpa [FA] using hi⟩;rw [M5] at hd
 split at hd
 . rename_i hi
   cases hd
   exact ⟨hi,fun x H2 y=>by obtain ⟨rfl,rfl⟩:=y;exact ⟨H0',Ext.refl s', .int _⟩⟩
 . cases hd
def inB(i:Int):Prop:= -(2 ^ 62)<=i/\i<2 ^ 62
noncomputable instance (i:Int):Decidable (inB i):=Classical.propDecidable _
noncomputable def EZ(f:En->Option (List Sl)):En->Option (List PyData):=fun ρ=>(f ρ).bind fun a=>match a with
 | [.val (.int j)]=>if inB j then some (FA 0 j.toNat) else none
 | _=>none
theorem cQ{ta:TA}{f:En->Option (List Sl)}(h:RQ K R ta f):RI K R (q9 ta) (EZ f):=fun HB σ ρ H0 H s e ds hd R q=>by
 obtain ⟨a,ha,hd⟩:=A0.mp hd
 split at hd
 . split at hd
   . rename_i j hb
     cases hd
     refine h HB σ ρ H0 H s e _ ha _ fun vs H1 J1 x1 p1=> ?_;obtain ⟨v,rfl,pa⟩:=HC p1;exact ⟨j,by rw [pa.int],hb.1,hb.2,q _ _ _ x1 UX⟩
   . cases hd
 . cases hd
noncomputable def JW(f:En->Option (List Sl)):En->Option (List PyData):=fun ρ=>(f ρ).bind fun a=>match a with
 | [.val (.int i), .val (.int j)]=>if inB i/\inB j then some (FA i (j - i).toNat) else none
 | _=>none
theorem bF{ta:TA}{f:En->Option (List Sl)}(h:RQ K R ta f):RI K R (qU ta) (JW f):=fun HB σ ρ H0 H s e ds hd R q=>by
 obtain ⟨a,ha,hd⟩:=A0.mp hd
 split at hd
 . split at hd
   . rename_i i j hb
     cases hd
     refine h HB σ ρ H0 H s e _ ha _ fun vs H1 J1 x1 p1=> ?_;obtain ⟨v,w,rfl,pa,pb⟩:=nW p1;exact ⟨i,j,by rw [pa.int,pb.int],⟨hb.1.1,hb.1.2,hb.2.1,hb.2.2⟩,q _ _ _ x1 UX⟩
   . cases hd
 . cases hd
def KA(xs ys:List PyData):List PyData:=List.zipWith (fun x y=> .tuple [x,y]) xs ys
theorem iZ{H0:Hp}{a b:Addr}{vs ws:List V}{ds es:List PyData}(h:SqL K H0 a vs)(r:Reps K H0 vs ds)(h2:SqL K H0 b ws)(r2:Reps K H0 ws es):ItR K H0 (Itz K a b) (KA ds es):=fun H0' H' s s' i=>by
 have h':=s'.seq (s.seq h);have h2':=s'.seq (s.seq h2);refine ⟨fun d hd=> ?_,fun hi=>⟨vs,ws,h',h2',?_⟩⟩
 . unfold KA at hd
   rw [wT] at hd
   cases e1:ds[i]? with
   | none=>rw [e1] at hd;cases hd
   | some x=>
    cases e2:es[i]? with
    | none=>rw [e1,e2] at hd;cases hd
    | some y=>
     rw [e1,e2] at hd
     cases hd
     obtain ⟨v,q1,q2⟩:=Tf.Reps.get r e1;obtain ⟨w,q3,q4⟩:=Tf.Reps.get r2 e2;refine ⟨⟨vs,ws,v,w,h',h2',q1,q3⟩,fun z H2 yl=> ?_⟩;obtain ⟨p,x',y',hp,rfl,rfl,hx,hy⟩:=yl;have:=hx vs h';rw [q1] at this
     cases this
     have:=hy ws h2';rw [q3] at this
     cases this
     refine ⟨_,Ext.allocF s' hp _, .tuple (SqT.of BC) ?_⟩;have s2:=s.trans (Same.upd (s'.free hp) (.tup [v,w]));exact .cons (Rep.same s2 q2) (.cons (Rep.same s2 q4) .nil)
 . rw [r.length,r2.length];unfold KA at hi
   rw [yQ] at hi
   omega
def gN(f:En->Option (List PyData)):En->Option (List PyData):=fun ρ=>(f ρ).bind fun a=>match a with
 | [.list xs, .list ys]=>some (KA xs ys)
 | _=>none
theorem rT{ta:TA}{f:En->Option (List PyData)}(h:RA K R ta f):RI K R (yD K ta) (gN f):=fun HB σ ρ H0 H s e ds hd R q=>by
 obtain ⟨a,ha,hd⟩:=A0.mp hd
 split at hd
 . cases hd
   refine h HB σ ρ H0 H s e _ ha _ fun vs H1 J1 x1 p1=> ?_
   cases p1 with | cons p1 t=>cases t with | cons p2 t=>
    cases t
    cases p1 with | list a1 a2=>cases p2 with | list b1 b2=>
     exact ⟨_,_,rfl,⟨_,x1.s1.seq a1⟩,⟨_,x1.s1.seq b1⟩,q _ _ _ x1 (iZ a1 a2 b1 b2)⟩
 . cases hd
def JE(fg:PyData->En->Option En)(gb:En->Option Out):List PyData->En->Option Out
 | [],ρ=>some (.nx ρ)
 | d::ds,ρ=>(fg d ρ).bind fun ρ1=>(gb ρ1).bind fun o=>match o with
  | .nx ρ2=>JE fg gb ds ρ2
  | .ct ρ2=>JE fg gb ds ρ2
  | .bk ρ2=>some (.nx ρ2)
  | .rt r ρ2=>some (.rt r ρ2)
def F6(fi:En->Option (List PyData))(fg:PyData->En->Option En)(gb:En->Option Out):En->Option Out:=fun ρ=>(fi ρ).bind fun ds=>JE fg gb ds ρ
theorem KZ {fg : PyData -> En -> Option En} {gb : En -> Option Out} {ds : List PyData} {i : Nat} {d : PyData} {ρ : En} (h : ds[i]? = some d) : JE fg gb (ds.drop i) ρ = (fg d ρ).bind fun ρ1 => (gb ρ1).bind fun o => match o with
 | .nx ρ2=>JE fg gb (ds.drop (i+1)) ρ2
 | .ct ρ2=>JE fg gb (ds.drop (i+1)) ρ2
 | .bk ρ2=>some (.nx ρ2)
 | .rt r ρ2=>some (.rt r ρ2):=by
 obtain ⟨hi,e⟩:=AX.mp h;rw [FJ hi,e];rfl
theorem sY{wi:TI}{g:TG}{tb:TS}{fi:En->Option (List PyData)}{fg:PyData->En->Option En}{gb:En->Option Out}(hi:RI K R wi fi)(hg:RG K R g fg)(hb:RS K R tb gb):RS K R (v4 wi g tb) (F6 fi fg gb):=fun HB S0 σ ρ H0 H x e o ho D d=>by
 obtain ⟨ds,hds,ho⟩:=A0.mp ho;refine hi HB σ ρ H0 H x.s1 e ds hds _ fun J H1 J1 x1 it=> ?_;have x':=x.chain x1;refine ⟨fun i m σ H=>m=ds.length - i/\((∃ρ H0',i<=ds.length/\Ext H1 HB H0' H/\ST R HB H0' H σ ρ/\JE fg gb (ds.drop i) ρ=some o)),⟨_,rfl,ρ,H1,DL _,x'.rebase,e.ext (K:=K) x1,ho⟩,?_⟩;rintro i m σ1 H2 ⟨rfl,ρ1,H0',hile,xx,e1,hf⟩;obtain ⟨ig,is⟩:=it H0' H2 xx.s0 xx.s1 i
 by_cases hlt:i<ds.length
 . right;obtain ⟨go,yl⟩:=ig ds[i] (by simp [hlt]);rw [KZ (d:=ds[i]) (by simp [hlt])] at hf
   obtain ⟨ρ2,hr2,hf⟩:=A0.mp hf;obtain ⟨o2,ho2,hf⟩:=A0.mp hf;refine ⟨go,fun σ' H'=>∃ρ H0',Ext H1 HB H0' H'/\ST R HB H0' H' σ' ρ/\JE fg gb (ds.drop (i+1)) ρ=some o,fun σ' H' ⟨ρ',H0'',a1,a2,a3⟩=>⟨ds.length - (i+1),by omega,rfl,ρ',H0'',hlt,a1,a2,a3⟩,fun v H3 y=> ?_⟩;obtain ⟨H03,x3,r3⟩:=yl v H3 y;have xx3:=xx.chain x3;refine hg HB σ1 ρ1 ρ2 H03 H3 v _ xx3.s1 xx3.s (e1.ext (K:=K) x3) r3 hr2 _ fun σ2 e2=> ?_;refine hb HB H1 σ2 ρ2 H03 H3 xx3 e2 o2 ho2 _ ?_
   cases o2 with
   | nx ρ3=>exact fun σ' H0'' H' a b=>⟨ρ3,H0'',a,b,hf⟩
   | ct ρ3=>exact fun σ' H0'' H' a b=>⟨ρ3,H0'',a,b,hf⟩
   | bk ρ3=>cases hf;exact fun σ' H0'' H' a b=>d σ' H0'' H' (x'.unbase a) b
   | rt r ρ3=>cases hf;exact fun v σ' H0'' H' a b c=>d v σ' H0'' H' (x'.unbase a) b c
 . left;refine ⟨is (by omega),?_⟩;rw [E3 (by omega)] at hf
   cases hf
   exact d σ1 H0' H2 (x'.unbase xx) e1
def FC(c:En->Option Bool)(b:En->Option Out):Nat->En->Option Out
 | 0,_=>none
 | n + 1, ρ => (c ρ).bind fun k => if k then (b ρ).bind fun o => match o with
  | .nx ρ2=>FC c b n ρ2
  | .ct ρ2=>FC c b n ρ2
  | .bk ρ2=>some (.nx ρ2)
  | .rt r ρ2=>some (.rt r ρ2)
  else some (.nx ρ)
open Classical in
noncomputable def IX(c:En->Option Bool)(b:En->Option Out):En->Option Out:=fun ρ=>if h:∃o n,FC c b n ρ=some o then some h.choose else none
theorem IR{c:En->Option Bool}{b:En->Option Out}:∀ {n:Nat} {ρ:En} {o:Out},FC c b n ρ=some o->∀m,n<=m->FC c b m ρ=some o
 | 0,_,_,h,_,_=>by cases h
 | n+1,ρ,o,h,m,hm=>by
  obtain ⟨m,rfl⟩:∃k,m=k+1:=⟨m - 1,by omega⟩;unfold FC at h ⊢
  obtain ⟨k,hk,h⟩:=A0.mp h;rw [hk]
  cases k with
  | false=>exact h
  | true=>
   show Option.bind _ _=_;simp only [GW] at h
   obtain ⟨o2,h2,h⟩:=A0.mp h;rw [h2]
   cases o2 with
   | nx ρ2=>exact IR (n:=n) h m (by omega)
   | ct ρ2=>exact IR (n:=n) h m (by omega)
   | bk ρ2=>exact h
   | rt r _=>exact h
theorem QX{c:En->Option Bool}{b:En->Option Out}{ρ:En}{o:Out}{n:Nat}(h:FC c b n ρ=some o):IX c b ρ=some o:=by
 have hx:∃o n,FC c b n ρ=some o:=⟨o,n,h⟩;unfold IX;rw [dif_pos hx];obtain ⟨m,hm⟩:=hx.choose_spec;have h1:=IR h (max n m) (Nat.le_max_left _ _);have h2:=IR hm (max n m) (Nat.le_max_right _ _);rw [<-h2,h1]
theorem VB{c:En->Option Bool}{b:En->Option Out}{ρ:En}{o:Out}(h:IX c b ρ=some o):∃n,FC c b n ρ=some o:=by
 unfold IX at h
 split at h
 . rename_i hx;obtain ⟨m,hm⟩:=hx.choose_spec
   cases h
   exact ⟨m,hm⟩
 . cases h
theorem fM{c:TT}{tb:TS}{fc:En->Option Bool}{gb:En->Option Out}(hc:RT K R c fc)(hb:RS K R tb gb):RS K R (kA c tb) (IX fc gb):=fun HB S0 σ ρ H0 H x e o ho D d=>by
 obtain ⟨n,hn⟩:=VB ho;refine ⟨fun m σ H=>∃ρ H0,Ext S0 HB H0 H/\ST R HB H0 H σ ρ/\FC fc gb m ρ=some o,⟨n,ρ,H0,x,e,hn⟩,?_⟩;rintro m σ1 H1 ⟨ρ1,H01,x1,e1,hw⟩
 cases m with
 | zero=>cases hw
 | succ m=>
  unfold FC at hw
  obtain ⟨k,hk,hw⟩:=A0.mp hw;refine hc HB σ1 ρ1 H01 H1 x1.s1 e1 k hk _ fun H2 J2 x2=> ?_;have x12:=x1.chain x2
  cases k with
  | false=>cases hw;exact V2 (d σ1 H2 J2 x12 (e1.ext (K:=K) x2))
  | true=>
   simp only [GW] at hw
   obtain ⟨o2,h2,hw⟩:=A0.mp hw;refine UZ ⟨fun σ' H'=>∃ρ H0,Ext S0 HB H0 H'/\ST R HB H0 H' σ' ρ/\FC fc gb m ρ=some o,fun σ' H' h=>⟨m,IV m,h⟩,?_⟩;refine hb HB S0 σ1 ρ1 H2 J2 x12 (e1.ext (K:=K) x2) o2 h2 _ ?_
   cases o2 with
   | nx ρ3=>exact fun σ' H0'' H' a b=>⟨ρ3,H0'',a,b,hw⟩
   | ct ρ3=>exact fun σ' H0'' H' a b=>⟨ρ3,H0'',a,b,hw⟩
   | bk ρ3=>cases hw;exact fun σ' H0'' H' a b=>d σ' H0'' H' a b
   | rt r ρ3=>cases hw;exact fun v σ' H0'' H' a b c=>d v σ' H0'' H' a b c
def mAsgT(g:PyData->En->Option En)(f:En->Option Sl):En->Option Out:=fun ρ=>(f ρ).bind fun r=>(g r.dat ρ).map .nx
def mPar(i j:Nat)(f:En->Option (List PyData)):En->Option Out:=fun ρ=>(f ρ).bind fun ds=>match ds with
 | [a,b]=>some (.nx ((ρ.set i (some (.val a))).set j (some (.val b))))
 | _=>none
end
end Dm
namespace Tf
open PySem L2
theorem gX(x y:Int):Int.gcd y (x.fmod y)=Int.gcd x y:=by
 have e:x.fmod y=x - y*x.fdiv y:=rB x y;rw [e,Int.gcd_comm x y];simp
theorem oJ{x y:Int}(h:y≠0):(x.fmod y).natAbs<y.natAbs:=by
 rcases (by omega:0<y\/y<0) with p | p
 . have h1:=I9 x p;have h2:=RU x p;omega
 . have e : x.fmod y = -((-x).fmod (-y)) := by
    rw [rB,rB,Int.neg_fdiv_neg];simp [LC];omega
   have h1:=I9 (-x) (show 0 < -y by omega);have h2:=RU (-x) (show 0 < -y by omega);omega
def sg(a b:Int):Int:=if b<0 then -((Int.gcd a b:Nat):Int) else ((Int.gcd a b:Nat):Int)
def fr(a b:Int):Int×Int:=(a.fdiv (sg a b),b.fdiv (sg a b))
theorem VZ{a b:Int}(h:b≠0):sg a b≠0:=by
 have:Int.gcd a b≠0:=by
  intro e;exact h (Int.gcd_eq_zero_iff.mp e).2
 unfold sg
 split <;> omega
theorem j3(a b:Int):sg a b ∣ a/\sg a b ∣ b:=by
 have h1:=Int.gcd_dvd_left a b;have h2:=Int.gcd_dvd_right a b;unfold sg
 split
 . exact ⟨Int.neg_dvd.mpr h1,Int.neg_dvd.mpr h2⟩
 . exact ⟨h1,h2⟩
theorem UP{a d:Int}(hd:d≠0)(h:d ∣ a):a.fdiv d*d=a:=Int.fdiv_mul_cancel h
theorem X8(a b:Int)(h:b≠0):(fr a b).1*sg a b=a/\(fr a b).2*sg a b=b:=
 ⟨UP (VZ h) (j3 a b).1,UP (VZ h) (j3 a b).2⟩
theorem tD{a b:Int}(h:b≠0):0<(fr a b).2:=by
 have e:=(X8 a b h).2
 have s:(b<0/\sg a b<0)\/(0<b/\0<sg a b):=by
  have:=VZ (a:=a) h;unfold sg at *
  split at * <;> omega
 rcases s with ⟨s1,s2⟩ | ⟨s1,s2⟩
 . rcases (by omega:0<(fr a b).2\/(fr a b).2<=0) with p | p
   . exact p
   . have:=Int.mul_nonneg_of_nonpos_of_nonpos p (N5 s2);omega
 . rcases (by omega:0<(fr a b).2\/(fr a b).2<=0) with p | p
   . exact p
   . have:=Int.mul_nonpos_of_nonpos_of_nonneg p (N5 s2);omega
theorem XY(a b:Int):(sg a b).natAbs=Int.gcd a b:=by
 unfold sg
 split <;> omega
theorem w4{a b:Int}(h:b≠0):Int.gcd (fr a b).1 (fr a b).2=1:=by
 have e:=X8 a b h;have g:Int.gcd ((fr a b).1*sg a b) ((fr a b).2*sg a b)=Int.gcd (fr a b).1 (fr a b).2*(sg a b).natAbs:=Int.gcd_mul_right _ _ _;rw [e.1,e.2,XY] at g
 have hp:0<Int.gcd a b:=by
  have:=VZ (a:=a) h;have:=XY a b;omega
 have:Int.gcd (fr a b).1 (fr a b).2*Int.gcd a b=1*Int.gcd a b:=by omega
 exact Nat.eq_of_mul_eq_mul_right hp this
theorem e5{a b:Int}(h:b≠0):(fr a b).1*b=a*(fr a b).2:=by
 have e:=X8 a b h
 calc (fr a b).1*b=(fr a b).1*((fr a b).2*sg a b):=by rw [e.2]
  _=((fr a b).1*sg a b)*(fr a b).2:=by rw [K7 (fr a b).2,HI]
  _=a*(fr a b).2:=by rw [e.1]
theorem xS{n:Nat}{a b:Int}(h:b≠0)(hb:Bt n b):Bt n (sg a b):=by
 refine hb.of_le ?_;rw [XY];have h2:=FH.mpr (TW a b);exact Nat.le_of_dvd (by omega) (by simpa using h2)
def Z6(K:PySem.W.Frag):Sp:=fun vs H Q _=>∃(a:Addr) (ns:List Int),vs = [.ref a]/\SqL K H a (ns.map V.int)/\ns.length<=63/\∀H',Q (.bl true) H'
end Tf
namespace Dm
open PySem PySem.Spec PyProof.Rows L2 Tf
section
variable {K:PySem.W.Frag}
def CC(ix:List (Option Nat))(ρ:En):En:=ix.map fun o=>match o with | some j=>(ρ[j]?).join | none=>none
theorem XA:∀ {ix:List (Option Nat)},(ix.filterMap id).Nodup->∀ {i k j:Nat},ix[i]? = some (some j)->ix[k]? = some (some j)->i=k
 | [],_,i,k,j,h,_=>by simp at h
 | o::r,hn,i,k,j,h1,h2=>by
  have hr:(r.filterMap id).Nodup:=by
   cases o with
   | none=>simpa using hn
   | some a=>have hn:(a::r.filterMap id).Nodup:=hn;exact (b7.mp hn).2
  have out:∀ {k:Nat},o=some j->r[k]? = some (some j)->False:=by
   intro k ho hk;subst ho;have hn:(j::r.filterMap id).Nodup:=hn;exact (b7.mp hn).1 (HN.mpr ⟨some j,AJ hk,rfl⟩)
  cases i with
  | zero=>
   cases k with
   | zero=>rfl
   | succ k=>simp at h1 h2;exact (out h1 h2).elim
  | succ i=>
   cases k with
   | zero=>simp at h1 h2;exact (out h2 h1).elim
   | succ k=>simp at h1 h2;rw [XA hr h1 h2]
theorem IG{ix:List (Option Nat)}{ρ:En}{i:Nat}{s:Sl}(h:(CC ix ρ)[i]? = some (some s)):∃j,ix[i]? = some (some j)/\ρ[j]? = some (some s):=by
 unfold CC at h
 rw [B8] at h
 cases e:ix[i]? with
 | none=>rw [e] at h;cases h
 | some o=>
  rw [e] at h
  cases o with
  | none=>cases h
  | some j=>exact ⟨j,rfl,join_some (B9 h)⟩
theorem KP{ix:List (Option Nat)}{σ:L2.St}{i j:Nat}(h:ix[i]? = some (some j)):(FY ix σ)[i]? = some (σ[j]?).join:=by
 unfold FY;rw [List.getElem?_map,h];rfl
theorem ER.sub{HB H0 H:Hp}{σ:L2.St}{ρ:En}{ix:List (Option Nat)}(hx:(ix.filterMap id).Nodup)(e:ER K HB H0 H σ ρ):ER K (fun _=>none) H0 H (FY ix σ) (CC ix ρ):=by
 refine ⟨by unfold FY CC;rw [List.length_map,List.length_map],fun i s h=> ?_,fun i k a ds es hik h1 h2 h3 h4=> ?_⟩
 . obtain ⟨j,h1,h2⟩:=IG h;obtain ⟨v,h3,h4⟩:=e.get j s h2;refine ⟨v,by rw [KP h1,h3];rfl,?_⟩
   cases s with
   | val d=>exact h4
   | own ds=>
    obtain ⟨a,vs,q1,_,q2⟩:=h4
    exact ⟨a,vs,q1,rfl,q2⟩
   | dct ds=>
    obtain ⟨a,vs,q1,_,q2⟩:=h4;exact ⟨a,vs,q1,rfl,q2⟩
 . obtain ⟨j,g1,g2⟩:=IG h1;obtain ⟨l,g3,g4⟩:=IG h2
   have hjl:j≠l:=by
    rintro rfl;exact hik (XA hx g1 g3)
   rw [KP g1] at h3
   rw [KP g3] at h4
   exact e.apart j l a ds es hjl g2 g4 (join_some (B9 h3)) (join_some (B9 h4))
def HK(f:PyData->Option (Option PyData)):List PyData->Option (List PyData)
 | []=>some []
 | d::ds=>(f d).bind fun r=>(HK f ds).map fun rest=>match r with
  | some x=>x::rest
  | none=>rest
def elM(fg:PyData->En->Option En)(ft:En->Option Bool)(fe:En->Option Sl)(ρ0:En):PyData->Option (Option PyData):=fun d=>(fg d ρ0).bind fun ρ'=>(ft ρ').bind fun b=>if b then (fe ρ').map (fun r=>some r.dat) else some none
def mLC(sb:En->En)(fi:En->Option (List PyData))(fg:PyData->En->Option En)(ft:En->Option Bool)(fe:En->Option Sl):En->Option Sl:=fun ρ=>(fi ρ).bind fun ds=>
 if ds.length<sizeLine then (HK (elM fg ft fe (sb ρ)) ds).map .own else none
def mYes:En->Option Bool:=fun _=>some true
theorem wI{R:Rl}:RT K R tNoTest mYes:=fun HB σ ρ H0 H s e b hb Q q=>by cases hb;exact q _ _ (Ext.refl s)
theorem iB {R R' : Rl} [RelOk K R] [RelOk K R'] {sb : En -> En} {ix : List (Option Nat)} {wi : TI} {g : CB -> TG} {tt : CB -> TT} {te : CB -> TE} {fi : En -> Option (List PyData)} {fg : PyData -> En -> Option En} {ft : En -> Option Bool} {fe : En -> Option Sl}
 (hx:∀(HB:Hp) (σ:L2.St) (ρ:En) (H0 H:Hp),R.r HB H0 H σ ρ->R'.r (fun _=>none) H0 H (FY ix σ) (sb ρ))
 (hi:RI K R wi fi) (hg:∀b,RG K R' (g b) fg) (ht:∀b,RT K R' (tt b) ft) (he:∀b,RE K R' (te b) fe):RE K R (tLC ix wi g tt te) (mLC sb fi fg ft fe):=fun HB σ ρ H0 H s e z hz Q q=>by
 obtain ⟨ds,hds,hz⟩:=A0.mp hz
 split at hz
 . rename_i hlen;obtain ⟨all,hall,rfl⟩:=AQ.mp hz;refine hi HB σ ρ H0 H s e ds hds _ fun J H1 J1 x1 it b=> ?_;have e1:ST R' (fun _=>none) H1 J1 (FY ix σ) (sb ρ):=⟨hx HB σ ρ H1 J1 (e.ext (K:=K) x1).r⟩;refine ⟨fun i m ys H=>m=ds.length - i/\i<=ds.length/\∃H0' es rest,Ext H1 J1 H0' H/\Reps K H0' ys es/\es.length<=i/\HK (elM fg ft fe (sb ρ)) (ds.drop i)=some rest/\es++rest=all,⟨_,rfl,DL _,H1,[],all,Ext.refl x1.s1, .nil,AA _,hall,rfl⟩,?_⟩;rintro i m ys H2 ⟨rfl,hile,H0',es,rest,xx,hr,hel,hc,hsum⟩;obtain ⟨ig,is⟩:=it H0' H2 xx.s0 xx.s1 i;refine ⟨by rw [hr.length];omega,?_⟩
   by_cases hlt:i<ds.length
   . right;obtain ⟨go,yl⟩:=ig ds[i] (by simp [hlt]);rw [FJ hlt] at hc
     obtain ⟨r,hr1,hc⟩:=A0.mp (show (elM fg ft fe (sb ρ) ds[i]).bind _=some rest from hc);obtain ⟨rest',hr2,hc⟩:=AQ.mp hc;refine ⟨go,fun ys' H'=>∃H0' es rest,Ext H1 J1 H0' H'/\Reps K H0' ys' es/\es.length<=i+1/\HK (elM fg ft fe (sb ρ)) (ds.drop (i+1))=some rest/\es++rest=all,fun ys' H' h=>⟨ds.length - (i+1),by omega,rfl,hlt,h⟩,fun v H3 y=> ?_⟩;obtain ⟨H03,x3,r3⟩:=yl v H3 y;obtain ⟨ρ',hg',hb'⟩:=A0.mp hr1;obtain ⟨bb,hbb,hb'⟩:=A0.mp hb';have xx3:=xx.trans x3;refine hg b (fun _=>none) _ _ ρ' H03 H3 v _ x3.s1 (fun _ _ h=>by cases h) (e1.ext (K:=K) xx3) r3 hg' _ fun σ2 e2=> ?_;refine ht b _ σ2 ρ' H03 H3 x3.s1 e2 bb hbb _ fun H4 J4 x4=> ?_
     cases bb with
     | true=>
      refine UZ ?_;obtain ⟨rr,hrr,rfl⟩:=Option.map_eq_some_iff.mp (show (fe ρ').map (fun r=>some r.dat)=some r from hb');refine (he b).rv _ σ2 ρ' H4 J4 x4.s1 (e2.ext (K:=K) x4) rr.dat (by unfold mDat;rw [hrr];rfl) _ fun w H5 J5 x5 p5=> ?_;refine ⟨H5,es ++ [rr.dat],rest',(xx3.trans x4).trans x5,Tf.Reps.snoc (Reps.same ((x3.s0.trans x4.s0).trans x5.s0) hr) p5,by rw [List.length_append];simpa using hel,hr2,?_⟩;rw [<-hsum, <-hc,List.append_assoc]
      rfl
     | false=>
      refine V2 ?_
      cases hb'
      exact ⟨H4,es,rest',xx3.trans x4,Reps.same (x3.s0.trans x4.s0) hr,by omega,hr2,by rw [<-hsum, <-hc]⟩
   . left;have hi':i=ds.length:=by omega
     refine ⟨is (by omega),fun p hp=> ?_⟩;rw [E3 (by omega)] at hc
     cases hc
     rw [DH] at hsum
     subst hsum;have xy:=x1.trans xx;exact q _ _ _ (xy.trans (Ext.alloc xx.s1 hp _)) ⟨p,ys,rfl,xy.s.free hp,xx.s1.free hp,BC,hr⟩
 . cases hz
def EJ(n:Nat)(g:En->Option Out)(k:Nat):List PyData->Option Sl:=fun ds=>if ds.length=k then (g (ds.map (fun d=>some (.val d))++List.replicate (n - ds.length) none)).bind fun o=>match o with
 | .rt r _=>some r
 | .nx _=>some (.val .none)
 | _=>none else none
theorem PZ{N:List Str}{H0 H:Hp}{vs:List V}{ds:List PyData}(h:Reps K H0 vs ds):ER K H H0 H (L2.start N vs) (ds.map (fun d=>some (.val d))++List.replicate (N.length - ds.length) none):=by
 have hl:=h.length
 have noown:∀(i:Nat) s,(ds.map (fun d=>some (Sl.val d))++List.replicate (N.length - ds.length) none)[i]? = some (some s)->∃d,ds[i]? = some d/\s = .val d:=by
  intro i s hs
  by_cases hi:i<ds.length
  . rw [AG (by simpa using hi),B8,B4 hi] at hs
    cases hs
    exact ⟨_,B4 hi,rfl⟩
  . rw [AB (by simpa using hi),DX] at hs
    split at hs <;> cases hs
 refine ⟨?_,fun i s hs=> ?_,fun i j a xs ys _ h1 _ _ _=> ?_⟩
 . unfold L2.start;simp only [List.length_append,List.length_map,List.length_replicate,hl]
 . obtain ⟨d,hd,rfl⟩:=noown i s hs;obtain ⟨v,h1,h2⟩:=Tf.Reps.get h hd;refine ⟨v,?_,h2⟩;unfold L2.start;have hi:i<vs.length:=(List.getElem?_eq_some_iff.mp h1).1;rw [List.getElem?_append_left (by simpa using hi),List.getElem?_map,h1];rfl
 . obtain ⟨d,_,e⟩:=noown i _ h1
   cases e
section
variable {P:Program} {w:World} {mg:Str->Option Value} {base:Heap}
def DSs(X:Cx)(R:Rl)(st:List Stmt)(g:En->Option Out):Prop:=∃t,PSs X st t/\RS X.K R t g
theorem fnD {x qual : Str} {st : Stmt} {f : Addr} {fd : FuncData} {N ps : List Str} {k n m : Nat} {g : En -> Option Out} (F : Fun K x qual st f fd) (S : FnScope N ps (AN st)) (hn : N.length = n) (hm : ps.length = m)
 (hb:∀(cdv:Value) (A:Around) (outer:List Env) (s:Shared) (H:Hp) (E:XK),Room k (A.deeper (envOfC qual (AN st) s.heap.objs.size f cdv))->DSs (OF CX0 P w K mg base N qual (AN st) f cdv A outer s H E).nox (PR K) (GD st) g) :
 FnOk P w K mg base CX0 (k+1) f fd ps (spD K (EJ n g m)):=by
 subst hn hm;refine F.ok S (fun vs H Q E h=> ?_) fun cdv A outer s H vs Q E hr h=> ?_
 . obtain ⟨H0,ds,r,s,hr,hf,_⟩:=h;unfold EJ at hf
   split at hf
   . rename_i hl;rw [hr.length,hl]
   . cases hf
 . obtain ⟨t,ht,rs⟩:=hb cdv A outer s H E hr;refine ⟨t,ht,?_⟩;obtain ⟨H0,ds,r,s0,hr,hf,q⟩:=h;unfold EJ at hf
   split at hf
   . obtain ⟨o,ho,hf⟩:=A0.mp hf;refine rs H H0 _ _ H0 H (Ext.refl s0) ⟨PZ hr⟩ o ho _ ?_
     cases o with
     | rt r' _=>cases hf;exact fun v σ H1 J1 a _ b=>q v H1 J1 a b
     | nx _=>cases hf;exact fun σ H1 J1 a b=>q .non H1 J1 a .none
     | bk _=>cases hf
     | ct _=>cases hf
   . cases hf
end
end
theorem mQ{K:PySem.W.Frag}{F:List PyData->Option Sl}(hL:∀ns:List Int,ns.length<=63->F [.list (ns.map .int)]=some (.val (.bool true))){vs:List V}{H:Hp}{Q:VK}{E:XK}(h:Z6 K vs H Q E):spD K F vs H Q E:=by
 obtain ⟨a,ns,rfl,h1,h2,q⟩:=h
 have allI:∀ns:List Int,Reps K H (ns.map V.int) (ns.map .int):=fun ns=>by
  induction ns with
  | nil=>exact .nil
  | cons n r ih=>exact .cons (.int n) ih
 refine ⟨H,[.list (ns.map .int)], .val (.bool true),Same.refl H, .cons (.list h1 (allI ns)) .nil,hL ns h2,fun v H0' H' x p=> ?_⟩
 cases (show Rep K H0' v (.bool true) from p)
 exact q H'
section
variable {X:Cx} {R R':Rl} [RelOk X.K R] [RelOk X.K R'] {a b c e:Expr} {pos p:Pos} {f g fa fb fc:En->Option Sl}
def DE(X:Cx)(R:Rl)(e:Expr)(f:En->Option Sl):Prop:=∃te,PE X e te/\RE X.K R te f
def DP(X:Cx)(R:Rl)(e:Expr)(f:En->Option Sl):Prop:=∃te,PE X e te/\RP X.K R te f
def DA(X:Cx)(R:Rl)(es:List Expr)(f:En->Option (List PyData)):Prop:=∃ta,PA X es ta/\RA X.K R ta f
def DQ(X:Cx)(R:Rl)(es:List Expr)(f:En->Option (List Sl)):Prop:=∃ta,PA X es ta/\RQ X.K R ta f
def DT(X:Cx)(R:Rl)(e:Expr)(f:En->Option Bool):Prop:=∃tt,PT X e tt/\RT X.K R tt f
def DW(X:Cx)(R:Rl)(e:Expr)(f:En->Option Bool):Prop:=∃tt,PW X e tt/\RT X.K R tt f
def DO(X:Cx)(R:Rl)(e:Option Expr)(f:En->Option (Option Int)):Prop:=∃to,PO X e to/\RO X.K R to f
def DS(X:Cx)(R:Rl)(st:Stmt)(g:En->Option Out):Prop:=∃t,PS X st t/\RS X.K R t g
def DG(X:Cx)(R:Rl)(e:Expr)(g:PyData->En->Option En):Prop:=∃t,PG X e t/\RG X.K R t g
def DGs(X:Cx)(R:Rl)(es:List Expr)(gs:List (PyData->En->Option En)):Prop:=∃t,PGs X es t/\RGs X.K R t gs
def DI(X:Cx)(R:Rl)(tg e:Expr)(f:En->Option (List PyData)):Prop:=∃wi,PI X tg e wi/\RI X.K R wi f
theorem DE.dp(h:DE X R e f):DP X R e f:=by obtain ⟨t,h1,h2⟩:=h;exact ⟨t,h1,h2.rp⟩
theorem A1 (i : Nat) {x : Str} (hN : X.N[i]? = some x := by rfl) (hv : Vis X.env.scope x := by first | exact DM rfl | exact C7 (DM rfl) | exact C7 (C7 rfl)) (hd : (x == ("__debug__" : Str)) = false := by decide)
 (hcd:(x==("__classdict__" : Str))=false:=by decide) (hsl:R.slot i:=by first | exact D4 | exact ⟨AL rfl,AL rfl⟩):DP X R (.Name x pos) (mPk i):=⟨_,G3 hN hv hd hcd,s9 i hsl⟩
theorem AH (i : Nat) {x : Str} (hN : X.N[i]? = some x := by rfl) (hv : Vis X.env.scope x := by first | exact DM rfl | exact C7 (DM rfl) | exact C7 (C7 rfl)) (hd : (x == ("__debug__" : Str)) = false := by decide)
 (hcd:(x==("__classdict__" : Str))=false:=by decide) (hsl:R.slot i:=by first | exact D4 | exact ⟨AL rfl,AL rfl⟩):DE X R (.Name x pos) (mVar i):=⟨_,G3 hN hv hd hcd,vZ i hsl⟩
theorem A7{i:Int}{j}:DE X R (.Constant (.int i) j pos) (mK (.int i)):=⟨_,iO,pB fun _=> .int i⟩
theorem M8{i:Bool}{j}:DE X R (.Constant (.bool i) j pos) (mK (.bool i)):=⟨_,xY,pB fun _=> .bool i⟩
theorem Z9{j}:DE X R (.Constant .none j pos) (mK .none):=⟨_,hW,pB fun _=> .none⟩
theorem nU {x:Str} {v:V} {u:Value} {d:PyData} (hm:X.mg x=some u) (r:RelV v u) (h:∀H0:Hp,Rep X.K H0 v d) (hg:Gl X x:=by rfl) (hd:(x==("__debug__" : Str))=false:=by decide):DE X R (.Name x pos) (mK d):=⟨_,lP hg hm r hd,pB h⟩
theorem VS{o:Operator}{r:R2}{op:Sl->Sl->Option Sl}(ho:OpR X (binaryOp o) r)(hd:OpD X.K r op)(ha:DP X R a fa)(hb:DP X R b fb):DE X R (.BinOp a o b pos) (mBin op fa fb):=by
 obtain ⟨ta,h1,h2⟩:=ha;obtain ⟨tb,h3,h4⟩:=hb;exact ⟨_,xL ho h1 h3,TH hd h2 h4⟩
def dAddI:Sl->Sl->Option Sl:=iop fun i j=>i+j
def dSub:Sl->Sl->Option Sl:=iop fun i j=>i - j
def Q1(i j:Int):Prop:=CMul i j\/qK i j
theorem oP:OpR X (binaryOp .Mult) (rI Q1 fun i j=> .int (i*j)):=opI fun _ _ _ _ _ _ _ hc q=>by
 rcases hc with hc | ⟨n,m,h1,h2,h3⟩
 . exact mul_int q hc.ok
 . exact mul_int q (xU h1 h2 h3)
noncomputable def qS:Sl->Sl->Option Sl:=UA Q1 fun i j=>i*j
noncomputable def EC:Sl->Sl->Option Sl:=UA eQ fun i j=>i.fdiv j
noncomputable def FB:Sl->Sl->Option Sl:=UA (fun _ j=>j≠0) fun i j=>i.fmod j
theorem FZ(ha:DP X R a fa)(hb:DP X R b fb):DE X R (.BinOp a .Sub b pos) (mBin dSub fa fb):=VS sL oR ha hb
theorem F0(ha:DP X R a fa)(hb:DP X R b fb):DE X R (.BinOp a .FloorDiv b pos) (mBin EC fa fb):=VS fR PX ha hb
theorem EW(ha:DP X R a fa)(hb:DP X R b fb):DE X R (.BinOp a .Mod b pos) (mBin FB fa fb):=VS lF PX ha hb
def qH(K:PySem.W.Frag):R2:=fun x y H Q=>∃l b xs zs,x = .ref l/\y = .ref b/\SqL K H l xs/\SqL K H b zs/\xs.length+zs.length<=sizeLine/\∀p,H p=none->Q (.ref p) (upd H p (.lst (xs++zs)))
theorem mT:OpR X (binaryOp .Add) (qH X.K):=by
 intro pins s σ H x y v u Q I rx ry h;obtain ⟨l,b,xs,zs,rfl,rfl,hH,hB,hz,q⟩:=h
 cases rx
 cases ry
 obtain ⟨its,r,p1,_⟩:=I.list hH;obtain ⟨its2,r2,p2,_⟩:=I.list hB;obtain ⟨⟨cls,dd,data,sl⟩,n,ho,hc,hd1,hd⟩:=id p1;obtain ⟨⟨cls2,dd2,data2,sl2⟩,n2,ho2,hc2,hd2',hd2⟩:=id p2;simp only at hc hd hc2 hd2
 subst hc hd hc2 hd2;have l1:=r.length;have l2:=r2.length;refine dD ⟨_,ho,rfl⟩ ⟨_,ho2,rfl⟩ noFill_list_add seq_list_add PySem.F.slot_list_add PySem.F.entry_list_add (PySem.F.args_list_add_2 _ _) (list_addW l b its.toArray its2.toArray n n2 dd dd2 sl sl2 (by rw [AK,AK];omega)) ⟨ho,ho2,?_⟩;have ea:its.toArray++its2.toArray=(its++its2).toArray:=by simp
 rw [ea];exact ⟨.ref _,_,I.lnew (t':=s.toks) (r.append r2) (by rw [B3];omega),rfl,q _ I.fresh⟩
def i9(K:PySem.W.Frag):R2:=fun x y H Q=>∃a b ys,x = .ref a/\y = .ref b/\SqT K H a []/\SqT K H b ys/\Q (.ref b) H
theorem jL:OpR X (binaryOp .Add) (i9 X.K):=by
 intro pins s σ H x y v u Q I rx ry h;obtain ⟨a,b,ys,rfl,rfl,ha,hb,q⟩:=h
 cases rx
 cases ry
 obtain ⟨its,r1,p1,_⟩:=I.tuple ha;obtain ⟨its2,r2,p2,_⟩:=I.tuple hb
 cases r1
 obtain ⟨⟨cls,dd,data,sl⟩,ho,hc,n,hd⟩:=id p1;obtain ⟨⟨cls2,dd2,data2,sl2⟩,ho2,hc2,n2,hd2⟩:=id p2;simp only at hc hd hc2 hd2
 subst hc hd hc2 hd2
 exact dD ⟨_, ho, rfl⟩ ⟨_, ho2, rfl⟩ kT yV N3 LY (LK _ _)
  (tuple_addW0 a b ([]:List Value).toArray its2.toArray n n2 dd dd2 sl sl2 (by simp)) ⟨ho,ho2, .ref b,H,I,rfl,q⟩
def qA(K:PySem.W.Frag):R2:=fun x y H Q=>rI0 (fun i j=> .int (i+j)) x y H Q\/qH K x y H Q\/i9 K x y H Q\/qQ K x y H Q\/(∃i j,x = .str i/\y = .str j/\i.length+j.length<=sizeLine/\Q (.str (i++j)) H)
theorem mZ:OpR X (binaryOp .Add) (qA X.K):=wF.or (mT.or (jL.or (lZ.or WS)))
def dAdd(a b:Sl):Option Sl:=match a.dat,b.dat with
 | .int i, .int j=>some (.val (.int (i+j)))
 | .list xs, .list ys=>if xs.length+ys.length<=sizeLine then some (.own (xs++ys)) else none
 | .tuple xs, .tuple ys=>if xs.length+ys.length<=sizeLine then some (.val (.tuple (xs++ys))) else none
 | .str i, .str j=>if i.length+j.length<=sizeLine then some (.val (.str (i++j))) else none
 | _,_=>none
theorem SlP.atom{K:PySem.W.Frag}{H0 H:Hp}{v:V}{d:PyData}{r:Sl}(h:SlP K H0 H v r)(e:r.dat=d)(n:∀ds,d ≠ .list ds)(n2:∀kvs,d ≠ .dict kvs:=by intro _ h;cases h):Rep K H0 v d:=by
 cases r with
 | val _=>cases e;exact h
 | own _=>exact absurd e.symm (n _)
 | dct _=>exact absurd e.symm (n2 _)
theorem Reps.append{K:PySem.W.Frag}{H:Hp}:∀ {vs ws:List V} {ds es:List PyData},Reps K H vs ds->Reps K H ws es->Reps K H (vs++ws) (ds++es)
 | _,_,_,_, .nil,h=>h
 | _,_,_,_, .cons a t,h=> .cons a (Reps.append t h)
theorem nM{K:PySem.W.Frag}:OpD K (qA K) dAdd:=fun H0 H x y sx sy z s px py hz Q q=>by
 unfold dAdd at hz
 split at hz
 . rename_i i j e1 e2
   cases hz
   cases px.atom e1 (fun _ h=>nomatch h)
   cases py.atom e2 (fun _ h=>nomatch h)
   exact .inl ⟨_,_,rfl,rfl,q _ _ _ (Ext.refl s) (.int _)⟩
 . rename_i xs ys e1 e2
   split at hz
   . rename_i hl
     cases hz
     obtain ⟨a,vs,rfl,h1,h2⟩:=px.lst s e1;obtain ⟨b,ws,rfl,h3,h4⟩:=py.lst s e2;exact .inr (.inl ⟨a,b,vs,ws,rfl,rfl,h1,h3,by rw [h2.length,h4.length];exact hl,fun p hp=>q _ _ _ (Ext.alloc s hp _) ⟨p,_,rfl,hp,s.free hp,BC,Reps.append h2 h4⟩⟩)
   . cases hz
 . rename_i xs ys e1 e2
   split at hz
   . rename_i hl
     cases hz
     obtain ⟨a,vs,rfl,h1,h2⟩:=px.tup e1;obtain ⟨b,ws,rfl,h3,h4⟩:=py.tup e2
     by_cases hv:vs = []
     . subst hv
       cases h2
       exact .inr (.inr (.inl ⟨a,b,ws,rfl,rfl,s.seqT h1,s.seqT h3,q _ _ _ (Ext.refl s) (.tuple h3 h4)⟩))
     . refine .inr (.inr (.inr (.inl ⟨a,b,vs,ws,rfl,rfl,s.seqT h1,s.seqT h3,hv,by rw [h2.length,h4.length];exact hl,fun hw=> ?_,fun hw p hp=> ?_⟩)))
       . subst hw
         cases h4
         rw [DH] at q
         exact q _ _ _ (Ext.refl s) (.tuple h1 h2)
       . exact q _ _ _ (Ext.allocF s hp _) (.tuple (SqT.of BC) (Reps.same (Same.upd (s.free hp) _) (Reps.append h2 h4)))
   . cases hz
 . rename_i i j e1 e2
   split at hz
   . rename_i hl
     cases hz
     cases px.atom e1 (fun _ h=>nomatch h)
     cases py.atom e2 (fun _ h=>nomatch h)
     exact .inr (.inr (.inr (.inr ⟨_,_,rfl,rfl,hl,q _ _ _ (Ext.refl s) (.str _)⟩)))
   . cases hz
 . cases hz
theorem BE(ha:DP X R a fa)(hb:DP X R b fb):DE X R (.BinOp a .Add b pos) (mBin dAdd fa fb):=VS mZ nM ha hb
noncomputable def dRep(a b:Sl):Option Sl:=match a,b with
 | .own xs, .val (.int k)=>if -(2 ^ 63)<=k/\k<2 ^ 63/\xs.length*k.toNat<=sizeLine then some (.own (List.replicate k.toNat xs).flatten) else none
 | a,b=>qS a b
theorem Reps.rep{K:PySem.W.Frag}{H:Hp}{vs:List V}{ds:List PyData}(h:Reps K H vs ds):∀k:Nat,Reps K H (List.replicate k vs).flatten (List.replicate k ds).flatten
 | 0=> .nil
 | k+1=>by
  rw [F7,F7,GI,GI];exact Reps.append h (Reps.rep h k)
theorem lA{K:PySem.W.Frag}:OpD K (fun x y H Q=>rRep x y H Q\/rI Q1 (fun i j=> .int (i*j)) x y H Q) dRep:=fun H0 H x y sx sy z s px py hz Q q=>by
 unfold dRep at hz
 split at hz
 . split at hz
   . rename_i hl
     cases hz
     obtain ⟨a,vs,rfl,h1,h2⟩:=px;exact .inl ⟨a,_,vs,rfl,py.int,h1,hl.1,hl.2.1,by rw [h2.length];exact hl.2.2,fun p hp=>q _ _ _ (Ext.alloc s hp _) ⟨p,_,rfl,hp,s.free hp,BC,Reps.rep h2 _⟩⟩
   . cases hz
 . exact .inr (PX H0 H x y _ _ z s px py hz Q q)
theorem DC(ha:DP X R a fa)(hb:DP X R b fb):DE X R (.BinOp a .Mult b pos) (mBin dRep fa fb):=VS (rK.or oP) lA ha hb
theorem SK(ha:DP X R a fa):DE X R (.UnaryOp .USub a pos) (mUn (iun fun i=> -i) fa):=by
 obtain ⟨ta,h1,h2⟩:=ha;exact ⟨_,yB sS h1,xK pH h2⟩
theorem wC{o:CmpOp}{r:R2}{op:Sl->Sl->Option Sl}(ho:OpR X (compareOp o) r)(hd:OpD X.K r op)(ha:DP X R a fa)(hb:DP X R b fb)(hm:behindInMarks o b=false):DE X R (.Compare a [o] [b] pos) (mBin op fa fb):=by
 obtain ⟨ta,h1,h2⟩:=ha;obtain ⟨tb,h3,h4⟩:=hb;exact ⟨_,nY ho h1 h3 hm,TH hd h2 h4⟩
theorem LQ{o:CmpOp}{r:R2}{op:Sl->Sl->Option Sl}(ho:OpR X (compareOp o) r)(hd:OpD X.K r op)(ha:DP X R a fa)(hb:DP X R b fb)(hm:behindInMarks o b=false):DT X R (.Compare a [o] [b] pos) (mTest (mBin op fa fb)):=by
 obtain ⟨ta,h1,h2⟩:=ha;obtain ⟨tb,h3,h4⟩:=hb;exact ⟨_,o7 ho h1 h3 hm,nE (TH hd h2 h4).rp⟩
def dLt:Sl->Sl->Option Sl:=icmp fun i j=>decide (i<j)
def dLe:Sl->Sl->Option Sl:=icmp fun i j=>decide (i<=j)
def dGt:Sl->Sl->Option Sl:=icmp fun i j=>decide (j<i)
def dGe:Sl->Sl->Option Sl:=icmp fun i j=>decide (j<=i)
theorem kF(hu:X.A.units+64<cLine)(ha:DP X R a fa)(hb:DP X R b fb):DE X R (.Compare a [.Eq] [b] pos) (mBin deq fa fb):=wC (dG hu) jW ha hb (LM _)
theorem W2(ha:DP X R a fa)(hb:DP X R b fb):DT X R (.Compare a [.Lt] [b] pos) (mTest (mBin dLt fa fb)):=LQ yI P8 ha hb (LM _)
theorem pV(ha:DP X R a fa)(hb:DP X R b fb):DT X R (.Compare a [.LtE] [b] pos) (mTest (mBin dLe fa fb)):=LQ xA P8 ha hb (LM _)
theorem y4(ha:DP X R a fa)(hb:DP X R b fb):DT X R (.Compare a [.Gt] [b] pos) (mTest (mBin dGt fa fb)):=LQ yN P8 ha hb (LM _)
theorem G7(hu:X.A.units+64<cLine)(ha:DP X R a fa)(hb:DP X R b fb):DT X R (.Compare a [.Eq] [b] pos) (mTest (mBin deq fa fb)):=LQ (dG hu) jW ha hb (LM _)
theorem LI(hu:X.A.units+64<cLine)(ha:DP X R a fa)(hb:DP X R b fb):DT X R (.Compare a [.NotEq] [b] pos) (mTest (mBin dne fa fb)):=LQ (sO hu) tU ha hb (LM _)
theorem uW(ha:DP X R a fa)(hb:DP X R b fb):DT X R (.Compare a [.Is] [b] pos) (mTest (mBin disN fa fb)):=LQ vO o3 ha hb (LM _)
theorem TM(h:DP X R e f)(he:∀whole,isTrue e X.env whole=(do let v <-whole;standAt e.pos;holding [v] (truthy v)):=by intro _;rfl):DT X R e (mTest f):=by
 obtain ⟨t,h1,h2⟩:=h;exact ⟨_,v2 h1 he,zJ h2⟩
variable {ft gt:En->Option Bool} {rest:List Expr}
theorem sJ(h:DW X R e ft):DT X R e ft:=by obtain ⟨t,h1,h2⟩:=h;exact ⟨t,h1.pt,h2⟩
theorem mJ(h:DT X R a ft):DW X R (.BoolOp .And [a] pos) ft:=by obtain ⟨t,h1,h2⟩:=h;exact ⟨t,pK h1,h2⟩
theorem gC(h:DT X R a ft):DW X R (.BoolOp .Or [a] pos) ft:=by obtain ⟨t,h1,h2⟩:=h;exact ⟨t,tM h1,h2⟩
theorem uB(h:DT X R a ft)(k:DW X R (.BoolOp .And (b::rest) pos) gt):DW X R (.BoolOp .And (a::b::rest) pos) (mAnd ft gt):=by obtain ⟨t,h1,h2⟩:=h;obtain ⟨u,h3,h4⟩:=k;exact ⟨_,wM h1 h3,vS h2 h4⟩
theorem aB(h:DT X R a ft)(k:DW X R (.BoolOp .Or (b::rest) pos) gt):DW X R (.BoolOp .Or (a::b::rest) pos) (mOr ft gt):=by obtain ⟨t,h1,h2⟩:=h;obtain ⟨u,h3,h4⟩:=k;exact ⟨_,yO h1 h3,xZ h2 h4⟩
theorem SC(h:DT X R a ft):DT X R (.UnaryOp .Not a pos) (mNot ft):=by obtain ⟨t,h1,h2⟩:=h;exact ⟨_,wP h1,sX h2⟩
theorem YA(h:DE X R a f):DE X R (.BoolOp .And [a] pos) f:=by obtain ⟨t,h1,h2⟩:=h;exact ⟨t,tF h1,h2⟩
theorem eV(h:DE X R a f)(k:DE X R (.BoolOp .And (b::rest) pos) g):DE X R (.BoolOp .And (a::b::rest) pos) (mAndV f g):=by obtain ⟨t,h1,h2⟩:=h;obtain ⟨u,h3,h4⟩:=k;exact ⟨_,t8 h1 h3,mP h2.rp h4⟩
theorem vV(h:DE X R a f):DE X R (.UnaryOp .Not a pos) (mNotV f):=by obtain ⟨t,h1,h2⟩:=h;exact ⟨_,uQ h1,pA h2.rp⟩
theorem uV(hc:DT X R c ft)(h:DE X R a f)(k:DE X R b g):DE X R (.IfExp c a b pos) (mIfE ft f g):=by obtain ⟨t,h1,h2⟩:=hc;obtain ⟨u,h3,h4⟩:=h;obtain ⟨v,h5,h6⟩:=k;exact ⟨_,jE h1 h3 h5,rJ h2 h4 h6⟩
theorem BX(ha:DP X R a fa)(hb:DP X R b fb)(hs:RZ b:=by intro _ _;rfl):DE X R (.Subscript a b pos) (mBin dix fa fb):=by
 obtain ⟨ta,h1,h2⟩:=ha;obtain ⟨tb,h3,h4⟩:=hb;exact ⟨_,qJ eU h1 h3 hs,TH rX h2 h4⟩
variable {lo hi:Option Expr} {fl fh:En->Option (Option Int)} {p2:Pos}
theorem E1:DO X R none mNoPart:=⟨_,pF,mW⟩
theorem DV(h:DP X R e f):DO X R (some e) (mPart f):=by obtain ⟨t,h1,h2⟩:=h;exact ⟨_,nX h1,nZ h2⟩
theorem FI(h:DP X R e f)(hl:DO X R lo fl)(hh:DO X R hi fh):DE X R (.Subscript e (.Slice lo hi none p2) pos) (mSl f fl fh):=by
 obtain ⟨t,h1,h2⟩:=h;obtain ⟨u,h3,h4⟩:=hl;obtain ⟨v,h5,h6⟩:=hh;exact ⟨_,hE (mC.or wD) h1 h3 h5,yA h2 h4 h6⟩
variable {es:List Expr} {fs:En->Option (List PyData)} {fq:En->Option (List Sl)}
theorem AF:DA X R [] mNil:=⟨_,KJ,vB⟩
theorem A6(h:DE X R e f)(k:DA X R es fs)(hs:starEach (e::es) X.env=(false,eval e X.env)::starEach es X.env:=by rfl):DA X R (e::es) (mCons f fs):=by obtain ⟨t,h1,h2⟩:=h;obtain ⟨u,h3,h4⟩:=k;exact ⟨_,HH h1 h3 hs,oT h2 h4⟩
theorem B5:DQ X R [] mNilP:=⟨_,KJ,tS⟩
theorem AS(h:DP X R e f)(k:DQ X R es fq)(hs:starEach (e::es) X.env=(false,eval e X.env)::starEach es X.env:=by rfl):DQ X R (e::es) (mConsP f fq):=by obtain ⟨t,h1,h2⟩:=h;obtain ⟨u,h3,h4⟩:=k;exact ⟨_,HH h1 h3 hs,nO h2 h4⟩
theorem LW{x1}(h:DA X R es fs):DE X R (.Tuple es x1 pos) (mTup fs):=by obtain ⟨t,h1,h2⟩:=h;exact ⟨_,dI h1,rZ h2⟩
theorem C8(h:DA X R es fs):DE X R (.List es pos) (mLst fs):=by obtain ⟨t,h1,h2⟩:=h;exact ⟨_,sG h1,v5 h2⟩
theorem BF {k j : Nat} {x : Str} {ps : List Str} {F : List PyData -> Option Sl} (D : Tf.Def X.prog X.w X.K X.mg X.base j x ps (spD X.K F)) (hr : Room k X.A) (h : DA X R (e :: es) fs) (hj : j <= k := by decide) (hg : Gl X x := by rfl)
 (hdb:(x==("__debug__" : Str))=false:=by decide) (he:starEach (e::es) X.env=(false,eval e X.env)::starEach es X.env:=by rfl) (hpl:(backTo pos (starEach es X.env)).any (·.1)=false:=by rfl):DE X R (.Call (.Name x p) (e::es) [] pos) (mCall F fs):=by
 obtain ⟨t,h1,h2⟩:=h;exact ⟨_,PD D hr h1 hj hg hdb he hpl,oS h2⟩
theorem D7 {x : Str} {id : String} {r : List V -> Hp -> VK -> Prop} {F : List Sl -> Option Sl} (hc : JX X (.builtin id) r) (hd : LH X.K r F) (hv : bootBuiltins x = some (.builtin id)) (hm : X.mg x = none) (h : DQ X R (e :: es) fq) (hg : Gl X x := by rfl) (hn : x ≠ "__name__" := by decide) (hdb : (x == ("__debug__" : Str)) = false := by decide)
 (he:starEach (e::es) X.env=(false,eval e X.env)::starEach es X.env:=by rfl) (hpl:(backTo pos (starEach es X.env)).any (·.1)=false:=by rfl):DE X R (.Call (.Name x p) (e::es) [] pos) (mCallP F fq):=by
 obtain ⟨t,h1,h2⟩:=h;exact ⟨_,V8 hc hg hm hv h1 hn hdb he hpl,VJ hd h2⟩
theorem MI {x : Str} {id : String} {r : List V -> Hp -> VK -> Prop} {F : List Sl -> Option Sl} (hc : JX X (.type id) r) (hd : LH X.K r F) (hv : bootBuiltins x = some (.type id)) (hm : X.mg x = none) (h : DQ X R (e :: es) fq) (hg : Gl X x := by rfl) (hn : x ≠ "__name__" := by decide) (hdb : (x == ("__debug__" : Str)) = false := by decide)
 (he:starEach (e::es) X.env=(false,eval e X.env)::starEach es X.env:=by rfl) (hpl:(backTo pos (starEach es X.env)).any (·.1)=false:=by rfl):DE X R (.Call (.Name x p) (e::es) [] pos) (mCallP F fq):=by
 obtain ⟨t,h1,h2⟩:=h;exact ⟨_,d6 hc hg hm hv h1 hn hdb he hpl,VJ hd h2⟩
theorem u0{K:PySem.W.Frag}{n:String}:∀t b,isiD n t=some b->(t = "NoneType" \/ t = "bool" \/ t = "int" \/ t = "str" \/ t = "list" \/ t = "tuple")->PySem.W.kitOne K (.type t) (.type n)=some b:=by
 intro t b h ht;unfold isiD at h
 split at h
 . rename_i hn;subst hn
   cases h
   rcases ht with rfl | rfl | rfl | rfl | rfl | rfl <;> rfl
 . split at h
   . rename_i hn
     cases h
     rcases hn with rfl | rfl | rfl | rfl <;> rcases ht with rfl | rfl | rfl | rfl | rfl | rfl <;> rfl
   . cases h
theorem S5 {x : Str} {T : String} {p1 : Pos} (hv : bootBuiltins x = some (.type T)) (hx : X.mg x = none) (hm : X.mg "isinstance" = none) (h : DP X R e f) (hgx : Gl X x := by rfl) (hg : Gl X "isinstance" := by rfl) (hnx : x ≠ "__name__" := by decide) (hdx : (x == ("__debug__" : Str)) = false := by decide)
 (he:starEach [e, .Name x p1] X.env=(false,eval e X.env)::starEach [.Name x p1] X.env:=by rfl) (he2:starEach [.Name x p1] X.env=(false,eval (.Name x p1) X.env)::starEach [] X.env:=by rfl) (hpl:(backTo pos (starEach [.Name x p1] X.env)).any (·.1)=false:=by rfl) :
 DE X R (.Call (.Name "isinstance" p) [e, .Name x p1] [] pos) (mIsi T f):=by
 obtain ⟨t,h1,h2⟩:=h;exact ⟨_,V8 gF hg hm QD (HH h1 (HH (y7 hgx hx hv hnx hdx) KJ he2) he) (by decide) (by decide) he hpl,tW u0 h2⟩
def e8(K:PySem.W.Frag)(mg:Str->Option Value)(x:Str)(d:PyData):Prop:=∃v u,mg x=some u/\RelV v u/\∀H0:Hp,Rep K H0 v d
theorem fV {x:Str} {d:PyData} (h:e8 X.K X.mg x d) (hg:Gl X x:=by rfl) (hd:(x==("__debug__" : Str))=false:=by decide):DE X R (.Name x pos) (mK d):=by
 obtain ⟨v,u,h1,h2,h3⟩:=h;exact nU h1 h2 h3 hg hd
theorem D8{K:PySem.W.Frag}{ix:List (Option Nat)}(hx:(ix.filterMap id).Nodup:=by decide):∀(HB:Hp) (σ:L2.St) (ρ:En) (H0 H:Hp),(PR K).r HB H0 H σ ρ->(PR K).r (fun _=>none) H0 H (FY ix σ) (CC ix ρ):=fun HB σ ρ H0 H e=>ER.sub hx e
variable {st:Stmt} {sts:List Stmt} {gs gs':En->Option Out} {x y:Str} {pos':Pos} {i j:Nat}
theorem CK:DSs X R [] mNext:=⟨_,YY,pC⟩
theorem AC(h:DS X R st gs):DSs X R [st] gs:=by obtain ⟨t,h1,h2⟩:=h;exact ⟨_,RY h1,h2⟩
theorem A4(h:DS X R st gs)(k:DSs X R sts gs'):DSs X R (st::sts) (mSeq gs gs'):=by obtain ⟨t,h1,h2⟩:=h;obtain ⟨u,h3,h4⟩:=k;exact ⟨_,HL h1 h3,rY h2 h4⟩
theorem EB(i:Nat)(h:DS X R st gs)(hsl:R.slot i:=by first | exact D4 | exact ⟨AL rfl,AL rfl⟩):DS X R st (mFrz i gs):=by obtain ⟨t,h1,h2⟩:=h;exact ⟨_,h1,sD i hsl h2⟩
theorem AO (i : Nat) (h : DE X R e f) (hN : X.N.Nodup) (hi : X.N[i]? = some x := by rfl) (hx : Loc X.env.scope x := by first | exact DM rfl | exact C7 rfl) (hs : swapsWith e (some (.Name x pos')) pos.line X.env = pure false := by rfl) (hf : X.fn x = true \/ X.env.scope.names.lookup x = some .local := by first | exact .inl rfl | exact .inr rfl) (hsl : R.slot i := by first | exact D4 | exact ⟨AL rfl, AL rfl⟩) :
 DS X R (.Assign [.Name x pos'] e pos) (mAsg i f):=by obtain ⟨t,h1,h2⟩:=h;exact ⟨_,Q5 hN hi hx h1 hs hf,uD hsl h2⟩
theorem CM(h:DE X R e f):DS X R (.Return (some e) pos) (mRet f):=by obtain ⟨t,h1,h2⟩:=h;exact ⟨_,T2 h1,tO h2⟩
theorem E7 (i : Nat) (hN : X.N[i]? = some x := by rfl) (hv : Vis X.env.scope x := by first | exact DM rfl | exact C7 (DM rfl) | exact C7 (C7 rfl)) (hd : (x == ("__debug__" : Str)) = false := by decide)
 (hcd:(x==("__classdict__" : Str))=false:=by decide) (hsl:R.slot i:=by first | exact D4 | exact ⟨AL rfl,AL rfl⟩):DS X R (.Return (some (.Name x pos')) pos) (mRet (mPk i)):=⟨_,T2 (G3 hN hv hd hcd),lL i hsl⟩
theorem aL:DS X R (.Return none pos) mRetN:=⟨_,nV,oU⟩
theorem EO{A B:List Stmt}(hc:DT X R c ft)(h:DSs X R A gs)(k:DSs X R B gs'):DS X R (.If c A B pos) (mIf ft gs gs'):=by obtain ⟨t,h1,h2⟩:=hc;obtain ⟨u,h3,h4⟩:=h;obtain ⟨v,h5,h6⟩:=k;exact ⟨_,qO h1 h3 h5,x0 h2 h4 h6⟩
theorem UQ(hp:PassesOwn (model X.prog X.w) X.A X.env X.xe)(hc:DT X R c ft)(h:DSs X R sts gs):DS X R (.While c sts [] pos) (IX ft gs):=by obtain ⟨t,h1,h2⟩:=hc;obtain ⟨u,h3,h4⟩:=h;exact ⟨_,dF hp h1 h3,fM h2 h4⟩
variable {tg:Expr} {fi:En->Option (List PyData)} {fg:PyData->En->Option En} {gg:List (PyData->En->Option En)}
theorem DJ(hp:PassesOwn (model X.prog X.w) X.A X.env X.xe)(hi:DI X R tg e fi)(hg:DG X R tg fg)(h:DSs X R sts gs)(hc:X.calm=true:=by rfl)(hs:∀x,foldedSetIterable e X.env x=pure x:=by intro _;rfl):DS X R (.For tg e sts [] pos) (F6 fi fg gs):=by
 obtain ⟨t,h1,h2⟩:=hi;obtain ⟨u,h3,h4⟩:=hg;obtain ⟨v,h5,h6⟩:=h;exact ⟨_,jH hp hc h1 h3 h5 hs,sY h2 h4 h6⟩
theorem CA(i:Nat)(hN:X.N.Nodup)(hi:X.N[i]? = some x:=by rfl)(hx:Loc X.env.scope x:=by first | exact DM rfl | exact C7 rfl)(hf:X.fn x=true\/X.env.scope.names.lookup x=some .local:=by first | exact .inl rfl | exact .inr rfl)(hsl:R.slot i:=by first | exact D4 | exact ⟨AL rfl,AL rfl⟩):DG X R (.Name x pos) (gVar i):=⟨_,YL hN hi hx hf,YF i hsl⟩
theorem S9:DGs X R [] []:=⟨_,YV,YD⟩
theorem JL(h:DG X R e fg)(k:DGs X R es gg)(hs:(assignEach (e::es) X.env).map (·.2)=assign e X.env::(assignEach es X.env).map (·.2):=by rfl):DGs X R (e::es) (fg::gg):=by obtain ⟨t,h1,h2⟩:=h;obtain ⟨u,h3,h4⟩:=k;exact ⟨_,VM h1 h3 hs,W3 h2 h4⟩
theorem WW{k}{n:Nat}(h:DGs X R es gg)(hl:n=gg.length:=by rfl)(hc:X.calm=true:=by rfl)(hn:(assignEach es X.env).length=n:=by rfl)(hst:(assignEach es X.env).findIdx? (·.1)=none:=by rfl):DG X R (.Tuple es k pos) (gTupD gg):=by
 obtain ⟨t,h1,h2⟩:=h;exact ⟨_,iX hc h1 hn hst,fD hl h2⟩
theorem FM(h:DE X R e f):DI X R tg e (mItems f):=by obtain ⟨t,h1,h2⟩:=h;exact ⟨_,aA h1,mE h2⟩
theorem CT (hm:X.mg "range" = none) (h:DQ X R [a] fq) (hg:Gl X "range" :=by rfl) (hs:starEach [a] X.env = [(false,eval a X.env)]:=by rfl):DI X R tg (.Call (.Name "range" p) [a] [] pos) (EZ fq):=by obtain ⟨t,h1,h2⟩:=h;exact ⟨_,cV hg hm h1 hs,cQ h2⟩
theorem KW (hm:X.mg "range" = none) (h:DQ X R [a,b] fq) (hg:Gl X "range" :=by rfl) (hs:starEach [a,b] X.env = [(false,eval a X.env),(false,eval b X.env)]:=by rfl) (hs2:starEach [b] X.env = [(false,eval b X.env)]:=by rfl):DI X R tg (.Call (.Name "range" p) [a,b] [] pos) (JW fq):=by
 obtain ⟨t,h1,h2⟩:=h;exact ⟨_,cO hg hm h1 hs hs2,bF h2⟩
theorem j8 {elts:List Expr} {k} {tp:Pos} (hm:X.mg "zip" = none) (h:DA X R [a,b] fs) (hg:Gl X "zip" :=by rfl) (hs:starEach [a,b] X.env = [(false,eval a X.env),(false,eval b X.env)]:=by rfl) (hs2:starEach [b] X.env = [(false,eval b X.env)]:=by rfl):DI X R (.Tuple elts k tp) (.Call (.Name "zip" p) [a,b] [] pos) (gN fs):=by
 obtain ⟨t,h1,h2⟩:=h;exact ⟨_,t9 hg hm h1 hs hs2,rT h2⟩
theorem JQ (i : Nat) {apos cpos : Pos} (h : DE X R e f) (hN : X.N[i]? = some x := by rfl) (hv : Vis X.env.scope x := by first | exact DM rfl | exact C7 (DM rfl) | exact C7 (C7 rfl)) (hd : (x == ("__debug__" : Str)) = false := by decide) (hcd : (x == ("__classdict__" : Str)) = false := by decide)
 (hst:starEach [e] X.env=(false,eval e X.env)::starEach [] X.env:=by rfl) (hbase:attributeBase (.Name x p) "append" X.env (eval (.Name x p) X.env)=eval (.Name x p) X.env:=by rfl)
 (hfew:((backTo cpos (starEach [e] X.env)).all (fun x=> !x.1) && (backToKw cpos (keywordEach [] X.env)).all (fun x=>x.1.isSome) && decide ([e].length+([]:List Keyword).length+(if ([]:List Keyword).isEmpty then 0 else 1)<30))=true:=by rfl)
 (hline:(apos.endLine==cpos.line)=true:=by rfl) (hplain:(backTo cpos (starEach [] X.env)).any (·.1)=false:=by rfl)
 (hs:swapsWith (.Call (.Attribute (.Name x p) "append" apos) [e] [] cpos) none pos.line X.env=pure false:=by rfl) (hsl:R.slot i:=by first | exact D4 | exact ⟨AL rfl,AL rfl⟩):DS X R (.Expr (.Call (.Attribute (.Name x p) "append" apos) [e] [] cpos) pos) (mApp i f):=by
 obtain ⟨t,h1,h2⟩:=h;exact ⟨_,M3 (Z4 HS GF LL NG (G3 hN hv hd hcd) (HH h1 KJ hst) hbase hfew hline hst hplain) hs,t7 hsl h2⟩
theorem mY (i : Nat) {px ps : Pos} (h : DE X R e f) (hj : DP X R a fa) (hN : X.N[i]? = some x := by rfl) (hv : Vis X.env.scope x := by first | exact DM rfl | exact C7 (DM rfl) | exact C7 (C7 rfl)) (hd : (x == ("__debug__" : Str)) = false := by decide) (hcd : (x == ("__classdict__" : Str)) = false := by decide)
 (ha:∀v,assign (.Subscript (.Name x px) a ps) X.env v=(do
  let ov <-holding [v] (eval (.Name x px) X.env)
  let iv <-holding [v,ov] (eval a X.env)
  standAt ps
  holding [v,ov,iv] (setItem ov iv v)
  release [v,ov,iv] []):=by intro _;rfl)
 (hs:swapsWithSole [.Subscript (.Name x px) a ps] e pos.line X.env=pure false:=by rfl) (hw:swappedStores [.Subscript (.Name x px) a ps] e X.env=pure none:=by rfl) (h1:(assignEach [.Subscript (.Name x px) a ps] X.env).map (·.2) = [assign (.Subscript (.Name x px) a ps) X.env]:=by rfl) (hsl:R.slot i:=by first | exact D4 | exact ⟨AL rfl,AL rfl⟩) :
 DS X R (.Assign [.Subscript (.Name x px) a ps] e pos) (mSet i fa f):=by
 obtain ⟨t,a1,a2⟩:=h;obtain ⟨u,b1,b2⟩:=hj;exact ⟨_,iV a1 (hU (G3 hN hv hd hcd) b1 UW ha) hs hw h1,uK hsl a2 b2⟩
theorem BP{CX:CXT}{P:Program}{w:World}{K:PySem.W.Frag}{mg:Str->Option Value}{base:Heap}{N:List Str}{qual:Str}{scope:Scope}{f:Addr}{cd:Value}{A:Around}{outer:List Env}{s:Shared}{H:Hp}{E:XK}:(OF CX P w K mg base N qual scope f cd A outer s H E).nox.env.scope=scope:=rfl
theorem BQ{CX:CXT}{P:Program}{w:World}{K:PySem.W.Frag}{mg:Str->Option Value}{base:Heap}{N:List Str}{qual:Str}{scope:Scope}{f:Addr}{cd:Value}{A:Around}{outer:List Env}{s:Shared}{H:Hp}{E:XK}:(OF CX P w K mg base N qual scope f cd A outer s H E).nox.N=N:=rfl
theorem JJ{X:Cx}{osc sc:Scope}{N':List Str}{b:CB}:(cxC X osc sc N' b).N=N':=rfl
theorem JB{X:Cx}{osc sc:Scope}{N':List Str}{b:CB}:(cxC X osc sc N' b).env.scope=MR sc osc:=rfl
def GKm(S:Nat->Bool)(g:TG):Prop:=∀v σ H Q Q',g v σ H Q->(∀σ' H',Q σ' H'->σ'.length=σ.length->(∀i:Nat,S i=false->σ'[i]? = σ[i]?)->Q' σ' H')->g v σ H Q'
def GKs(S:Nat->Bool)(g:TGs):Prop:=∀v σ H Q Q',g v σ H Q->(∀σ' H',Q σ' H'->σ'.length=σ.length->(∀i:Nat,S i=false->σ'[i]? = σ[i]?)->Q' σ' H')->g v σ H Q'
theorem GKm.gk{S:Nat->Bool}{t:TG}(h:GKm S t):GK S t:=fun v σ H Q q=>h v σ H Q _ q fun _ _ a b c=>⟨a,b,c⟩
theorem dU{S:Nat->Bool}{i:Nat}(h:S i=true):GKm S (MS i):=fun v σ H Q Q' q k=>k _ _ q (CD ..) fun j hj=>by
 rw [A8];intro e;subst e;rw [h] at hj
 cases hj
theorem mL{S:Nat->Bool}:GKs S gNil:=fun v σ H Q Q' q k=>⟨q.1,k _ _ q.2 rfl fun _ _=>rfl⟩
theorem jU{S:Nat->Bool}{t:TG}{u:TGs}(h:GKm S t)(k:GKs S u):GKs S (jR t u):=fun v σ H Q Q' q w=>by
 obtain ⟨x,r,e,q⟩:=q;refine ⟨x,r,e,h x σ H _ _ q fun σ' H' q' l1 k1=>k r σ' H' _ _ q' fun σ2 H2 q2 l2 k2=>w σ2 H2 q2 (l2.trans l1) fun i hi=>(k2 i hi).trans (k1 i hi)⟩
theorem mX{S:Nat->Bool}{u:TGs}{K:PySem.W.Frag}{n:Nat}(k:GKs S u):GKm S (sV K n u):=fun v σ H Q Q' q w=>by
 obtain ⟨a,xs,e,h1,h2,q⟩:=q;exact ⟨a,xs,e,h1,h2,k xs σ H _ _ q w⟩
def DGk(X:Cx)(R:Rl)(S:Nat->Bool)(e:Expr)(g:PyData->En->Option En):Prop:=∃t,PG X e t/\RG X.K R t g/\GKm S t
def oQ(X:Cx)(R:Rl)(S:Nat->Bool)(es:List Expr)(gs:List (PyData->En->Option En)):Prop:=∃t,PGs X es t/\RGs X.K R t gs/\GKs S t
def DTs(X:Cx)(R:Rl)(ifs:List Expr)(f:En->Option Bool):Prop:=∃tt,PTs X ifs tt/\RT X.K R tt f
theorem CG:DTs X R [] mYes:=⟨_,lC,wI⟩
theorem YM(h:DT X R e ft):DTs X R [e] ft:=by obtain ⟨t,h1,h2⟩:=h;exact ⟨_,pN h1,h2⟩
theorem BO{S:Nat->Bool}(i:Nat)(hN:X.N.Nodup)(hS:S i=true:=by rfl)(hi:X.N[i]? = some x:=by rfl)(hx:Loc X.env.scope x:=by first | exact DM rfl | exact C7 rfl)(hf:X.fn x=true\/X.env.scope.names.lookup x=some .local:=by first | exact .inl rfl | exact .inr rfl)(hsl:R.slot i:=by first | exact D4 | exact ⟨AL rfl,AL rfl⟩):DGk X R S (.Name x pos) (gVar i):=⟨_,YL hN hi hx hf,YF i hsl,dU hS⟩
theorem UJ{S:Nat->Bool}:oQ X R S [] []:=⟨_,YV,YD,mL⟩
theorem KY{S:Nat->Bool}(h:DGk X R S e fg)(k:oQ X R S es gg)(hs:(assignEach (e::es) X.env).map (·.2)=assign e X.env::(assignEach es X.env).map (·.2):=by rfl):oQ X R S (e::es) (fg::gg):=by obtain ⟨t,h1,h2,h5⟩:=h;obtain ⟨u,h3,h4,h6⟩:=k;exact ⟨_,VM h1 h3 hs,W3 h2 h4,jU h5 h6⟩
theorem YG{S:Nat->Bool}{k}{n:Nat}(h:oQ X R S es gg)(hl:n=gg.length:=by rfl)(hc:X.calm=true:=by rfl)(hn:(assignEach es X.env).length=n:=by rfl)(hst:(assignEach es X.env).findIdx? (·.1)=none:=by rfl):DGk X R S (.Tuple es k pos) (gTupD gg):=by
 obtain ⟨t,h1,h2,h3⟩:=h;exact ⟨_,iX hc h1 hn hst,fD hl h2,mX h3⟩
variable {osc sc:Scope} {N':List Str} {ix:List (Option Nat)} {ifs:List Expr} {elt iter:Expr} {fe:En->Option Sl}
theorem EL {N : List Str} (ho : X.env.scope = osc) (hN : X.N = N) (ix : List (Option Nat)) (sb : En -> En) (hx : ∀ (HB : Hp) (σ : L2.St) (ρ : En) (H0 H : Hp), R.r HB H0 H σ ρ -> R'.r (fun _ => none) H0 H (FY ix σ) (sb ρ)) (hi : DI X R tg iter fi) (hg : ∀ b : CB, DGk (cxC X osc sc N' b) R' (O0 ix) tg fg) (ht : ∀ b : CB, DTs (cxC X osc sc N' b) R' ifs ft) (he : ∀ b : CB, DE (cxC X osc sc N' b) R' elt fe)
 (hcs:WR osc sc N N' ix=true:=by decide +kernel) (hc:X.calm=true:=by rfl)
 (hs:∀x,foldedSetIterable iter X.env x=pure x:=by intro _;rfl):DE X R (.ListComp elt [⟨tg,iter,ifs,0⟩] sc pos) (mLC sb fi fg ft fe):=by
 obtain ⟨wi,h1,h2⟩:=hi
 exact ⟨_,xD (g:=fun b=>(hg b).choose) (tt:=fun b=>(ht b).choose) (te:=fun b=>(he b).choose) hc ho hN hcs h1 (fun b=>⟨(hg b).choose_spec.1,(ht b).choose_spec.1,(he b).choose_spec.1⟩) (fun b=>(hg b).choose_spec.2.2.gk) hs,
  iB hx h2 (fun b=>(hg b).choose_spec.2.1) (fun b=>(ht b).choose_spec.2) (fun b=>(he b).choose_spec.2)⟩
theorem T9 {N : List Str} (ho : X.env.scope = osc) (hN : X.N = N) (i : Nat) (ix : List (Option Nat)) (sb : En -> En) (hx : ∀ (HB : Hp) (σ : L2.St) (ρ : En) (H0 H : Hp), R.r HB H0 H σ ρ -> R'.r (fun _ => none) H0 H (FY ix σ) (sb ρ)) {py spos : Pos} (hnd : X.N.Nodup) (hi : DI X R tg iter fi) (hg : ∀ b : CB, DGk (cxC X osc sc N' b) R' (O0 ix) tg fg) (ht : ∀ b : CB, DTs (cxC X osc sc N' b) R' ifs ft) (he : ∀ b : CB, DE (cxC X osc sc N' b) R' elt fe)
 (hi':X.N[i]? = some y:=by rfl) (hy:X.env.scope.names.lookup y=some .local:=by rfl) (hsw:swapsWith (.ListComp elt [⟨tg,iter,ifs,0⟩] sc pos) (some (.Name y py)) spos.line X.env=pure true:=by rfl)
 (hcs:WR osc sc N N' ix=true:=by decide +kernel) (hc:X.calm=true:=by rfl)
 (hs:∀x,foldedSetIterable iter X.env x=pure x:=by intro _;rfl) (hsl:R.slot i:=by first | exact D4 | exact ⟨AL rfl,AL rfl⟩):DS X R (.Assign [.Name y py] (.ListComp elt [⟨tg,iter,ifs,0⟩] sc pos) spos) (mAsg i (mLC sb fi fg ft fe)):=by
 obtain ⟨wi,h1,h2⟩:=hi
 exact ⟨_,YE (g:=fun b=>(hg b).choose) (tt:=fun b=>(ht b).choose) (te:=fun b=>(he b).choose) hnd hi' hy hsw hc ho hN hcs h1 (fun b=>⟨(hg b).choose_spec.1,(ht b).choose_spec.1,(he b).choose_spec.1⟩) (fun b=>(hg b).choose_spec.2.2.gk) hs,
  nN hsl (iB hx h2 (fun b=>(hg b).choose_spec.2.1) (fun b=>(ht b).choose_spec.2) (fun b=>(he b).choose_spec.2))⟩
end
end Dm
namespace Dm
open PySem PySem.Spec L2 Tf
theorem ND {fg : PyData -> En -> Option En} {gb : En -> Option Out} {ds : List PyData} {ρ : En} (P : Nat -> En -> Prop) (h0 : P 0 ρ)
 (hs:∀(i:Nat) d ρ,ds[i]? = some d->P i ρ->∃ρ1,fg d ρ=some ρ1/\∃ρ2,(gb ρ1=some (.nx ρ2)\/gb ρ1=some (.ct ρ2))/\P (i+1) ρ2):∃ρ',JE fg gb ds ρ=some (.nx ρ')/\P ds.length ρ':=by
 induction ds generalizing ρ P with
 | nil=>exact ⟨ρ,rfl,h0⟩
 | cons d ds ih=>
  obtain ⟨ρ1,h1,ρ2,h2,h3⟩:=hs 0 d ρ rfl h0;obtain ⟨ρ',h4,h5⟩:=ih (ρ:=ρ2) (fun i=>P (i+1)) h3 (fun i d' ρ hi hp=>hs (i+1) d' ρ (by simpa using hi) hp);refine ⟨ρ',?_,h5⟩;unfold JE;rw [h1];show Option.bind (gb ρ1) _=_;rcases h2 with h2 | h2 <;> (rw [h2];exact h4)
theorem WT {fg : PyData -> En -> Option En} {gb : En -> Option Out} {lo : Int} {n : Nat} {ρ : En} (P : Nat -> En -> Prop) (h0 : P 0 ρ)
 (hs:∀(i:Nat) ρ,i<n->P i ρ->∃ρ1,fg (.int (lo+(i:Nat))) ρ=some ρ1/\∃ρ2,(gb ρ1=some (.nx ρ2)\/gb ρ1=some (.ct ρ2))/\P (i+1) ρ2):∃ρ',JE fg gb (FA lo n) ρ=some (.nx ρ')/\P n ρ':=by
 have h:=ND (fg:=fg) (gb:=gb) (ds:=FA lo n) (ρ:=ρ) P h0 (fun i d ρ hi hp=>by
  rw [M5] at hi
  split at hi
  . rename_i hlt
    cases hi
    exact hs i ρ hlt hp
  . cases hi)
 have hl:(FA lo n).length=n:=by simp [FA]
 rw [hl] at h
 exact h
theorem cS {fg : PyData -> En -> Option En} {gb : En -> Option Out} {lo : Int} {n : Nat} {ρ : En} (P : Nat -> En -> Prop) (Z : Out -> Prop) (h0 : P 0 ρ)
 (hs:∀(i:Nat) ρ,i<n->P i ρ->∃ρ1,fg (.int (lo+(i:Nat))) ρ=some ρ1/\((∃ρ2,gb ρ1=some (.nx ρ2)/\P (i+1) ρ2)\/∃r ρ2,gb ρ1=some (.rt r ρ2)/\Z (.rt r ρ2))):(∃ρ',JE fg gb (FA lo n) ρ=some (.nx ρ')/\P n ρ')\/∃o,JE fg gb (FA lo n) ρ=some o/\Z o:=by
 have gen:∀(k j:Nat) ρ,j+k=n->P j ρ->(∃ρ',JE fg gb ((FA lo n).drop j) ρ=some (.nx ρ')/\P n ρ')\/∃o,JE fg gb ((FA lo n).drop j) ρ=some o/\Z o:=by
  intro k
  induction k with
  | zero=>
   intro j ρ hj hp;have:j=n:=by omega
   subst this;rw [E3 (by simp [FA])]
   exact .inl ⟨ρ,rfl,hp⟩
  | succ k ih=>
   intro j ρ hj hp;obtain ⟨ρ1,h1,h2⟩:=hs j ρ (by omega) hp;rw [KZ (d:= .int (lo+(j:Nat))) (by rw [M5,CQ (by omega)]),h1];rcases h2 with ⟨ρ2,h3,h4⟩ | ⟨r,ρ2,h3,h4⟩
   . have:=ih (j+1) ρ2 (by omega) h4;simp only [BJ,h3];exact this
   . simp only [BJ,h3];exact .inr ⟨_,rfl,h4⟩
 have:=gen n 0 ρ (by omega) h0;simpa using this
theorem CI{α:Type}{f:PyData->Option (Option PyData)}{en:α->PyData}{g:α->PyData}:∀ {xs:List α},(∀x ∈ xs,f (en x)=some (some (g x)))->HK f (xs.map en)=some (xs.map g)
 | [],_=>rfl
 | x::xs,h=>by
  rw [CU,HK,h x BU,CI (fun y hy=>h y (B6 _ hy))];rfl
theorem KK{f:PyData->Option (Option PyData)}{g:Nat->PyData}{lo:Int}{n:Nat}(h:∀i,i<n->f (.int (lo+(i:Nat)))=some (some (g i))):HK f (FA lo n)=some ((List.range n).map g) :=
 CI (en:=fun i:Nat=>PyData.int (lo+(i:Nat))) fun i hi=>h i (BZ.mp hi)
theorem cX {c : En -> Option Bool} {b : En -> Option Out} {ρ : En} (P : En -> Prop) (μ : En -> Nat) (h0 : P ρ)
 (hs:∀ρ,P ρ->c ρ=some false\/(c ρ=some true/\∃ρ',b ρ=some (.nx ρ')/\P ρ'/\μ ρ'<μ ρ)):∃ρ',IX c b ρ=some (.nx ρ')/\P ρ'/\c ρ'=some false:=by
 have gen:∀(n:Nat) ρ,μ ρ<n->P ρ->∃ρ',FC c b n ρ=some (.nx ρ')/\P ρ'/\c ρ'=some false:=by
  intro n
  induction n with
  | zero=>intro ρ h;omega
  | succ n ih=>
   intro ρ hm hp;rcases hs ρ hp with h | ⟨h,ρ1,h1,h2,h3⟩
   . exact ⟨ρ,by simp [FC,h],hp,h⟩
   . obtain ⟨ρ',h4,h5⟩:=ih ρ1 (by omega) h2;exact ⟨ρ',by simp [FC,h,h1,h4],h5⟩
 obtain ⟨ρ',h1,h2⟩:=gen (μ ρ+1) ρ (by omega) h0;exact ⟨ρ',QX h1,h2⟩
def Rts(g:En->Option Out)(ρ:En)(r:Sl):Prop:=∃ρ',g ρ=some (.rt r ρ')
theorem GU{f g:En->Option Out}{ρ ρ':En}{r:Sl}(h:f ρ=some (.nx ρ'))(k:Rts g ρ' r):Rts (mSeq f g) ρ r:=by
 obtain ⟨ρ2,k⟩:=k;exact ⟨ρ2,by unfold mSeq;rw [h];exact k⟩
theorem i3{f g:En->Option Out}{ρ:En}{r:Sl}(h:Rts f ρ r):Rts (mSeq f g) ρ r:=by
 obtain ⟨ρ2,h⟩:=h;exact ⟨ρ2,by unfold mSeq;rw [h];rfl⟩
theorem IT{f:En->Option Sl}{ρ:En}{r:Sl}(h:f ρ=some r):Rts (mRet f) ρ r:=⟨ρ,by unfold mRet;rw [h];rfl⟩
theorem wN{c:En->Option Bool}{f g:En->Option Out}{ρ:En}{r:Sl}{b:Bool}(h:c ρ=some b)(k:Rts (if b then f else g) ρ r):Rts (mIf c f g) ρ r:=by
 obtain ⟨ρ2,k⟩:=k;refine ⟨ρ2,?_⟩;unfold mIf;rw [h]
 cases b <;> exact k
theorem lO{i:Nat}{g:En->Option Out}{ρ:En}{r:Sl}(k:Rts g (frz1 i ρ) r):Rts (mFrz i g) ρ r:=k
theorem GC{n k:Nat}{g:En->Option Out}{ds:List PyData}{ρ:En}{r:Sl}(hl:ds.length=k)(e:ds.map (fun d=>some (Sl.val d))++List.replicate (n - ds.length) none=ρ)(h:Rts g ρ r):EJ n g k ds=some r:=by
 obtain ⟨ρ',h⟩:=h;unfold EJ;rw [if_pos hl,e,h];rfl
theorem FT{f g:En->Option Out}{ρ ρ':En}{o:Out}(h:f ρ=some (.nx ρ'))(k:g ρ'=some o):mSeq f g ρ=some o:=by
 unfold mSeq;rw [h];exact k
theorem XW{f g:En->Option Out}{ρ ρ':En}{r:Sl}(h:f ρ=some (.rt r ρ')):mSeq f g ρ=some (.rt r ρ'):=by
 unfold mSeq;rw [h];rfl
theorem LJ{c:En->Option Bool}{f g:En->Option Out}{ρ:En}{o:Out}{b:Bool}(h:c ρ=some b)(k:(if b then f ρ else g ρ)=some o):mIf c f g ρ=some o:=by
 unfold mIf;rw [h];exact k
theorem F3{i:Nat}{f:En->Option Sl}{ρ:En}{r:Sl}(h:f ρ=some r):mAsg i f ρ=some (.nx (ρ.set i (some r))):=by
 unfold mAsg;rw [h];rfl
theorem kB{f:En->Option Sl}{ρ:En}{r:Sl}(h:f ρ=some r):mRet f ρ=some (.rt r ρ):=by
 unfold mRet;rw [h];rfl
theorem CF{F:List PyData->Option Sl}{f:En->Option (List PyData)}{ρ:En}{ds:List PyData}{r:Sl}(h:f ρ=some ds)(k:F ds=some r):mCall F f ρ=some r:=by
 unfold mCall;rw [h];exact k
theorem N8{fi:En->Option (List PyData)}{fg:PyData->En->Option En}{gb:En->Option Out}{ρ:En}{ds:List PyData}{o:Out}(h:fi ρ=some ds)(k:JE fg gb ds ρ=some o):F6 fi fg gb ρ=some o:=by
 unfold F6;rw [h];exact k
theorem F2{sb:En->En}{fi:En->Option (List PyData)}{fg:PyData->En->Option En}{ft:En->Option Bool}{fe:En->Option Sl}{ρ:En}{ds es:List PyData}(h:fi ρ=some ds)(hl:ds.length<sizeLine)(k:HK (elM fg ft fe (sb ρ)) ds=some es):mLC sb fi fg ft fe ρ=some (.own es):=by
 unfold mLC;rw [h];show (if ds.length<sizeLine then _ else _)=_;rw [if_pos hl,k];rfl
theorem ID{i j:Int}(h:Q1 i j):dRep (.val (.int i)) (.val (.int j))=some (.val (.int (i*j))):=by
 unfold dRep qS UA;simp only [if_pos h]
theorem WZ{i j:Int}(h:eQ i j):EC (.val (.int i)) (.val (.int j))=some (.val (.int (i.fdiv j))):=by
 unfold EC UA;simp only [if_pos h]
theorem QB{i j:Int}(h:j≠0):FB (.val (.int i)) (.val (.int j))=some (.val (.int (i.fmod j))):=by
 unfold FB UA;simp only [if_pos h]
theorem GQ{f:En->Option (List Sl)}{ρ:En}{j:Nat}(h:f ρ=some [.val (.int j)])(hj:j<=1000):EZ f ρ=some (FA 0 j):=by
 have b:inB (j:Int):=by
  constructor
  . have : -(2 ^ 62:Int)<=0:=by decide
    omega
  . have:(1000:Int)<2 ^ 62:=by decide
    omega
 unfold EZ;rw [h];show (if inB (j:Int) then some (FA 0 ((j:Int).toNat)) else none)=_;rw [if_pos b,Int.toNat_natCast]
theorem SO{f:En->Option (List Sl)}{ρ:En}{i j:Nat}(h:f ρ=some [.val (.int i), .val (.int j)])(hi:i<=1000)(hj:j<=1000):JW f ρ=some (FA i (j - i)):=by
 have b:∀j:Nat,j<=1000->inB (j:Int):=by
  intro j hj
  constructor
  . have : -(2 ^ 62:Int)<=0:=by decide
    omega
  . have:(1000:Int)<2 ^ 62:=by decide
    omega
 unfold JW;rw [h];show (if inB (i:Int)/\inB (j:Int) then some (FA i (((j:Int) - (i:Int)).toNat)) else none)=_;rw [if_pos ⟨b i hi,b j hj⟩,Int.toNat_sub]
theorem eqD_int(i j:Int):eqD (.int i) (.int j)=some (decide (i=j)):=by
 have:PyData.eqv (.int i) (.int j)=decide (i=j):=by simp [PyData.eqv,Bool.beq_eq_decide_eq]
 unfold eqD;rw [if_pos ⟨rfl,rfl,by simp [PyData.depth]⟩,this]
def NP(q:Int×Int):PyData:= .tuple [.int q.1, .int q.2]
theorem M9{α:Type}{en:α->PyData}(h:∀x,(en x).canLay0=true):∀xs:List α,PyData.canLayAll0 (xs.map en)=true
 | []=>rfl
 | x::xs=>by rw [CU,PyData.canLayAll0,h x,M9 h xs];rfl
theorem MF{α:Type}{en:α->PyData}{k:Nat}(h:∀x,(en x).depth<=k):∀xs:List α,PyData.depthAll (xs.map en)<=k
 | []=>DL _
 | x::xs=>by rw [CU,PyData.depthAll];exact Nat.max_le.mpr ⟨h x,MF h xs⟩
theorem VO{d:PyData}(h:d.canLay0=true)(k:d.depth<=60):eqD d d=some true:=by
 unfold eqD;rw [if_pos ⟨h,h,by omega⟩,SeqAt.eqv_refl d h]
end Dm
namespace Dm
open PySem PySem.Spec PyProof.Rows L2 Tf
section
variable {X:Cx}
def v8(K:PySem.W.Frag)(neg:Bool):R2:=fun x y H Q=>∃p xs dx ds,y = .ref p/\(SqL K H p xs\/SqT K H p xs)/\Rep K H x dx/\Reps K H xs ds/\dx.canLay0=true/\(∀d ∈ ds,d.canLay0=true)/\dx.depth<=60/\Q (.bl (if neg then !(ds.any fun d=>PyData.eqv d dx) else ds.any fun d=>PyData.eqv d dx)) H
open Classical in
noncomputable def eqW(h:Heap)(ds:List PyData)(dx:PyData)(u:Value):Bool:=decide (∃d ∈ ds,(∃as,Reads h u d as)/\PyData.eqv d dx=true)
open Classical in
theorem P0{h:Heap}{ds:List PyData}{dx d:PyData}{u:Value}{as:List Addr}(hd:d ∈ ds)(hl:∀d ∈ ds,d.canLay0=true)(r:Reads h u d as):eqW h ds dx u=PyData.eqv d dx:=by
 unfold eqW
 by_cases e:PyData.eqv d dx=true
 . rw [e];exact D5 ⟨d,hd,⟨as,r⟩,e⟩
 . rw [GJ.mpr e];refine BW ?_;rintro ⟨d',hd',⟨as',r'⟩,e'⟩;rw [<-SeqAt.Reads.unique d d' u as as' (hl d hd) r r'] at e'
   exact e e'
theorem MX{h:Heap}{dx:PyData}{all:List PyData}(hl:∀d ∈ all,d.canLay0=true):∀ {us:List Value} {ds:List PyData} {as:List Addr},ReadsAll h us ds as->(∀d ∈ ds,d ∈ all)->us.any (eqW h all dx)=ds.any fun d=>PyData.eqv d dx
 | _,_,_, .nil,_=>rfl
 | _,_,_, .cons r t,hs=>by
  rw [kU,kU,P0 (hs _ BU) hl r,MX hl t fun d hd=>hs d (B6 _ hd)]
theorem GO{h:Heap}:∀ {us:List Value} {ds:List PyData} {as:List Addr},ReadsAll h us ds as->∀u ∈ us,∃d ∈ ds,∃bs,Reads h u d bs
 | _,_,_, .nil,u,hu=>by cases hu
 | _,_,_, .cons r t,u,hu=>by
  rcases AZ.mp hu with rfl | hu
  . exact ⟨_,BU,_,r⟩
  . obtain ⟨d,hd,q⟩:=GO t u hu;exact ⟨d,B6 _ hd,q⟩
theorem L4(A:Around):A.in1.units=A.units+1:=rfl
theorem zD(hu:X.A.units+64<cLine):OpR X (compareOp .In) (v8 X.K false):=by
 intro pins s σ H x y v u Q I rx ry h;obtain ⟨p,xs,dx,ds,rfl,hq,hx,hs,lx,ld,dp,q⟩:=h
 cases ry
 obtain ⟨bs,r2⟩:=hx.reads I rx lx;rcases hq with hq | hq
 . obtain ⟨its,r,pl,hz⟩:=I.list hq;obtain ⟨as,ra⟩:=Reps.reads I hs r (JH ld);refine SeqAt.in_listAt (eqW s.heap ds dx) pl.isList (fun w hw=> ?_) ⟨.bl _,H,I,rfl,?_⟩
   . obtain ⟨d,hd,cs,rd⟩:=GO ra w (by simpa using hw);rw [P0 hd ld rd];exact OT d dx _ _ _ _ _ _ rd r2 (ld d hd) lx (by have:=L4 X.A;omega)
   . rw [show its.toArray.any (eqW s.heap ds dx)=its.any (eqW s.heap ds dx) by simp,MX ld ra fun _ h=>h];exact q
 . obtain ⟨its,r,pl,hz⟩:=I.tuple hq;obtain ⟨as,ra⟩:=Reps.reads I hs r (JH ld);refine SeqAt.in_tupleAt (eqW s.heap ds dx) pl (fun w hw=> ?_) ⟨.bl _,H,I,rfl,?_⟩
   . obtain ⟨d,hd,cs,rd⟩:=GO ra w (by simpa using hw);rw [P0 hd ld rd];exact OT d dx _ _ _ _ _ _ rd r2 (ld d hd) lx (by have:=L4 X.A;omega)
   . rw [show its.toArray.any (eqW s.heap ds dx)=its.any (eqW s.heap ds dx) by simp,MX ld ra fun _ h=>h];exact q
theorem cG(hu:X.A.units+64<cLine):OpR X (compareOp .NotIn) (v8 X.K true):=by
 intro pins s σ H x y v u Q I rx ry h;obtain ⟨p,xs,dx,ds,rfl,hq,hx,hs,lx,ld,dp,q⟩:=h
 cases ry
 obtain ⟨bs,r2⟩:=hx.reads I rx lx;rcases hq with hq | hq
 . obtain ⟨its,r,pl,hz⟩:=I.list hq;obtain ⟨as,ra⟩:=Reps.reads I hs r (JH ld);refine SeqAt.notIn_listAt (eqW s.heap ds dx) pl.isList (fun w hw=> ?_) ⟨.bl _,H,I,rfl,?_⟩
   . obtain ⟨d,hd,cs,rd⟩:=GO ra w (by simpa using hw);rw [P0 hd ld rd];exact OT d dx _ _ _ _ _ _ rd r2 (ld d hd) lx (by have:=L4 X.A;omega)
   . rw [show its.toArray.any (eqW s.heap ds dx)=its.any (eqW s.heap ds dx) by simp,MX ld ra fun _ h=>h];exact q
 . obtain ⟨its,r,pl,hz⟩:=I.tuple hq;obtain ⟨as,ra⟩:=Reps.reads I hs r (JH ld);refine SeqAt.notIn_tupleAt (eqW s.heap ds dx) pl (fun w hw=> ?_) ⟨.bl _,H,I,rfl,?_⟩
   . obtain ⟨d,hd,cs,rd⟩:=GO ra w (by simpa using hw);rw [P0 hd ld rd];exact OT d dx _ _ _ _ _ _ rd r2 (ld d hd) lx (by have:=L4 X.A;omega)
   . rw [show its.toArray.any (eqW s.heap ds dx)=its.any (eqW s.heap ds dx) by simp,MX ld ra fun _ h=>h];exact q
def inD(neg:Bool)(dx:PyData)(ds:List PyData):Option Sl:=if dx.canLay0=true/\(ds.all fun d=>d.canLay0)=true/\dx.depth<=60 then some (.val (.bool (if neg then !(ds.any fun d=>PyData.eqv d dx) else ds.any fun d=>PyData.eqv d dx))) else none
def PQ(neg:Bool)(a b:Sl):Option Sl:=match b.dat with
 | .list ds=>inD neg a.dat ds
 | .tuple ds=>inD neg a.dat ds
 | _=>none
theorem o8{K:PySem.W.Frag}{neg:Bool}:OpD K (v8 K neg) (PQ neg):=fun H0 H x y sx sy z s px py hz Q q=>by
 unfold PQ at hz
 split at hz
 . rename_i ds hd;unfold inD at hz
   split at hz
   . rename_i hc
     cases hz
     obtain ⟨a,vs,rfl,h1,h2⟩:=py.lst s hd;exact ⟨a,vs,_,ds,rfl, .inl h1,px.rep s,Reps.same s h2,hc.1,fun d hd=>EG.mp hc.2.1 d hd,hc.2.2,q _ _ _ (Ext.refl s) (.bool _)⟩
   . cases hz
 . rename_i ds hd;unfold inD at hz
   split at hz
   . rename_i hc
     cases hz
     obtain ⟨a,vs,rfl,h1,h2⟩:=py.tup hd;exact ⟨a,vs,_,ds,rfl, .inr (s.seqT h1),px.rep s,Reps.same s h2,hc.1,fun d hd=>EG.mp hc.2.1 d hd,hc.2.2,q _ _ _ (Ext.refl s) (.bool _)⟩
   . cases hz
 . cases hz
variable {R:Rl} [RelOk X.K R] {a b e:Expr} {pos p:Pos} {fa fb f:En->Option Sl}
theorem NF(hu:X.A.units+64<cLine)(ha:DP X R a fa)(hb:DP X R b fb)(hm:behindInMarks .NotIn b=false:=by with_unfolding_all rfl):DT X R (.Compare a [.NotIn] [b] pos) (mTest (mBin (PQ true) fa fb)):=LQ (cG hu) o8 ha hb hm
end
end Dm
namespace Tf
open PySem PySem.Spec PyProof.Rows L2
variable {X:Cx}
theorem HX{pins:List (Addr×Obj)}{σ:L2.St}{H:Hp}{s:Shared}{h':Heap}{t':Nat}{it:Addr}(f:KM X pins H it)(I:L2.Inv X pins σ H s)(k:∀b o,b≠it->s.heap.get? b=some o->h'.get? b=some o):L2.Inv X pins σ H {s with heap:=h',toks:=t' } :=
 I.turned k f.1 f.2.1 f.2.2.2.1 f.2.2.2.2.1 f.2.2.2.2.2
theorem SF{pins:List (Addr×Obj)}{H:Hp}{it:Addr}(f:KM X pins H it){h:Heap}{o:Obj}(e:h.get? it=some o)(d:∀v,o.data ≠ .cell v):h.get? it=some o/\H it=none/\it≠X.env.locals/\it ∉ X.fs/\∀v,o.data ≠ .cell v:=⟨e,f.1,f.2.1,f.2.2.1,d⟩
theorem ZP{pins:List (Addr×Obj)}{H H':Hp}{it:Addr}(f:KM X pins H it)(h:H' it=none):KM X pins H' it:=⟨h,f.2⟩
end Tf
namespace Tf
open PySem PySem.Spec PyProof.Rows L2
theorem S8{a b c:Value}:∀(l:List Value),TriplesOk l->(∃i t,a = .int i t)->(∃i t,b = .int i t)->TriplesOk (l ++ [a,b,c]):=by
 intro l h ha hb;obtain ⟨i,t,rfl⟩:=ha;obtain ⟨j,u,rfl⟩:=hb
 fun_induction TriplesOk l with
 | case1=>exact D4
 | case2 _ _ _ _ _ rest ih=>exact ih h
 | case3=>exact h.elim
theorem XI{pos pos':Pos}{c v:Value}:∀(l:List Value),TriplesOk l->codeAmong pos' (l ++ [rawInt pos.line,rawInt pos.col,c])=some v->codeAmong pos' l=some v\/v=c:=by
 intro l h e
 fun_induction TriplesOk l with
 | case1=>
  simp only [aZ,codeAmong,rawInt] at e
  split at e
  . cases e;exact .inr rfl
  . cases e
 | case2 i t j u x rest ih=>
  have e':codeAmong pos' (.int i t :: .int j u::x::(rest ++ [rawInt pos.line,rawInt pos.col,c]))=some v:=e;rw [codeAmong] at e' ⊢
  by_cases hc:(i==(pos'.line:Int) && j==(pos'.col:Int))=true
  . rw [CQ hc] at e' ⊢
    exact .inl e'
  . rw [C9 hc] at e' ⊢
    exact ih h e'
 | case3=>exact h.elim
def BM(h:Heap)(mg:Str->Option Value):Prop:=∃bm o,mg "__builtins__" = some (.ref bm)/\bm≠builtinsNs/\h.get? bm=some o/\o.cls = .type "module" /\ o.dict=some builtinsNs/\o.data = .plain
def cR(f:Addr)(fo:Obj):HO:= .ext fun h=>h.get? f=some fo
structure Made (H H':Hp) (f c:Addr) (oc fo:Obj):Prop where
 same:∃H1,(H1=H\/(H c=none/\H1=upd H c (.frz oc (.own 0))))/\H1 f=none/\H'=upd H1 f (cR f fo)
 code:H' c=some (.frz oc (.own 0))
 fn:H' f=some (cR f fo)
 rec_:∃vs x,oc.data = .fields vs/\vs[1]? = some x
variable {X:Cx}
abbrev NO (X:Cx) (params:Arguments) (body:Expr) (scope:Scope) (clos:List (Str×Addr)) (pm:Value) (c:Addr) (ctv:Value):Obj:=PySem.W.kla_obj "<lambda>" (X.env.qual ++ "<lambda>") params body scope clos pm c ctv
def zH(X:Cx)(params:Arguments)(body:Expr)(scope:Scope)(clos:List (Str×Addr)):TE:=fun σ H Q=>∀f c oc pm ctv H',Made H H' f c oc (NO X params body scope clos pm c ctv)->Q (.ref f) H'
theorem tR {params : Arguments} {body : Expr} {scope : Scope} {pos : Pos} {c P : Addr} {clos : List (Str × Addr)} (hcd : X.env.code = .ref c) (C : PySem.W.CodeHd X.base c P) (hp : P ∈ J6 X.K) (bm : BM X.base X.mg)
 (hdef:defaultsOf params X.env=([],[])) (hcl:closureFor scope X.env=pure clos):PE X (.Lambda params body scope pos) (zH X params body scope clos):=by
 intro pins s σ H Q I q;obtain ⟨ps,hP⟩:=I.tb P hp;obtain ⟨qs,e1,e2,e3⟩:=I.hok P _ hP;have hgs:s.heap.Ns mainGlobals X.mg:=I.mod.glob.keeps I.bk;have C':PySem.W.CodeHd s.heap c P:=C.keeps I.bk
 have hgP:mainGlobals≠P:=fun z=>by
  obtain ⟨o,es,ep,e,hd,_⟩:=hgs;rw [z,e1] at e;cases e;cases hd
 have hb:s.heap.BuiltinsAt X.mg P:=by
  obtain ⟨b,ob,b1,b2,b3,b4,b5,b6⟩:=bm;have b3':=I.bk _ _ b3;refine ⟨b,ob,b1,b2,fun z=> ?_,fun z=> ?_,b3',b4,b5,b6⟩
  . obtain ⟨o,es,ep,e,hd,_⟩:=hgs;rw [z,e] at b3';cases b3';rw [hd] at b6;cases b6
  . rw [z,e1] at b3';cases b3';cases b4
 have Pne:∀ {b:Addr} {u:HO},H b=some u->(∀ps,u ≠ .tbl ps)->b≠P:=fun {b u} e n z=>by
  subst z;rw [hP] at e
  cases e
  exact n ps rfl
 have fin : ∀ (f c' : Addr) (oc : Obj) (vs : Array Value) (x : Value) (pm ctv : Value) (H1 : Hp) (h2 : Heap) (tk : Nat) (qs' : Array Value), (H1 = H \/ (H c' = none /\ H1 = upd H c' (.frz oc (.own 0)) /\ s.heap.objs.size <= c')) -> s.heap.objs.size <= f -> f ≠ c' ->
  (∀b o,b≠P->s.heap.get? b=some o->h2.get? b=some o)->h2.get? P=some (PySem.W.tabObj qs')->TriplesOk qs'.toList->(∀pos v,codeAmong pos qs'.toList=some v->codeAmong pos qs.toList=some v\/v = .ref c') ->
  h2.get? c'=some oc->H1 c'=some (.frz oc (.own 0))->oc.data = .fields vs->vs[1]? = some x ->
  h2.get? f=some (NO X params body scope clos pm c' ctv)->EP X pins σ Q (.ref f) {s with heap:=h2,toks:=tk}:=fun f c' oc vs x pm ctv H1 h2 tk qs' h1 hf hfc kp tP tT tC hoc hc hd hv ho=>by
  have h0:H f=none:=I.hok.fresh hf
  have hn:H1 f=none:=by
   rcases h1 with rfl | ⟨_,rfl,_⟩
   . exact h0
   . rw [AY hfc];exact h0
  have up:∀ {b:Addr} {u:HO},H b=some u->H1 b=some u:=fun {b u} e=>by
   rcases h1 with rfl | ⟨h1n,rfl,_⟩
   . exact e
   . rw [AY (BD e h1n)];exact e
  have nf:∀ {b:Addr} {u:HO},H1 b=some u->b≠f:=fun {b u} e=>BD e hn
  let fo:=NO X params body scope clos pm c' ctv
  have up2:∀ {b:Addr} {u:HO},H b=some u->upd H1 f (cR f fo) b=some u:=fun {b u} e=>by rw [AY (nf (up e))];exact up e
  have ok:HOk X.prog X.w (upd H1 f (cR f fo)) h2:=fun b u e=>by
   by_cases hb:b=f
   . subst hb;rw [BC] at e
     cases e
     exact ⟨ho,⟨_,ho⟩,fun h1 h2 p k=>k _ p⟩
   . rw [AY hb] at e
     have cs:(b=c'/\u = .frz oc (.own 0))\/H b=some u:=by
      rcases h1 with rfl | ⟨h1n,rfl,_⟩
      . exact .inr e
      . by_cases hbc:b=c'
        . subst hbc;rw [BC] at e
          cases e
          exact .inl ⟨rfl,rfl⟩
        . rw [AY hbc] at e
          exact .inr e
     rcases cs with ⟨rfl,rfl⟩ | e
     . exact ⟨hoc,oc,hoc⟩
     . by_cases hbP:b=P
       . subst hbP;rw [hP] at e
         cases e
         refine ⟨qs',tP,tT,fun pos' v hv' => ?_⟩;rcases tC pos' v hv' with z | z
         . obtain ⟨d,od,ws,y,r1,r2,r3⟩:=e3 pos' v z;exact ⟨d,od,ws,y,r1,up2 r2,r3⟩
         . exact ⟨c',oc,vs,x,z,by rw [AY (HZ hfc)];exact hc,hd,hv⟩
       . refine (I.hok b u e).stay (fun d v hd' r=>kp d v ?_ r) (fun d r=>up2 r) (fun d xs r=>up2 r) fun d ob xs r=>up2 r;rcases hd' with rfl | r
         . exact hbP
         . exact Pne r fun ps z=>by cases z
  refine ⟨.ref f,upd H1 f (cR f fo),?_,rfl,q f c' oc pm ctv _ ⟨⟨H1,h1.imp id fun z=>⟨z.1,z.2.1⟩,hn,rfl⟩,by rw [AY (HZ hfc)];exact hc,BC,vs,x,hd,hv⟩⟩;have nP:∀ {b:Addr},H b=none->b≠P:=fun {b} n z=>by subst z;rw [hP] at n;cases n
  refine I.call' (ch:= []) rfl ⟨fun b o e n _ _=>kp b o (nP n) e,fun b o e n _ _=>⟨o.slots,kp b o (nP n) e⟩,fun b o e n _=> ?_,fun b o e _=> ?_,fun b xs e=>up2 e,fun b o u e=>up2 e,fun b ps e=>⟨#[],?_⟩⟩ ok I.bare (fun b z=>absurd z (by simp))
  . have lb:=AU e;rw [AY (fun z=>by subst z;exact absurd (B2 lb hf) (G9 _))];rcases h1 with rfl | ⟨h1n,rfl,hcs⟩
    . exact n
    . rw [AY (fun z=>by subst z;exact absurd (B2 lb hcs) (G9 _))];exact n
  . by_cases hbP:b=P
    . subst hbP;exact ⟨_,tP⟩
    . exact ⟨o,kp b o hbP e⟩
  . rw [up2 e];simp
 refine PySem.W.kla_eval hdef ?_
 cases hc:codeAmong pos qs.toList with
 | none=>
  refine PySem.W.kla_makeFunction (mg:=X.mg) hcl I.ok.glob hgs hcd C' e1 e2 hc hgP hb fun c' ctv h' tk hx hge hlt hrec htb=> ?_;obtain ⟨c2,oc,vs,t,ec,hoc,hd,hv⟩:=hrec
  cases ec
  refine fin h'.objs.size c' oc vs _ _ ctv (upd H c' (.frz oc (.own 0))) _ tk _ (.inr ⟨I.hok.fresh hge,rfl,hge⟩) (BH hge (HY hlt)) (MZ hlt) (fun b o hb e=>A3 _ (hx b o hb e)) (A3 _ htb) ?_ (fun pos' v hv' => ?_) (A3 _ hoc) BC hd hv (AW _ rfl)
  . rw [yR];exact S8 _ e2 ⟨_,_,rfl⟩ ⟨_,_,rfl⟩
  . rw [yR] at hv'
    exact XI _ e2 hv'
 | some v=>
  obtain ⟨c',oc,vs,x,rfl,h2,h3,h4⟩:=e3 pos v hc;refine PySem.W.kla_makeFunctionHit (mg:=X.mg) hcl I.ok.glob hgs hcd C' e1 e2 hc hb fun ctv h' tk hk hsz=> ?_;have hoc:s.heap.get? c'=some oc:=(I.hok c' _ h2).1;exact fin h'.objs.size c' oc vs x _ ctv H _ tk qs (.inl rfl) hsz (MZ (B2 (AU hoc) hsz)) (fun b o _ e=>A3 _ (hk b o e)) (A3 _ (hk _ _ e1)) e2 (fun _ _ z=> .inl z) (A3 _ (hk _ _ hoc)) h2 h3 h4 (AW _ rfl)
end Tf
namespace Tf
open PySem PySem.Spec PyProof.Rows L2
structure LB where
 q:Str
 f:Addr
 cd:Value
 s:Shared
 H:Hp
def KS(X:Cx)(N':List Str)(sc:Scope)(cl:List (Str×Addr))(b:LB):Cx where
 prog:=X.prog
 w:=X.w
 K:=X.K
 mg:=X.mg
 base:=X.base
 A:=X.A.in1.deeper (PySem.W.envX b.q sc b.s.heap.objs.size b.f b.cd cl)
 N:=N'
 s₀:=b.s
 H₀:=b.H
 env:=PySem.W.envX b.q sc b.s.heap.objs.size b.f b.cd cl
 outer:=X.stack
 stack:=PySem.W.envX b.q sc b.s.heap.objs.size b.f b.cd cl::X.stack
 ex:= []
 calm:=true
 fn:=fun _=>false
 pn:= []
 xe:=fun _ _=>False
structure LamSc (X:Cx) (sc:Scope) (cl:List (Str×Addr)) (x:Str) (ys:List Str):Prop where
 kind:sc.kind = .function
 co:sc.isCoroutine=false
 gen:sc.isGenerator=false
 par:sc.names.lookup x=some .local
 nocell:∀y ∈ sc.names,y.2 ≠ .cell
 free:∀y,sc.names.lookup y=some .free->y ∈ ys
 fr:∀y ∈ ys,sc.names.lookup y=some .free
 cells:∀y c,cl.lookup y=some c->X.env.cells.lookup y=some c
 has:∀y ∈ ys,∃c,cl.lookup y=some c
 out:∀y ∈ ys,X.env.scope.names.lookup y=some .cell
variable {X:Cx}
theorem mU {pins : List (Addr × Obj)} {σ σ' : L2.St} {H : Hp} {s : Shared} {h₁ : Heap} {tk : Nat} {sc : Scope} {cl : List (Str × Addr)} {x q : Str} {ys : List Str} {f : Addr} {cd u : Value} {v : V} (I : L2.Inv X pins σ H s) (hh : X.A.handled = none) (S : LamSc X sc cl x ys) (r : RelV v u)
 (hns:h₁.Ns s.heap.objs.size (fun y=> [(x,u)].reverse.lookup y)) (hk:∀b o,s.heap.get? b=some o->h₁.get? b=some o)
 (hl:σ'.length=ys.length+1) (h0:σ'[0]? = some (some v)) (hc:∀(i:Nat) y w,ys[i]? = some y->σ'[i+1]? = some (some w)->∃j:Nat,X.N[j]? = some y/\σ[j]? = some (some w)) :
 L2.Inv (KS X (x::ys) sc cl ⟨q,f,cd,s,H⟩) [] σ' H {s with heap:=h₁,toks:=tk}:=by
 refine ⟨⟨I.ok.mod,S.kind,rfl,rfl,AA _,fun y z c h1 h2=>I.ok.inj y z c (S.cells y c h1) (S.cells z c h2),fun y hy=> ?_,fun y c hf=>absurd hf (by simp [KS]),fun _=>hh,A04 I.env0.in1.frames, .inr ⟨rfl,rfl⟩,fun b z=>absurd z (by simp [KS]),I.bs,BH I.ok.bsz I.sz,fun b _ _ z=>absurd z (by simp [KS]),fun b z=>absurd z (by simp [KS]),I.stack,I.stkFree,I.tb⟩,
  rfl,I.bare,Un.kept hk,⟨_,hns,fun i y w h1 h2 h3=> ?_⟩,fun y c h=> ?_,I.hok.fresh (AA _),fun y c h=>I.freeC y c (S.cells y c h),fun p hp=>absurd (show p ∈ ([]:List (Addr×Obj)) from hp) (by simp),I.hok.kept hk,?_⟩
 . have hy:sc.names.lookup y=some .cell\/sc.names.lookup y=some .free:=hy;rcases hy with hy | hy
   . exact absurd rfl (S.nocell _ (ES hy))
   . exact S.has y (S.free y hy)
 . have h1:(x::ys)[i]? = some y:=h1
   cases i with
   | zero=>
    cases h1
    rw [h0] at h2
    cases h2
    exact ⟨u,r, .inl ⟨S.par,by simp⟩⟩
   | succ i=>
    have h1:ys[i]? = some y:=h1;obtain ⟨j,j1,j2⟩:=hc i y w h1 h2;have my:=AJ h1;obtain ⟨m,_,lm⟩:=I.loc;obtain ⟨u',ru,lk⟩:=lm j y w j1 j2 (.inr (.inl (S.out y my)));refine ⟨u',ru, .inr ⟨.inr (S.fr y my),?_⟩⟩;obtain ⟨c,ec⟩:=S.has y my;rcases lk with ⟨k,_⟩ | ⟨_,c',e',ce⟩
    . have:=S.out y my;have k':X.env.scope.names.lookup y=some .local:=k;rw [this] at k'
      cases k'
    . rw [S.cells y c ec] at e'
      cases e'
      obtain ⟨o,ho,hd⟩:=ce;exact ⟨c,ec,o,hk _ _ ho,hd⟩
 . obtain ⟨w,o,ho,hd⟩:=I.cell y c (S.cells y c h);exact ⟨w,o,hk _ _ ho,hd⟩
 . show σ'.length=(x::ys).length;rw [hl];rfl
theorem h9 {pins : List (Addr × Obj)} {σ σ' : L2.St} {H : Hp} {s : Shared} {params : Arguments} {body : Expr} {sc : Scope} {cl : List (Str × Addr)} {x : Str} {ys : List Str} {f c : Addr} {oc : Obj} {pm ctv u : Value} {v : V} {Q : VK} {tb : LB -> TE}
 (I:L2.Inv X pins σ H s) (hh:X.A.handled=none) (room:X.A.in1.depth<recursionLimit) (S:LamSc X sc cl x ys) (r:RelV v u) (hf:H f=some (cR f (NO X params body sc cl pm c ctv))) (hco:H c=some (.frz oc (.own 0))) (hre:∃vs y,oc.data = .fields vs/\vs[1]? = some y)
 (hb:∀(pm ct cd:Value),bindArgs (PySem.W.kla_fn "<lambda>" (X.env.qual ++ "<lambda>") params body sc cl pm cd ct) ⟨[u],[]⟩=pure [(x,u)])
 (hl:σ'.length=ys.length+1) (h0:σ'[0]? = some (some v)) (hc:∀(i:Nat) y w,ys[i]? = some y->σ'[i+1]? = some (some w)->∃j:Nat,X.N[j]? = some y/\σ[j]? = some (some w))
 (hB:∀b:LB,PE (KS X (x::ys) sc cl b) body (tb b)) (ht:∀b:LB,tb b σ' H Q) :
 wpAny (model X.prog X.w) X.A.in1 (call (.ref f) [u]) (L2.EP X pins σ Q) (fun _ _=>False) s:=by
 obtain ⟨ho,_,_⟩:=I.hok f _ hf;have ho:s.heap.get? f=some (NO X params body sc cl pm c ctv):=ho;have hoc:s.heap.get? c=some oc:=(I.hok c _ hco).1;obtain ⟨vs,y,hd,hv⟩:=hre;refine wpAny_call (codeAny_of_tree ?_);show wpAny _ X.A.in1.in1 (callAny (.ref f) ⟨[u],[]⟩) _ _ s;simp only [callAny];refine A5 (wpAny_load ho ?_);simp only [callFunction,S.co,S.gen]
 have rest : ∀ comp : Str, wpAny (model X.prog X.w) X.A.in1.in1 (do
  let env <-newFunctionEnv sc mainGlobals cl (<-bindArgs (PySem.W.kla_fn "<lambda>" (X.env.qual ++ "<lambda>") params body sc cl pm (.ref c) ctv) ⟨[u],[]⟩) (comp ++ ".<locals>.") (some f) (.ref c) none builtinsNs
  enterFrame
  again (.expr body env)) (fun fin s'=>match fin with | .done f=>(match (Except.ok f:Result) with | .ok (.ret v)=>L2.EP X pins σ Q v s' | .ok _=>False | .error e=>False) | .again c'=>c'.quiet=true/\codeAny (model X.prog X.w) X.A.in1 c' (fun r s'=>match r with | .ok (.ret v)=>L2.EP X pins σ Q v s' | .ok _=>False | .error e=>False) s') (fun e s'=>False) s:=fun comp=>by
  rw [hb];refine A5 (AR ?_);refine A5 (wpAny_newFunctionEnv S.nocell (fun z hz=> ?_) (fun h₁ hns hsb=> ?_) S.kind)
  . rw [AD.mp hz];exact S.par
  have hk₁:∀b o,s.heap.get? b=some o->h₁.get? b=some o:=fun b o e=>hsb.extBut b o (D9 (AU e)) (A3 _ e);refine A5 (wpAny_enterFrame (I.nolimit.keeps hk₁) (by exact room) (AR ⟨rfl,?_⟩));have J:=mU (q:=comp) (f:=f) (cd:= .ref c) (tk:=s.toks+1) I hh S r hns hk₁ hl h0 hc;refine PySem.W.kla_codeExpr (FN (hB ⟨comp,f, .ref c,s,H⟩ [] _ σ' H Q J (ht _)) (fun w s' he=> ?_) fun _ _ z=>z.elim);obtain ⟨v',H',J',rv,q⟩:=he;exact I.after ⟨v',H',J'.os,J'.bare,J'.base,J'.hok,rv,q⟩
 refine A5 (m:=field (.ref c) 1) (TY hoc hd hv ?_)
 cases y <;> exact A5 (AR (rest _))
end Tf
namespace Dm
open PySem PySem.Spec PyProof.Rows L2 Tf
section
variable {X:Cx} {a:Expr} {ta:TE} {p1 p2 pos pos2:Pos}
end
def aK:Sl->Option Int
 | .val (.int n)=>some n
 | _=>none
theorem XE{s:Sl}{n:Int}(h:aK s=some n):s = .val (.int n):=by
 unfold aK at h
 split at h
 . cases h;rfl
 . cases h
section
variable {K:PySem.W.Frag} {R:Rl} [RelOk K R]
end
section
variable {X:Cx} {R:Rl} [RelOk X.K R] {a:Expr} {p1 p2 pos pos2:Pos} {fa:En->Option Sl}
end
end Dm
namespace Tf
open PySem PySem.Spec PyProof.Rows L2
def oO:V->Value
 | .ref a=> .ref a
 | _=> .none
theorem QU:∀ {vs:List V} {its:List Value},(∀v ∈ vs,∃a,v = .ref a)->Vals vs its->its=vs.map oO
 | [],_,_, .nil=>rfl
 | v::vs,_,h, .cons r rs=>by
  obtain ⟨a,rfl⟩:=h v BU
  cases r
  rw [CU,QU (fun v hv=>h v (B6 _ hv)) rs];rfl
variable {X:Cx}
end Tf
namespace Dm
open PySem PySem.Spec PyProof.Rows L2 Tf
theorem MU{K:PySem.W.Frag}{H:Hp}:∀ {vs:List V} {ds:List PyData} {i:Nat} {v:V},Reps K H vs ds->vs[i]? = some v->∃d,ds[i]? = some d/\Rep K H v d
 | _,_,0,_, .cons h t,e=>by cases e;exact ⟨_,rfl,h⟩
 | _,_,i+1,_, .cons h t,e=>MU (i:=i) t e
 | _,_,i,_, .nil,e=>by simp at e
section
variable {K:PySem.W.Frag} {R:Rl} [RelOk K R]
end
section
variable {X:Cx} {R:Rl} [RelOk X.K R]
end
end Dm
namespace Tf
open PySem PySem.Spec PyProof.Rows L2
def GreatK(n:Nat)(kf:Nat->Int)(i:Nat):Prop:=∀j,j<n->kf j<=kf i/\(j<i->kf j<kf i)
def MT(K:PySem.W.Frag)(te:TE)(js:List Nat)(tb:LB->TE):TE:=fun σ H Q=>te σ H fun v H1=>∃a vs,v = .ref a/\vs ≠ []/\(∀v ∈ vs,∃b,v=V.ref b) /\
 ∀f c oc fo H2,Made H1 H2 f c oc fo->∃(kf:Nat->Int) (G:Hp->Prop),G H2/\(∀H3,G H3->Same H2 H3)/\(∀H3,G H3->SqL K H3 a vs) /\
  (∀(i:Nat) v,vs[i]? = some v->∀H3,G H3->∀L,tb L (some v::js.map fun j=>(σ[j]?).join) H3 fun w H4=>w = .int (kf i)/\G H4) /\
  ∀(i:Nat) v H3,vs[i]? = some v->GreatK vs.length kf i->G H3->Q v H3
variable {X:Cx}
theorem oG {pins : List (Addr × Obj)} {σ : L2.St} {l q It S : Addr} {us : List Value} (kf : Nat -> Int) (G : Hp -> Prop) (hh : X.A.handled = none)
 (hl:∀pins1 s1 H1,L2.Inv X pins1 σ H1 s1->G H1->s1.heap.IsList l us.toArray) (hlI:l≠It) (hSI:S≠It)
 (turn:∀(i:Nat) (u:Value),us[i]? = some u->∀pins1 s1 H1,L2.Inv X pins1 σ H1 s1->G H1->wpAny (model X.prog X.w) X.A.in1 (call (.ref q) [u]) (L2.EP X pins1 σ (fun v H2=>v = .int (kf i)/\G H2)) (fun _ _=>False) s1)
 {R:Result->Shared->Prop} (hR:∀(i:Nat) u s1 H1,us[i]? = some u->GreatK us.length kf i->L2.Inv X pins σ H1 s1->G H1->R (.ok (.ret u)) s1) :
 ∀(r j i:Nat) (s:Shared) (H:Hp) (vb:Value) (tb:Tok) (c:Nat),us.length - (j+1)=r->j+1<=us.length->L2.Inv X pins σ H s->G H->KM X pins H S->KM X pins H It ->
   s.heap.get? S=some (seqObj "list" #[vb, .int (kf i) tb] c)->s.heap.IsListIter It l (j+1)->us[i]? = some vb->i<=j->(∀j',j'<=j->kf j'<=kf i/\(j'<i->kf j'<kf i)) ->
   codeAny (model X.prog X.w) X.A (.builtin "max.loop" ⟨[.ref It, .ref q, .ref S],[]⟩) R s:=by
 have hname:(toString "max" ++ toString ".loop" : String) = "max.loop" :=by decide
 have W:=Walks.list (prog:=X.prog) (w:=X.w) (A:=X.A.in1) hh It l hlI us.toArray;have hsz:us.toArray.size=us.length:=AK ..;intro r
 induction r with
 | zero=>
  intro j i s H vb tb c hr hj I g fS fI eS hit hvb hij hbest;have hin:j+1=us.length:=by omega
  refine QI N6 ?_;rw [KD EM _];show wpAny _ X.A.in1 (seqItems? (.ref S) >>= _) _ _ _;refine A5 (FP eS rfl ?_);show wpAny _ X.A.in1 (tryCatch (pyNext (.ref It)) _ >>= _) _ _ _;refine A5 (J8 (W.done _ _ _ ⟨by rw [hsz, <-hin];exact hit,hl _ _ _ I g⟩ fun h' tk' hk' => ?_));have I1:L2.Inv X pins σ H {s with heap:=h',toks:=tk' }:=HX fI I fun b o hb e=>hk' b o (fun z=>hb (AD.mp z)) e;have eS':=hk' S _ (by simpa using hSI) eS;show wpAny _ X.A.in1 (updateSeq S (fun _=> #[]) >>= _) _ _ _;refine A5 ?_;refine rC eS' rfl (A5 (KE (AR ?_)));refine hR i vb _ H hvb (fun j' hj'=>hbest j' (by omega)) (HX fS I1 (t':=tk') fun b o hb e=> ?_) g;show (h'.update S _).get? b=some o;rw [WB _ _ _ _ hb]
  exact e
 | succ r ih=>
  intro j i s H vb tb c hr hj I g fS fI eS hit hvb hij hbest;have hlt:j+1<us.length:=by omega
  refine QI N6 ?_;rw [KD EM _];show wpAny _ X.A.in1 (seqItems? (.ref S) >>= _) _ _ _;refine A5 (FP eS rfl ?_);show wpAny _ X.A.in1 (tryCatch (pyNext (.ref It)) _ >>= _) _ _ _;refine A5 (J8 (W.item (j+1) _ _ _ (by rw [hsz];exact hlt) ⟨hit,hl _ _ _ I g⟩ fun v h' tk' hP hst' hk' => ?_));have hv:us[j+1]? = some v:=by simpa using hP
  obtain ⟨oI,hoI,hoc,hod⟩:=id hst'.1;have I1:L2.Inv X pins σ H {s with heap:=h',toks:=tk' }:=HX fI I fun b o hb e=>hk' b o (fun z=>hb (AD.mp z)) e;have eS':=hk' S _ (by simpa using hSI) eS
  have I2:L2.Inv X (pins ++ [(S,seqObj "list" #[vb, .int (kf i) tb] c),(It,oI)]) σ H {s with heap:=h',toks:=tk' }:=I1.pins_of fun p hp=>by
   rcases CN.mp hp with z | z
   . exact I1.pin p (AM _ z)
   . rcases AZ.mp z with rfl | z
     . exact SF fS eS' (fun v e=>by cases e)
     . rw [AD.mp z];exact SF fI hoI (fun v e=>by rw [hod] at e;cases e)
  show wpAny _ X.A.in1 (tryCatch (holding [v] (call (.ref q) [v])) _ >>= _) _ _ _;refine A5 (J8 (GV (FN (turn (j+1) v hv _ _ _ I2 g) (fun x s2 he=> ?_) fun _ _ hF=>hF.elim)));obtain ⟨x',H2,I3,rx,rfl,g2⟩:=he;obtain ⟨t2,rfl⟩:=(show ∃t,x=Value.int (kf (j+1)) t from rx);have pS:=I3.pin (S,seqObj "list" #[vb, .int (kf i) tb] c) (AM _ (AM _ (.head _)));have pI:=I3.pin (It,oI) (AM _ (AM _ (.tail _ (.head _))));have I4:L2.Inv X pins σ H2 s2:=I3.unpinned;have fS2:=ZP fS pS.2.1;have fI2:=ZP fI pI.2.1;have hit2:s2.heap.IsListIter It l (j+1+1):=⟨oI,pI.1,hoc,hod⟩;show wpAny _ X.A.in1 (tryCatch (holding [v, .int (kf (j+1)) t2] (richCompare .Gt (.int (kf (j+1)) t2) (.int (kf i) tb) >>= _)) _ >>= _) _ _ _;refine A5 (J8 (GV (A5 (show wpAny _ X.A.in1 (compareOp .Gt (.int (kf (j+1)) t2) (.int (kf i) tb)) _ _ _ from PyProof.Rows.gt_int ?_))));refine A5 (GV (FW ?_));refine A5 (KE (AR ?_))
  by_cases hb':kf i<kf (j+1)
  . simp only [hb',decide_true,GW];refine A5 ?_;refine rC pS.1 rfl (A5 (KE ?_));rw [hname];obtain ⟨c2,hc2⟩:∃c2,(s2.heap.update S (Obj.mapSeq fun _=> #[v, .int (kf (j+1)) t2])).get? S=some (seqObj "list" #[v, .int (kf (j+1)) t2] c2):=⟨_,get?_update_seq pS.1 fun _=> #[v, .int (kf (j+1)) t2]⟩
    have keep:∀b o,b≠S->s2.heap.get? b=some o->(s2.heap.update S (Obj.mapSeq fun _=> #[v, .int (kf (j+1)) t2])).get? b=some o:=fun b o hb e=>by
     rw [WB _ _ _ _ hb];exact e
    refine AR ⟨KB EM _,ih (j+1) (j+1) _ H2 v t2 c2 (by omega) hlt (HX fS2 I4 (t':=s2.toks) keep) g2 fS2 fI2 hc2 ⟨oI,keep _ _ hSI.symm pI.1,hoc,hod⟩ hv (AA _) fun j' hj' => ?_⟩
    by_cases e:j'=j+1
    . subst e;exact ⟨by omega,fun _=>by omega⟩
    . have hb1:=(hbest j' (by omega)).1;exact ⟨by omega,fun _=>by omega⟩
  . simp only [hb',decide_false,yX,dE];refine A5 (KE ?_);rw [hname];refine AR ⟨KB EM _,ih (j+1) i _ H2 vb tb c (by omega) hlt I4 g2 fS2 fI2 pS.1 hit2 hvb (by omega) fun j' hj' => ?_⟩
    by_cases e:j'=j+1
    . subst e;exact ⟨by omega,fun _=>by omega⟩
    . exact hbest j' (by omega)
theorem uL {pins : List (Addr × Obj)} {σ : L2.St} {H : Hp} {s : Shared} {l q : Addr} {us : List Value} {Q : Value -> Shared -> Prop} {E : Value -> Shared -> Prop} (kf : Nat -> Int) (G : Hp -> Prop) (hh : X.A.handled = none) (I : L2.Inv X pins σ H s) (g : G H)
 (hl:∀pins1 s1 H1,L2.Inv X pins1 σ H1 s1->G H1->s1.heap.IsList l us.toArray) (hne:0<us.length)
 (turn:∀(i:Nat) (u:Value),us[i]? = some u->∀pins1 s1 H1,L2.Inv X pins1 σ H1 s1->G H1->wpAny (model X.prog X.w) X.A.in1 (call (.ref q) [u]) (L2.EP X pins1 σ (fun v H2=>v = .int (kf i)/\G H2)) (fun _ _=>False) s1)
 (hQ:∀(i:Nat) u s1 H1,us[i]? = some u->GreatK us.length kf i->L2.Inv X pins σ H1 s1->G H1->Q u s1) :
 wpAny (model X.prog X.w) X.A (call (.builtin "max") [.ref l] [(Str.ofString "key", .ref q)]) Q E s:=by
 have hname:(toString "max" ++ toString ".loop" : String) = "max.loop" :=by decide
 have hls:=hl _ _ _ I g;obtain ⟨ol,hol,_⟩:=id hls;have hll:l<s.heap.objs.size:=AU hol;refine kmk_tree PySem.F.kind_max PySem.F.plain_max PySem.F.entry_max (kmk_max_key _ _) ?_;show wpAny _ X.A.in1 (Builtin.Builtins.bindParams "max" ["key","default"] 0 ⟨[],[(Str.ofString "key", .ref q)]⟩ >>= _) _ _ s;refine A5 (A07 (show Builtin.Builtins.bindParams "max" ["key","default"] 0 ⟨[],[(Str.ofString "key", .ref q)]⟩=pure [some (.ref q),none] from rfl) ?_);refine A5 (AR ?_);refine A5 (dB hls ?_);refine A5 (wpAny_newList ?_ (DL _));rw [hname];have hS:(s.heap.push {cls:= .type "list_iterator",data:= .fields #[.ref l, .int 0 0]}).objs.size=s.heap.objs.size+1:=size_push' ..;refine AR ⟨KB EM _,?_⟩
 have gI:((s.heap.push {cls:= .type "list_iterator",data:= .fields #[.ref l, .int 0 0]}).push (seqObj "list" #[] 0)).get? s.heap.objs.size=some {cls:= .type "list_iterator",data:= .fields #[.ref l, .int 0 0]} :=
  A3 _ (AW _ rfl)
 have gS:((s.heap.push {cls:= .type "list_iterator",data:= .fields #[.ref l, .int 0 0]}).push (seqObj "list" #[] 0)).get? (s.heap.push {cls:= .type "list_iterator",data:= .fields #[.ref l, .int 0 0]}).objs.size=some (seqObj "list" #[] 0):=AW _ rfl;rw [hS] at gS ⊢
 have keep0:∀b o,s.heap.get? b=some o->((s.heap.push {cls:= .type "list_iterator",data:= .fields #[.ref l, .int 0 0]}).push (seqObj "list" #[] 0)).get? b=some o:=fun b o e=>A3 _ (A3 _ e);have fI:KM X pins H s.heap.objs.size:=I.fpOk (AA _) (I.hok.fresh (AA _));have fS:KM X pins H (s.heap.objs.size+1):=I.fpOk (L7 _) (I.hok.fresh (L7 _));have hlI:l≠s.heap.objs.size:=D9 hll;have hSI:s.heap.objs.size+1≠s.heap.objs.size:=by omega
 have I0:L2.Inv X pins σ H {s with heap:=(s.heap.push {cls:= .type "list_iterator",data:= .fields #[.ref l, .int 0 0]}).push (seqObj "list" #[] 0),toks:=s.toks}:=I.kept keep0;generalize s.heap.objs.size=It at gI gS fI fS hlI hSI
 have W:=Walks.list (prog:=X.prog) (w:=X.w) (A:=X.A.in1) hh It l hlI us.toArray;have hsz:us.toArray.size=us.length:=AK ..;refine QI N6 ?_;rw [KD EM _];show wpAny _ X.A.in1 (seqItems? (.ref _) >>= _) _ _ _;refine A5 (FP gS rfl ?_);show wpAny _ X.A.in1 (tryCatch (pyNext (.ref It)) _ >>= _) _ _ _;refine A5 (J8 (W.item 0 _ _ _ (by rw [hsz];exact hne) ⟨⟨_,gI,rfl,rfl⟩,hl _ _ _ I0 g⟩ fun v h' tk' hP hst' hk' => ?_));have hv:us[0]? = some v:=by simpa using hP
 obtain ⟨oI,hoI,hoc,hod⟩:=id hst'.1;have I1:=HX fI I0 (h':=h') (t':=tk') fun b o hb e=>hk' b o (fun z=>hb (AD.mp z)) e;have eS':=hk' (It+1) _ (by simp) gS
 have I2:L2.Inv X (pins ++ [(It+1,seqObj "list" #[] 0),(It,oI)]) σ H {s with heap:=h',toks:=tk' }:=I1.pins_of fun p hp=>by
  rcases CN.mp hp with z | z
  . exact I1.pin p (AM _ z)
  . rcases AZ.mp z with rfl | z
    . exact SF fS eS' (fun v e=>by cases e)
    . rw [AD.mp z];exact SF fI hoI (fun v e=>by rw [hod] at e;cases e)
 show wpAny _ X.A.in1 (tryCatch (holding [v] (call (.ref q) [v])) _ >>= _) _ _ _;refine A5 (J8 (GV (FN (turn 0 v hv _ _ _ I2 g) (fun x s2 he=> ?_) fun _ _ hF=>hF.elim)));obtain ⟨x',H2,I3,rx,rfl,g2⟩:=he;obtain ⟨t2,rfl⟩:=(show ∃t,x=Value.int (kf 0) t from rx);have pS:=I3.pin (It+1,seqObj "list" #[] 0) (AM _ (AM _ (.head _)));have pI:=I3.pin (It,oI) (AM _ (AM _ (.tail _ (.head _))));have I4:L2.Inv X pins σ H2 s2:=I3.unpinned;have fS2:=ZP fS pS.2.1;have fI2:=ZP fI pI.2.1;obtain ⟨c2,hc2⟩:∃c2,(s2.heap.update (It+1) (Obj.mapSeq fun _=> #[v, .int (kf 0) t2])).get? (It+1)=some (seqObj "list" #[v, .int (kf 0) t2] c2):=⟨_,get?_update_seq pS.1 fun _=> #[v, .int (kf 0) t2]⟩
 have keep:∀b o,b≠It+1->s2.heap.get? b=some o->(s2.heap.update (It+1) (Obj.mapSeq fun _=> #[v, .int (kf 0) t2])).get? b=some o:=fun b o hb e=>by
  rw [WB _ _ _ _ hb];exact e
 show wpAny _ X.A.in1 (updateSeq (It+1) (fun _=> #[v, .int (kf 0) t2]) >>= _) _ _ _;refine A5 ?_;refine rC pS.1 rfl ?_;rw [hname];refine AR ⟨KB EM _,oG kf G hh hl hlI hSI turn hQ _ 0 0 _ H2 v t2 c2 rfl hne (HX fS2 I4 (t':=s2.toks) keep) g2 fS2 fI2 hc2 ⟨oI,keep _ _ (D9 (IV It)) pI.1,hoc,hod⟩ hv (AA _) fun j' hj' => ?_⟩;have e:j'=0:=by omega
 subst e;exact ⟨by omega,fun h=>absurd h (G9 _)⟩
theorem XN {k : Nat} {x y : Str} {params : Arguments} {body e : Expr} {sc : Scope} {p pos pk lpos : Pos} {c P : Addr} {clos : List (Str × Addr)} {j : Nat} {te : TE} {tb : LB -> TE} (hcd : X.env.code = .ref c) (C : PySem.W.CodeHd X.base c P) (hp : P ∈ J6 X.K) (bm : BM X.base X.mg) (hdef : defaultsOf params X.env = ([], [])) (hcl : closureFor sc X.env = pure clos)
 (S:LamSc X sc clos x [y]) (hbd:∀(u pm ct cd:Value),bindArgs (PySem.W.kla_fn "<lambda>" (X.env.qual ++ "<lambda>") params body sc clos pm cd ct) ⟨[u],[]⟩=pure [(x,u)]) (hj:X.N[j]? = some y) (hr:Room (k+1) X.A) (h:PE X e te) (hB:∀L,PE (KS X [x,y] sc clos L) body (tb L))
 (hv:bootBuiltins "max" = some (.builtin "max")) (hm:X.mg "max" = none) (hg:Gl X "max")
 (he:starEach [e] X.env=(false,eval e X.env)::starEach [] X.env) (hpl:(backTo pos (starEach [e] X.env)).any (·.1)=false) (hkw:(backToKw pos (keywordEach [⟨some "key", .Lambda params body sc lpos,pk⟩] X.env)).any (·.1.isNone)=false) (hall:(backToKw pos (keywordEach [⟨some "key", .Lambda params body sc lpos,pk⟩] X.env)).all (·.1.isSome)=true) (hks:(backToKw pos (keywordEach [⟨some "key", .Lambda params body sc lpos,pk⟩] X.env)).filterMap (·.1) = [Str.ofString "key"]) :
 PE X (.Call (.Name "max" p) [e] [⟨some "key", .Lambda params body sc lpos,pk⟩] pos) (MT X.K te [j] tb):=by
 intro pins s σ H Q I h0;refine FO (IF I hg hm hv ?_ (by decide) (by decide));refine callWith_builtin_kwB hpl hkw (evalArgs_kw2 hall ?_ he);refine thn ((HH h KJ he:PA X [e] (JV te tNil)) pos pins s σ H (fun us' H1=>match us' with | [v]=>(MT X.K (tC v) [j] tb) σ H1 Q | _=>False) I h0) fun us s1 hA=> ?_;obtain ⟨vs1,H1,I1,r,q⟩:=hA
 obtain ⟨v,rfl⟩:∃v,vs1 = [v]:=by
  match vs1,q with
  | [v],_=>exact ⟨v,rfl⟩
 replace q:(MT X.K (tC v) [j] tb) σ H1 Q:=q
 obtain ⟨u,rfl,ru⟩:=K0 r;obtain ⟨a,vs,rfl,hne,hrf,q⟩:=q
 cases ru
 refine thn (pM (nm:=some "key") (kpos:=pk) (tR (pos:=lpos) (body:=body) hcd C hp bm hdef hcl) vJ pos pins s1 σ H1 (fun ws H2=>∃f c oc pm ctv,ws = [.ref f]/\Made H1 H2 f c oc (NO X params body sc clos pm c ctv)) I1 ?_) fun ws s2 hB2=> ?_
 . intro f c oc pm ctv H' M;exact ⟨f,c,oc,pm,ctv,rfl,M⟩
 obtain ⟨zs,H2,I2,rz,f,c,oc,pm,ctv,rfl,M⟩:=hB2;obtain ⟨w',rfl,rw'⟩:=K0 rz
 cases rw'
 rw [hks];obtain ⟨kf,G,g,hS,hl,turn,fin⟩:=q f c oc _ H2 M;have lm:(vs.map oO).length=vs.length:=A9 _
 have at_:∀ {i:Nat} {u:Value},(vs.map oO)[i]? = some u->∃b,vs[i]? = some (.ref b)/\u = .ref b:=fun {i u} hu=>by
  rw [B8] at hu
  obtain ⟨v,ev,rfl⟩:=AQ.mp hu;obtain ⟨b,rfl⟩:=hrf v (AJ ev);exact ⟨b,ev,rfl⟩
 show wpAny _ X.A (call (.builtin "max") [.ref a] [(Str.ofString "key", .ref f)]) _ _ _;refine uL (us:=vs.map oO) kf G hr.hd I2 g (fun pins1 s3 H3 J g3=> ?_) (by rw [lm];exact yS.mpr hne) (fun i u hu pins1 s3 H3 J g3=> ?_) fun i u s3 H3 hu hb J g3=> ?_
 . obtain ⟨its,rv,p1,_⟩:=J.list (hl H3 g3);rw [<-QU hrf rv];exact p1.isList
 . obtain ⟨b,eb,rfl⟩:=at_ hu;refine h9 (v:= .ref b) (tb:=tb) (σ':=some (.ref b) :: [j].map fun j=>(σ[j]?).join) J hr.hd (by have:=hr.in1.depth;exact this) S rfl (hS H3 g3 _ _ M.fn) (hS H3 g3 _ _ M.code) M.rec_ (fun pm ct cd=>hbd _ pm ct cd) rfl rfl (fun i' y' w hy hw=> ?_) hB (turn i _ eb H3 g3)
   cases i' with
   | zero=>
    cases hy
    refine ⟨j,hj,?_⟩;have hw:some ((σ[j]?).join)=some (some w):=hw;have hw:=B9 hw
    cases e:σ[j]? with
    | none=>rw [e] at hw;cases hw
    | some o=>rw [e] at hw;cases hw;rfl
   | succ i'=>simp at hy
 . obtain ⟨b,eb,rfl⟩:=at_ hu;rw [lm] at hb
   exact ⟨.ref b,H3,J,rfl,fin i _ H3 eb hb g3⟩
end Tf
namespace Dm
open PySem PySem.Spec PyProof.Rows L2 Tf
def bN(j:Nat)(ρ:En):Option Sl:=match (ρ[j]?).join with
 | some (.val d)=>some (.val d)
 | _=>none
def QP(fb:En->Option Sl)(c:Option Sl):List PyData->Option (List Int)
 | []=>some []
 | k::ks=>((fb [some (.val k),c]).bind aK).bind fun n=>(QP fb c ks).map (n :: ·)
def IC(ks:List Int):Nat:=ks.findIdx fun k=>ks.all fun m=>decide (m<=k)
theorem cW{ks:List Int}{i:Nat}(hi:i<ks.length)(h:Tf.GreatK ks.length (fun j=>ks.getD j 0) i):IC ks=i:=by
 have g:∀j (hj:j<ks.length),ks.getD j 0=ks[j]:=fun j hj=>by simp [hj]
 unfold IC;rw [List.findIdx_eq hi];refine ⟨List.all_eq_true.mpr fun m hm=> ?_,fun j hj=> ?_⟩
 . obtain ⟨j,hj,e⟩:=wV.mp hm;have:=(h j hj).1
   dsimp only at this
   rw [g i hi,g j hj,e] at this
   exact D5 this
 . have:=(h j (by omega)).2 hj
   dsimp only at this
   rw [g i hi,g j (by omega)] at this
   refine GJ.mpr fun c=> ?_;have:=AL (EG.mp c ks[i] (WC hi));omega
theorem R9{fb:En->Option Sl}{c:Option Sl}:∀ {ks:List PyData} {ns:List Int},QP fb c ks=some ns->ns.length=ks.length/\∀(i:Nat) k,ks[i]? = some k->fb [some (.val k),c]=some (.val (.int (ns.getD i 0)))
 | [],ns,h=>by cases h;exact ⟨rfl,fun i k e=>by simp at e⟩
 | k::ks,ns,h=>by
  obtain ⟨n,h1,h⟩:=A0.mp h;obtain ⟨ns',h2,rfl⟩:=AQ.mp h;obtain ⟨s,hs,h1⟩:=A0.mp h1;obtain ⟨l,g⟩:=R9 h2;refine ⟨by simp [l],fun i k' e=> ?_⟩
  cases i with
  | zero=>
   cases e
   rw [hs,XE h1]
   rfl
  | succ i=>exact g i k' e
section
variable {K:PySem.W.Frag}
theorem jY{H0 H H':Hp}{f c:Addr}{oc fo:Obj}(s:Same H0 H)(M:Made H H' f c oc fo):Ext H0 H H0 H':=by
 obtain ⟨H1,h1,hn,rfl⟩:=M.same;rcases h1 with rfl | ⟨h1n,rfl⟩
 . exact Ext.alloc s hn _
 . have x1:=Ext.alloc s h1n (.frz oc (.own 0));exact x1.trans (Ext.alloc x1.s1 hn _)
end
end Dm
namespace Tf
open PySem PySem.Spec PyProof.Rows L2
theorem MW:∀ {us:List Value} {ns:List Int},Vals (ns.map V.int) us->IntsAre us ns
 | _,[],r=>by cases r;exact .nil
 | _,n::ns,r=>by
  cases r with
  | cons r1 r2=>
   obtain ⟨t,q⟩:=(show ∃t,_=Value.int n t from r1);subst q;exact .cons n t (MW r2)
variable {X:Cx}
end Tf
namespace Dm
open PySem PySem.Spec PyProof.Rows L2 Tf
section
variable {K:PySem.W.Frag}
end
end Dm
namespace Dm
open PySem PySem.Spec PyProof.Rows L2 Tf
section
variable {K:PySem.W.Frag} {R:Rl} [RelOk K R]
def yG(K:PySem.W.Frag)(te:TE):TT:=fun σ H Q=>te σ H fun x H1=>∃(p:Addr) (xs:List V),x = .ref p/\SqL K H1 p xs/\Q (!xs.isEmpty) H1
def O6(f:En->Option Sl):En->Option Bool:=fun ρ=>(f ρ).bind fun a=>match a.dat with
 | .list ds=>some (!ds.isEmpty)
 | _=>none
theorem pO{te:TE}{f:En->Option Sl}(h:RP K R te f):RT K R (yG K te) (O6 f):=fun HB σ ρ H0 H s e b hb Q q=>by
 obtain ⟨a,ha,hb⟩:=A0.mp hb;refine h HB σ ρ H0 H s e a ha _ fun v H1 J1 x1 p1=> ?_
 split at hb
 . rename_i ds hd
   cases hb
   obtain ⟨p,vs,rfl,h1,h2⟩:=p1.lst x1.s1 hd;have e2:ds.isEmpty=vs.isEmpty:=by cases h2 <;> rfl
   refine ⟨p,vs,rfl,h1,?_⟩;rw [<-e2];exact q _ _ x1
 . cases hb
end
section
variable {X:Cx} {R:Rl} [RelOk X.K R] {a b e o:Expr} {f fa fb:En->Option Sl} {p pos apos cpos:Pos} {st:Stmt}
theorem oB(h:DP X R e f)(he:∀whole,isTrue e X.env whole=(do let v <-whole;standAt e.pos;holding [v] (truthy v)):=by intro _;rfl):DT X R e (O6 f):=by
 obtain ⟨t,h1,h2⟩:=h;refine ⟨_,?_,pO h2⟩;intro pins s σ H Q I hw;refine isTrue_plain (thn (h1 pins s σ H _ I hw) fun v s1 ⟨x,H1,I1,r1,q1⟩ => ?_) (he _);obtain ⟨p,xs,rfl,hx,q⟩:=q1;exact uR pins s1 σ H1 (.ref p) v Q I1 r1 ⟨_, .inl ⟨xs,hx,rfl⟩,q⟩
end
theorem hJ{P:Program}{w:World}{K:PySem.W.Frag}{mg:Str->Option Value}{base:Heap}{k:Nat}{f:Addr}{fd:FuncData}{ps:List Str}:FnOk P w K mg base CX0 k f fd ps (spD K fun _=>none) :=
 ⟨fun vs H Q E ⟨_,_,_,_,_,h,_⟩=>(nomatch h),fun A outer s H args us vs Q E _ _ _ _ ⟨_,_,_,_,_,h,_⟩=>(nomatch h)⟩
end Dm
namespace Tf
open PySem PySem.Spec PyProof.Rows L2
def qX(ts:List Addr):Obj:={cls:= .type "tables",data:= .fields (ts.map Value.ref).toArray}
def BK(K:PySem.W.Frag)(ts:List Addr):PySem.W.Frag:=K.filter (fun p=>decide (p.1 ∉ ts)) ++ [(mainGlobals,qX ts)]
def tbK(names:List Str)(K:PySem.W.Frag):List (Addr×Addr):=names.filterMap (PySem.W.tabIn K)
theorem PP(K:PySem.W.Frag)(ts:List Addr):J6 (BK K ts)=ts:=by
 have e:(BK K ts).getLast? = some (mainGlobals,qX ts):=by unfold BK;simp
 unfold J6;rw [e];show ((ts.map Value.ref).toArray.toList.filterMap _)=ts;rw [List.toList_toArray,List.filterMap_map];exact List.filterMap_some
theorem KN{ts:List Addr}{a:Addr}(h:a ∉ ts):∀K:PySem.W.Frag,List.lookup a (K.filter fun p=>decide (p.1 ∉ ts))=List.lookup a K
 | []=>rfl
 | (b,o)::K=>by
  have ih:=KN h K;rw [List.filter_cons]
  by_cases hb:b ∈ ts
  . have ne : (a == b) = false := by
     refine GJ.mpr fun z=> ?_;have:=E9.mp z;exact h (this ▸ hb)
    rw [C9 (by simp [hb]),ih,List.lookup,ne]
  . rw [CQ (by simp [hb]),List.lookup,List.lookup]
    cases a==b
    . exact ih
    . rfl
theorem QV{ts:List Addr}{a:Addr}(h:a ∈ ts):∀K:PySem.W.Frag,List.lookup a (K.filter fun p=>decide (p.1 ∉ ts))=none
 | []=>rfl
 | (b,o)::K=>by
  have ih:=QV h K;rw [List.filter_cons]
  by_cases hb:b ∈ ts
  . rw [C9 (by simp [hb]),ih]
  . rw [CQ (by simp [hb]),List.lookup]
    have ne:(a==b)=false:=by
     refine GJ.mpr fun z=> ?_;have:=E9.mp z;exact hb (this ▸ h)
    rw [ne];exact ih
theorem IE{K:PySem.W.Frag}{ts:List Addr}{a:Addr}{o:Obj}(h:a ∉ ts)(e:K.lookup a=some o):(BK K ts).lookup a=some o:=by
 unfold BK;rw [List.lookup_append,KN h,e];rfl
theorem uI{K:PySem.W.Frag}{ts:List Addr}{a:Addr}{o:Obj}(hm:∃o,K.lookup mainGlobals=some o)(hn:mainGlobals ∉ ts)(e:(BK K ts).lookup a=some o):K.lookup a=some o/\a ∉ ts:=by
 unfold BK at e
 rw [List.lookup_append] at e
 by_cases ha:a ∈ ts
 . rw [QV ha] at e
   have ne:(a==mainGlobals)=false:=by
    refine GJ.mpr fun z=> ?_;have:=E9.mp z;exact hn (this ▸ ha)
   simp [List.lookup,ne] at e
 . refine ⟨?_,ha⟩;rw [KN ha] at e
   by_cases hg:a=mainGlobals
   . subst hg;obtain ⟨o',ho'⟩:=hm;rw [ho'] at e
     simpa [ho'] using e
   . have ne:(a==mainGlobals)=false:=GJ.mpr fun z=>hg (E9.mp z)
     cases hk:K.lookup a with
     | none=>rw [hk] at e;simp [List.lookup,ne] at e
     | some o'=>rw [hk] at e;simpa using e
theorem OP{K:PySem.W.Frag}{h:Heap}{ts:List Addr}{a:Addr}{o:Obj}(KX:K.In h)(hT:∀p ∈ ts,h.get? p=some (PySem.W.tabObj #[]))(e:K.lookup a=some o)(hne:o≠PySem.W.tabObj #[]):a ∉ ts:=fun hm=>by
 have e1:=KX a o e;rw [hT a hm] at e1
 exact hne (B9 e1).symm
theorem BG{K:PySem.W.Frag}{h:Heap}{ts:List Addr}{x qual:Str}{st:Stmt}{f:Addr}{fd:FuncData}(KX:K.In h)(hT:∀p ∈ ts,h.get? p=some (PySem.W.tabObj #[]))(F:Fun K x qual st f fd):Fun (BK K ts) x qual st f fd:=by
 obtain ⟨oc,od,kV,doc,pm,an,cdv,ct,osl,rfl,lk,hcd⟩:=F.ex;have l2:=IE (OP KX hT lk (fun z=>by cases z)) lk;refine ⟨⟨oc,od,kV,doc,pm,an,cdv,ct,osl,rfl,l2,?_⟩,?_⟩
 . unfold PySem.W.codeIn at hcd ⊢
   split at hcd
   . rename_i c
     split at hcd
     . rename_i oc' od' vs sl' hc
       have hne:(⟨oc',od', .fields vs,sl'⟩:Obj)≠PySem.W.tabObj #[]:=fun z=>by
        cases z
        simp at hcd
       rw [IE (OP KX hT hc hne) hc];exact hcd
     . cases hcd
   . cases hcd
 . unfold PySem.W.keepIn
   dsimp only
   rw [l2]
theorem bQ {P : Program} {w : World} {K : PySem.W.Frag} {mg mb : Str -> Option Value} {k : Nat} {fa a : Addr} {fd : FuncData} {x : Str} {sp : Sp} {s₁ : Shared} {vs : List Value} {ns : List Int} {tb : List (Addr × Addr)}
 (KX:K.In s₁.heap) (hmain:∃o,K.lookup mainGlobals=some o) (hns:s₁.heap.Ns mainGlobals mg) (hb:s₁.heap.Ns builtinsNs mb) (hbb:∀x:Str,x ≠ "__name__" -> mb x=bootBuiltins x) (hlim:s₁.heap.NoLimit) (hg:s₁.gens = #[])
 (ha:s₁.heap.get? a=some {cls:= .type "list",data:= .seq vs.toArray}) (hi:IntsAre vs ns) (hl:ns.length<=sizeLine) (hr:Room k callerA)
 (hT:∀p ∈ tb,PySem.W.CodeHd s₁.heap p.1 p.2/\s₁.heap.get? p.2=some (PySem.W.tabObj #[])) (hbm:BM s₁.heap mg)
 (F:∀base:Heap,(BK K (tb.map (·.2))).In base->base.Ns mainGlobals mg->(∀p ∈ tb,PySem.W.CodeHd base p.1 p.2)->BM base mg->FnOk P w (BK K (tb.map (·.2))) mg base CX0 k fa fd [x] sp) (hbind:∀(s:Shared) (u:Value),BindsTo s fd ⟨[u],[]⟩ [(x,u)])
 (hsp:∀H:Hp,SqL (BK K (tb.map (·.2))) H a (ns.map V.int)->sp [.ref a] H (fun v _=>v = .bl true) fun _ _ _=>False) :
 codeAny (model P w) callerA (.call (.ref fa) ⟨[.ref a],[]⟩) (fun r s'=>r = .ok (.ret (.bool true))/\OldK s₁.heap s'.heap/\s'.os=s₁.os/\AllBare s'.gens) s₁:=by
 have rv:=QK hi;have lenV:=hi.length
 let ts:=tb.map (·.2)
 have hts:∀p ∈ ts,s₁.heap.get? p=some (PySem.W.tabObj #[]):=fun p hp=>by
  obtain ⟨q,hq,rfl⟩:=BY.mp hp;exact (hT q hq).2
 have nts:∀ {b:Addr} {o:Obj},s₁.heap.get? b=some o->o≠PySem.W.tabObj #[]->b ∉ ts:=fun {b o} e n hm=>by
  rw [hts b hm] at e
  exact n (B9 e).symm
 have hat:a ∉ ts:=nts ha fun z=>by cases z
 have hmt:mainGlobals ∉ ts:=by
  obtain ⟨o,es,ep,e,d,_⟩:=hns;exact nts e fun z=>by rw [z] at d;cases d
 let ao:Obj:={cls:= .type "list",data:= .seq vs.toArray}
 let H:Hp:=fun b=>if b ∈ ts then some (.tbl #[]) else if b=a/\K.lookup a=none then some (.frz ao (.lst (ns.map V.int))) else none
 have Ht:∀ {b:Addr},b ∈ ts->H b=some (.tbl #[]):=fun {b} hm=>CQ hm
 have Hc:∀b,(b ∈ ts/\H b=some (.tbl #[]))\/(b=a/\K.lookup a=none/\H b=some (.frz ao (.lst (ns.map V.int))))\/(H b=none/\b ∉ ts/\(b=a->K.lookup a≠none)):=fun b=>by
  by_cases h1:b ∈ ts
  . exact .inl ⟨h1,Ht h1⟩
  . by_cases h2:b=a/\K.lookup a=none
    . exact .inr (.inl ⟨h2.1,h2.2,(C9 h1).trans (CQ h2)⟩)
    . exact .inr (.inr ⟨(C9 h1).trans (C9 h2),h1,fun z c=>h2 ⟨z,c⟩⟩)
 have hok:HOk P w H s₁.heap:=fun b u e=>by
  rcases Hc b with ⟨h1,h2⟩ | ⟨rfl,h1,h2⟩ | ⟨h1,_,_⟩
  . rw [h2] at e
    cases e
    exact ⟨#[],hts b h1,D4,fun pos v z=>by simp [codeAmong] at z⟩
  . rw [h2] at e
    cases e
    exact ⟨ha,by rw [A9];exact hl,vs,_,rv,ha⟩
  . rw [h1] at e
    cases e
 have free:∀ {b:Addr} {o:Obj},s₁.heap.get? b=some o->o≠PySem.W.tabObj #[]->o≠ao->H b=none:=fun {b o} e n1 n2=>by
  rcases Hc b with ⟨h1,_⟩ | ⟨rfl,_,_⟩ | ⟨h1,_,_⟩
  . exact absurd h1 (nts e n1)
  . rw [ha] at e
    exact absurd (B9 e).symm n2
  . exact h1
 have base_of:∀ {b:Addr} {o:Obj},s₁.heap.get? b=some o->H b=none->(Q6 s₁.heap H).get? b=some o:=fun e n=>gK e n;have nsK:∀ {b:Addr} {m:Str->Option Value},s₁.heap.Ns b m->(Q6 s₁.heap H).Ns b m:=fun {b m} ⟨o,es,ep,e,d,r⟩=>⟨o,es,ep,base_of e (free e (fun z=>by rw [z] at d;cases d) (fun z=>by rw [z] at d;cases d)),d,r⟩
 have hKb:(BK K ts).In (Q6 s₁.heap H):=fun b o e=>by
  obtain ⟨e1,e2⟩:=uI hmain hmt e;refine base_of (KX b o e1) ?_;rcases Hc b with ⟨h1,_⟩ | ⟨rfl,h1,_⟩ | ⟨h1,_,_⟩
  . exact absurd h1 e2
  . rw [h1] at e1;cases e1
  . exact h1
 have hM:Mod (BK K ts) mg (Q6 s₁.heap H):=⟨hKb,nsK hns,⟨mb,nsK hb,hbb⟩,let ⟨mc,h1,h2⟩:=hlim;⟨mc,nsK h1,h2⟩⟩
 have hCb:∀p ∈ tb,PySem.W.CodeHd (Q6 s₁.heap H) p.1 p.2:=fun p hp=>by
  obtain ⟨o,vs',file,tf,flags,tg,inF,text,tt,e,c,r⟩:=(hT p hp).1;exact ⟨o,vs',file,tf,flags,tg,inF,text,tt,base_of e (free e (fun z=>by rw [z] at c;cases c) (fun z=>by rw [z] at c;exact absurd (Value.type.inj c) (by decide))),c,r⟩
 have hBb:BM (Q6 s₁.heap H) mg:=by
  obtain ⟨b,ob,b1,b2,b3,b4,b5,b6⟩:=hbm;exact ⟨b,ob,b1,b2,base_of b3 (free b3 (fun z=>by rw [z] at b4;cases b4) (fun z=>by rw [z] at b4;exact absurd (Value.type.inj b4) (by decide))),b4,b5,b6⟩
 have e0:Env0 P w (BK K ts) mg (Q6 s₁.heap H) callerA [] s₁ H:=⟨rfl,hM,fun b o e=>oY e,qZ (bW _ _),trivial,fun b hb=>absurd (show b ∈ ([]:List Addr) from hb) (by simp),hok, .of_eq hg,fun p hp=>by rw [PP] at hp;exact ⟨_,Ht hp⟩⟩
 have hS:SqL (BK K ts) H a (ns.map V.int):=by
  cases hk:K.lookup a with
  | some o=>
   have e:=KX a o hk;rw [ha] at e
   cases e
   exact .inr ⟨_,vs.toArray,_,IE hat hk,rfl,rfl,rfl,by rw [AK,lenV];exact hl,by simpa using rv⟩
  | none=>exact .inl (.inr ⟨ao,(C9 hat).trans (CQ ⟨rfl,hk⟩)⟩)
 refine dC ((F _ hKb (nsK hns) hCb hBb).run callerA [] s₁ H ⟨[.ref a],[]⟩ [.ref a] [.ref a] _ _ hr e0 (hbind s₁ (.ref a)) (.cons rfl .nil) (hsp H hS)) fun r s' h=> ?_
 cases r with
 | error e=>exact False.elim h
 | ok fl=>
  cases fl with
  | next=>exact False.elim h
  | brk=>exact False.elim h
  | cont=>exact False.elim h
  | ret u=>
   obtain ⟨v,H',os,bare,un,hok',r',q⟩:=h;have q':v = .bl true:=q;subst q';obtain rfl:u=Value.bool true:=r'
   have grown:∀ {b:Addr},b ∈ ts->∃qs,s'.heap.get? b=some (PySem.W.tabObj qs):=fun {b} hm=>by
    obtain ⟨more,e⟩:=un.tbls b _ (Ht hm);obtain ⟨qs,e1,_⟩:=hok' b _ e;exact ⟨qs,e1⟩
   have keep:∀ {b:Addr} {o:Obj},b ∉ ts->s₁.heap.get? b=some o->s'.heap.get? b=some o:=fun {b o} hb' e=>by
    rcases Hc b with ⟨h1,_⟩ | ⟨rfl,_,h2⟩ | ⟨h1,_,_⟩
    . exact absurd h1 hb'
    . have z2:=un.frzs _ _ _ h2;obtain ⟨e2,_⟩:=hok' _ _ z2;rw [ha] at e
      cases e
      exact e2
    . exact un.keep b o e h1 (by intro z;exact absurd (show b ∈ ([]:List Addr) from z) (by simp)) (by simp)
   refine ⟨rfl,⟨fun b o e=> ?_,fun b o e=> ?_⟩,os,bare⟩
   . by_cases hm:b ∈ ts
     . obtain ⟨q,hq,rfl⟩:=BY.mp hm;obtain ⟨qs,e1⟩:=grown hm;rw [hts _ hm] at e
       cases e
       exact .inr (.inl ⟨((hT q hq).1.tab (hT q hq).2).isCodeTable,rfl, #[],qs,rfl,by rw [Array.empty_append];exact e1⟩)
     . exact .inl (keep hm e)
   . by_cases hm:b ∈ ts
     . obtain ⟨qs,e1⟩:=grown hm;exact ⟨_,e1⟩
     . exact ⟨o,keep hm e⟩
theorem gH {l : PySem.W.OpenLaw} {n k : Nat} {q : Program} {loose : List Str} {XP : (Str -> Option Value) -> Heap -> Prop} {YP : World -> Heap -> Prop} {d : DefRec} {K : Params -> PySem.W.Frag} {names : List Str} {sp : PySem.W.Frag -> Sp} {x : Str}
 (hn:l.most=some n) (hn2:n<=sizeLine) (hdf:d.params.defaults = []) (hr:Room k callerA)
 (hY:∀(w:World) (h:Heap),YP w h->(K w.params).In h)
 (hrec:∀y ∈ names,∃e,(recsOf q).find? (fun e=>e.name==y)=some e)
 (F:∀(w:World) (mg:Str->Option Value) (fa:Addr) (h:Heap),(K w.params).In h->h.Ns mainGlobals mg->mg d.name=some (.ref fa)->(∀p ∈ (tbK names (K w.params)).map (·.2),h.get? p=some (PySem.W.tabObj #[])) ->
  (∃o,(K w.params).lookup mainGlobals=some o)/\∃fd:FuncData,(∀(s:Shared) (u:Value),BindsTo s fd ⟨[u],[]⟩ [(x,u)]) /\
   ∀base:Heap,(BK (K w.params) ((tbK names (K w.params)).map (·.2))).In base->base.Ns mainGlobals mg->(∀p ∈ tbK names (K w.params),PySem.W.CodeHd base p.1 p.2)->BM base mg->FnOk l.prog w (BK (K w.params) ((tbK names (K w.params)).map (·.2))) mg base CX0 k fa fd [x] (sp (BK (K w.params) ((tbK names (K w.params)).map (·.2)))))
 (hsp:∀(K:PySem.W.Frag) (H:Hp) (a:Addr) (ns:List Int),ns.length<=n->SqL K H a (ns.map V.int)->sp K [.ref a] H (fun v _=>v = .bl true) fun _ _ _=>False) :
 PySem.W.WalkO q loose XP YP l.row.toRowW d [] (fun f vs=>PySem.call f vs):=by
 refine Att.attach_call hn hdf fun w s₀ s₁ mg mb fa o pm cd doc a vs ns G Y ho hd hcd hmg hobj hints hlen hg=> ?_;have KX:=hY w _ Y
 have hT:∀p ∈ tbK names (K w.params),PySem.W.CodeHd s₁.heap p.1 p.2/\s₁.heap.get? p.2=some (PySem.W.tabObj #[]):=fun p hp=>by
  obtain ⟨y,hy,e⟩:=HN.mp hp;obtain ⟨e',he'⟩:=hrec y hy;exact PySem.W.tab_of G.T KX he' e
 obtain ⟨hmain,fd,hb,hF⟩:=F w mg fa _ KX G.T.g hmg fun p hp=>by
  obtain ⟨r,hr',rfl⟩:=BY.mp hp;exact (hT r hr').2
 obtain ⟨bm,ob,b1,b2,b3,b4⟩:=G.T.bmain;exact bQ KX hmain G.T.g G.T.b G.T.builtins G.T.nolimit hg hobj hints (BH hlen hn2) hr hT ⟨bm,ob,b1,b2,b3,b4⟩ hF hb fun H hS=>hsp _ H a ns hlen hS
theorem o0{K:PySem.W.Frag}{x:Str}{v:Option Value}(h:PySem.W.nsIn K mainGlobals x=some v):∃o,K.lookup mainGlobals=some o:=by
 unfold PySem.W.nsIn at h
 cases e:K.lookup mainGlobals with
 | none=>rw [e] at h;simp at h
 | some o=>exact ⟨o,rfl⟩
theorem uT{K:PySem.W.Frag}{x:Str}{f c P:Addr}{oc co:Value}{od cod:Option Addr}{fd:FuncData}{sl csl:Array (Option Value)}{vs:Array Value}(h1:PySem.W.nsIn K mainGlobals x=some (some (.ref f)))(h2:K.lookup f=some ⟨oc,od, .func fd,sl⟩)(h3:fd.code = .ref c)(h4:K.lookup c=some ⟨co,cod, .fields vs,csl⟩)(h5:vs[11]? = some (.ref P)):PySem.W.tabIn K x=some (c,P):=by
 unfold PySem.W.tabIn;rw [h1]
 dsimp only
 rw [h2]
 dsimp only
 rw [h3]
 dsimp only
 rw [h4]
 dsimp only
 rw [h5]
theorem hZ{names:List Str}{K:PySem.W.Frag}{x:Str}{c P:Addr}(hx:x ∈ names)(h:PySem.W.tabIn K x=some (c,P)):(c,P) ∈ tbK names K:=HN.mpr ⟨x,hx,h⟩
theorem lB{names:List Str}{K:PySem.W.Frag}{x:Str}{c P:Addr}(hx:x ∈ names)(h:PySem.W.tabIn K x=some (c,P)):P ∈ J6 (BK K ((tbK names K).map (·.2))):=by
 rw [PP];exact BY.mpr ⟨_,hZ hx h,rfl⟩
end Tf
namespace Dm
open PySem PySem.Spec PyProof.Rows L2 Tf
section
variable {K:PySem.W.Frag} {P:Program} {w:World} {mg:Str->Option Value} {base:Heap}
end
end Dm
namespace Dm
open PySem PySem.Spec PyProof.Rows L2 Tf
def cnt:L2.St->Nat
 | []=>0
 | none::r=>cnt r
 | some _::r=>cnt r+1
theorem WJ:∀l:L2.St,cnt l<=l.length
 | []=>AA _
 | none::r=>zQ (WJ r)
 | some _::r=>Nat.succ_le_succ (WJ r)
theorem U6:∀ {l:L2.St} {j:Nat} {u v:V},l[j]? = some (some u)->cnt (l.set j (some v))=cnt l
 | [],_,_,_,h=>by simp at h
 | o::r,0,u,v,h=>by simp at h;subst h;rfl
 | o::r,j+1,u,v,h=>by
  have:=U6 (l:=r) (j:=j) (u:=u) (v:=v) (by simpa using h)
  cases o <;> simp [cnt,this]
theorem V7:∀ {l:L2.St} {j:Nat} {v:V},l[j]? = some none->cnt (l.set j (some v))=cnt l+1
 | [],_,_,h=>by simp at h
 | o::r,0,v,h=>by simp at h;subst h;rfl
 | o::r,j+1,v,h=>by
  have:=V7 (l:=r) (j:=j) (v:=v) (by simpa using h)
  cases o <;> simp [cnt,this]
structure OA (C:Addr) (names:List Str) (HB H0 H:Hp) (p:Addr) (vals:L2.St):Prop where
 hp:HB p=none
 h0p:H0 p=none
 len:vals.length=names.length
 ins:∃dx fs,H p=some (.ins C dx fs)/\fs.length<=cnt vals/\(∀(j:Nat) f,names[j]? = some f->fs.lookup f=(vals[j]?).join)/\∀f,f ∉ names->fs.lookup f=none
section
variable {K:PySem.W.Frag} {C:Addr} {names:List Str}
theorem OA.ext{HB H0 H H0' H':Hp}{p:Addr}{vals:L2.St}(x:Ext H0 H H0' H')(o:OA C names HB H0 H p vals):OA C names HB H0' H' p vals:=by
 obtain ⟨dx,fs,h1,h2⟩:=o.ins;exact ⟨o.hp,x.own p _ h1 trivial o.h0p,o.len,dx,fs,x.s _ _ h1,h2⟩
theorem OA.other{HB H0 H:Hp}{p a:Addr}{vals:L2.St}{vs:List V}{u:HO}(o:OA C names HB H0 H p vals)(h:H a=some (.lst vs)):OA C names HB H0 (upd H a u) p vals:=by
 obtain ⟨dx,fs,h1,h2⟩:=o.ins;have hne:p≠a:=by rintro rfl;rw [h1] at h;cases h
 exact ⟨o.hp,o.h0p,o.len,dx,fs,by rw [AY hne];exact h1,h2⟩
theorem OA.frz{HB H0 H:Hp}{p a:Addr}{vals:L2.St}{vs:List V}{u:HO}(o:OA C names HB H0 H p vals)(h:H a=some (.lst vs)):OA C names HB (upd H0 a u) H p vals:=by
 obtain ⟨dx,fs,h1,h2⟩:=o.ins;have hne:p≠a:=by rintro rfl;rw [h1] at h;cases h
 exact ⟨o.hp,by rw [AY hne];exact o.h0p,o.len,dx,fs,h1,h2⟩
theorem OA.base{HB HB' H0 H:Hp}{p:Addr}{vals:L2.St}(s:Same HB HB')(o:OA C names HB' H0 H p vals):OA C names HB H0 H p vals:=⟨s.free o.hp,o.h0p,o.len,o.ins⟩
theorem ER.base{HB HB' H0 H:Hp}{σ:L2.St}{ρ:En}(s:Same HB HB')(e:ER K HB' H0 H σ ρ):ER K HB H0 H σ ρ:=
 ⟨e.len,fun i r h=>by obtain ⟨v,h1,h2⟩:=e.get i r h;exact ⟨v,h1,h2.base s⟩,e.apart⟩
theorem ER.updO{HB H0 H:Hp}{σ:L2.St}{ρ:En}{p:Addr}{o:HO}(e:ER K HB H0 H σ ρ)(hp:∀vs,H p≠some (.lst vs))(hd:∀t,H p≠some (.dT t)):ER K HB H0 (upd H p o) σ ρ:=
 ⟨e.len,fun i r h=>by
  obtain ⟨v,h1,h2⟩:=e.get i r h;refine ⟨v,h1,?_⟩
  cases r with
  | val d=>exact h2
  | own ds=>
   obtain ⟨a,vs,rfl,q1,q2,q3,q4⟩:=h2
   exact ⟨a,vs,rfl,q1,q2,by rw [AY (by rintro rfl;exact hp _ q3)];exact q3,q4⟩
  | dct ds=>
   obtain ⟨a,vs,rfl,q1,q2,q3,q4⟩:=h2;exact ⟨a,vs,rfl,q1,q2,by rw [AY (by rintro rfl;exact hd _ q3)];exact q3,q4⟩,e.apart⟩
structure OD where
 C:Addr
 names:List Str
 s:Nat
 n:Nat
 p:Addr
def FR(K:PySem.W.Frag)(od:OD):Rl:=
 ⟨fun HB H0 H σ ρ=>σ.length=od.n/\∃p vals,p=od.p/\σ[od.s]? = some (some (.ref p))/\OA od.C od.names HB H0 H p vals/\ER K HB H0 H (σ++vals) ρ,fun i=>i≠od.s/\i<od.n⟩
theorem oK{σ vals:L2.St}{i:Nat}{v:Option V}(h:i<σ.length):(σ++vals).set i v=σ.set i v++vals:=by
 rw [List.set_append_left _ _ h]
theorem eZ{σ vals:L2.St}{j:Nat}{v:Option V}:(σ++vals).set (σ.length+j) v=σ++vals.set j v:=by
 rw [List.set_append_right _ _ (E2 _ _),EI]
instance relOk_FR {od:OD}:RelOk K (FR K od) where
 ext:=fun x ⟨h1,p,vals,hpp,h2,h3,h4⟩=>⟨h1,p,vals,hpp,h2,h3.ext x,h4.ext x⟩
 get:=fun ⟨h1,p,vals,hpp,h2,h3,h4⟩ hs h=>by
  obtain ⟨v,e1,e2⟩:=h4.get _ _ h;rw [AG (by rw [h1];exact hs.2)] at e1
  exact ⟨v,e1,e2⟩
 set:=fun {HB H0 H H0' H' σ ρ i v s} ⟨h1,p,vals,hpp,h2,h3,h4⟩ hs x sb h=>by
  refine ⟨by rw [CD];exact h1,p,vals,hpp,by rw [A8 hs.1];exact h2,h3.ext x,?_⟩;have:=h4.set (i:=i) x sb h;rw [oK (by rw [h1];exact hs.2)] at this
  exact this
 write:=fun {HB H0 H σ ρ i a ds es vs ys} ⟨h1,p,vals,hpp,h2,h3,h4⟩ hs hi hσ hb h0 ha hr=>by
  refine ⟨h1,p,vals,hpp,h2,h3.other ha,?_⟩;exact h4.write hi (by rw [AG (by rw [h1];exact hs.2)];exact hσ) hb h0 hr
 frz:=fun ⟨h1,p,vals,hpp,h2,h3,h4⟩ _ hi x=>by
  obtain ⟨a,vs,ha,x',e'⟩:=h4.frz hi x;exact ⟨_,x',h1,p,vals,hpp,h2,h3.frz ha,e'⟩
variable {od:OD}
theorem jJ {HB H0 H : Hp} {σ : L2.St} {ρ : En} {j : Nat} {f : Str} {r : Sl} (e : ST (FR K od) HB H0 H σ ρ) (hj : od.names[j]? = some f) (h : ρ[od.n + j]? = some (some r)) :
 ∃p dx fs v,σ[od.s]? = some (some (.ref p))/\H p=some (.ins od.C dx fs)/\fs.lookup f=some v/\SlH K HB H0 H v r:=by
 obtain ⟨h1,p,vals,hpp,h2,h3,h4⟩:=e.r;obtain ⟨v,e1,e2⟩:=h4.get _ _ h;rw [<-h1,AB (E2 _ _),EI] at e1
 obtain ⟨dx,fs,q1,q2,q3,q4⟩:=h3.ins;exact ⟨p,dx,fs,v,h2,q1,by rw [q3 j f hj,e1];rfl,e2⟩
theorem sF{j:Nat}{f:Str}(hc:Cls K od.C)(hn:NoAttr K od.C f)(hj:od.names[j]? = some f):RP K (FR K od) (jG K (KI od.s) f) (mPk (od.n+j)):=fun HB σ ρ H0 H s e r hr Q q=>by
 obtain ⟨p,dx,fs,v,h1,h2,h3,h4⟩:=jJ e hj (join_some hr);exact ⟨.ref p,h1,p,od.C,dx,fs,v,rfl,h2,hc,hn,h3,q v H0 H (Ext.refl s) h4.p⟩
theorem v7{j:Nat}{f:Str}(hc:Cls K od.C)(hn:NoAttr K od.C f)(hj:od.names[j]? = some f):RE K (FR K od) (jG K (KI od.s) f) (mVar (od.n+j)):=fun HB σ ρ H0 H s e r hr Q q=>by
 unfold mVar at hr
 cases ej:(ρ[od.n+j]?).join with
 | none=>rw [ej] at hr;cases hr
 | some r' =>
  rw [ej] at hr
  cases r' with
  | own _=>cases hr
  | dct _=>cases hr
  | val d=>
   cases hr
   obtain ⟨p,dx,fs,v,h1,h2,h3,h4⟩:=jJ e hj (join_some ej);exact ⟨.ref p,h1,p,od.C,dx,fs,v,rfl,h2,hc,hn,h3,q v H0 H (Ext.refl s) h4⟩
theorem W0{f:Str}{v u:V}:∀ {fs:List (Str×V)},fs.lookup f=some u->(JN f v fs).length=fs.length
 | [],h=>by cases h
 | (g,x)::r,h=>by
  show (if g=f then (g,v)::r else (g,x)::JN f v r).length=_
  split
  . rfl
  . rename_i hg;have:(f==g)=false:=FU.mpr fun z=>hg z.symm;rw [List.lookup,this] at h
    rw [BS,BS,W0 h]
theorem vT {te : TE} {fe : En -> Option Sl} {j : Nat} {f : Str} (hc : Cls K od.C) (hn : NoAttr K od.C f) (hj : od.names[j]? = some f) (hnd : od.names.Nodup) (hlt : od.names.length < 1000) (h : RE K (FR K od) te fe) :
 RS K (FR K od) (xJ K (KI od.s) te f) (mAsg (od.n+j) fe):=fun HB S0 σ ρ H0 H x e o ho D d=>by
 obtain ⟨r,hr,rfl⟩:=AQ.mp ho;refine h HB σ ρ H0 H x.s1 e r hr _ fun v H1 J1 x1 p1=> ?_;obtain ⟨h1,p,vals,hpp,h2,h3,h4⟩:=e.r;have oa:=h3.ext x1;obtain ⟨dx,fs,q1,q2,q3,q4⟩:=oa.ins;have e1:=h4.set (i:=od.n+j) x1 x.s p1;rw [<-h1,eZ] at e1
 have xx:=(x.chain x1).write oa.hp oa.h0p (.ins od.C dx (JN f v fs));have hjl:j<vals.length:=by rw [h3.len];exact (AX.mp hj).1
 refine ⟨.ref p,h2,p,od.C,dx,fs,rfl,q1,hc,hn,by have:=WJ vals;have:=h3.len;omega,?_⟩;refine d σ H1 _ xx ⟨⟨h1,p,vals.set j (some v),hpp,h2,⟨oa.hp,oa.h0p,by rw [CD];exact h3.len,dx,_,BC,?_,fun k g hk=> ?_,fun g hg=> ?_⟩,?_⟩⟩
 . cases hv:vals[j]? with
   | none=>rw [List.getElem?_eq_none_iff] at hv;omega
   | some ov=>
    cases ov with
    | none=>rw [V7 hv];have:=KR f v fs;omega
    | some u=>
     rw [U6 hv,W0 (u:=u) (by rw [q3 j f hj,hv];rfl)];exact q2
 . rw [IN]
   split
   . rename_i hg;subst hg;have:k=j:=PF hnd hk hj;subst this;rw [B7 (by exact hjl)];rfl
   . rename_i hg;have:j≠k:=by rintro rfl;rw [hj] at hk;exact hg (B9 hk).symm
     rw [A8 this];exact q3 k g hk
 . rw [IN,C9]
   . exact q4 g hg
   . rintro rfl;exact hg (AJ hj)
 . rw [h1] at e1
   exact e1.updO (fun vs z=>by rw [q1] at z;cases z) (fun vs z=>by rw [q1] at z;cases z)
theorem aR {HB H0 H : Hp} {σ : L2.St} {ρ : En} {j : Nat} {f : Str} {ds : List PyData} (e : ST (FR K od) HB H0 H σ ρ) (hj : od.names[j]? = some f) (h : (ρ[od.n + j]?).join = some (.own ds)) :
 ∃p dx fs a vs,σ[od.s]? = some (some (.ref p))/\H p=some (.ins od.C dx fs)/\fs.lookup f=some (.ref a)/\HB a=none/\H0 a=none/\H a=some (.lst vs)/\Reps K H0 vs ds /\
  ∀(H0' H':Hp) ys es,Ext H0 H H0' H'->Reps K H0' ys es->ST (FR K od) HB H0' (upd H' a (.lst ys)) σ (ρ.set (od.n+j) (some (.own es))):=by
 obtain ⟨h1,p,vals,hpp,h2,h3,h4⟩:=e.r;obtain ⟨v,e1,a,vs,rfl,g1,g2,g3,g4⟩:=h4.get _ _ (join_some h);have e1':=e1;rw [<-h1,AB (E2 _ _),EI] at e1
 obtain ⟨dx,fs,q1,q2,q3,q4⟩:=h3.ins;refine ⟨p,dx,fs,a,vs,h2,q1,by rw [q3 j f hj,e1];rfl,g1,g2,g3,g4,fun H0' H' ys es x hr=> ?_⟩;exact ⟨h1,p,vals,hpp,h2,(h3.ext x).other (x.s _ _ g3),(h4.ext x).write (join_some h) e1' g1 (x.own _ _ g3 trivial g2) hr⟩
theorem oF{te:TE}{fe:En->Option Sl}{j:Nat}{f:Str}(hc:Cls K od.C)(hn:NoAttr K od.C f)(hj:od.names[j]? = some f)(h:RE K (FR K od) te fe):RS K (FR K od) (R6 (tBM K "list" rAppend (jG K (KI od.s) f) (JV te tNil))) (mApp (od.n+j) fe):=fun HB S0 σ ρ H0 H x e o ho D d=>by
 unfold mApp at ho
 split at ho
 . rename_i ds hown;obtain ⟨r,hr,ho⟩:=A0.mp ho
   split at ho
   . rename_i hl
     cases ho
     obtain ⟨p,dx,fs,a,vs,h1,h2,h3,g1,g2,g3,g4,wr⟩:=aR e hj hown;refine ⟨.ref p,h1,p,od.C,dx,fs, .ref a,rfl,h2,hc,hn,h3, .inl ⟨rfl,vs,SqL.of g3⟩,?_⟩;refine h.rv HB σ ρ H0 H x.s1 e r.dat (by unfold mDat;rw [hr];rfl) _ fun v H1 J1 x1 p1=> ?_;refine ⟨a,vs,v,rfl,rfl,x1.s _ _ g3,by rw [g4.length];exact hl,?_⟩;exact d σ H1 _ ((x.chain x1).write g1 (x1.own a _ g3 trivial g2) _) (wr H1 J1 _ _ x1 (Tf.Reps.snoc (Reps.same x1.s0 g4) p1))
   . cases ho
 . cases ho
theorem lK{te tj:TE}{fe fj:En->Option Sl}{j:Nat}{f:Str}(hc:Cls K od.C)(hn:NoAttr K od.C f)(hj:od.names[j]? = some f)(h:RE K (FR K od) te fe)(hk:RP K (FR K od) tj fj):RS K (FR K od) (T4 te (t6 (jG K (KI od.s) f) tj rSetL)) (mSet (od.n+j) fj fe):=fun HB S0 σ ρ H0 H x e o ho D d=>by
 obtain ⟨r,hr,ho⟩:=A0.mp ho
 split at ho
 . rename_i ds hown;obtain ⟨k,hkk,ho⟩:=A0.mp ho
   split at ho
   . rename_i k;obtain ⟨i,hix,rfl⟩:=Option.map_eq_some_iff.mp ho;refine h.rv HB σ ρ H0 H x.s1 e r.dat (by unfold mDat;rw [hr];rfl) _ fun v H1 J1 x1 p1=> ?_;obtain ⟨p,dx,fs,a,vs,h1,h2,h3,g1,g2,g3,g4,wr⟩:=aR (e.ext (K:=K) x1) hj hown;refine ⟨.ref p,h1,p,od.C,dx,fs, .ref a,rfl,h2,hc,hn,h3,?_⟩;refine hk HB σ ρ H1 J1 x1.s1 (e.ext (K:=K) x1) _ hkk _ fun w H2 J2 x2 p2=> ?_;refine ⟨a,vs,k,i,rfl,p2.int,x2.s _ _ g3,by rw [g4.length];exact hix,?_⟩;exact d σ H2 _ (((x.chain x1).chain x2).write g1 (x2.own a _ g3 trivial g2) _) (wr H2 J2 _ _ x2 (Reps.set (Rep.same x2.s0 p1) i (Reps.same x2.s0 g4)))
   . cases ho
 . cases ho
def spM(K:PySem.W.Frag)(C:Addr)(names:List Str)(F:En->List PyData->Option (En×PyData)):Sp:=fun vs H Q _=>∃HB H0 p vals φ ds φ' d vs',vs = .ref p::vs'/\Same HB H/\Same H0 H/\OA C names HB H0 H p vals/\ER K HB H0 H vals φ/\Reps K H0 vs' ds/\F φ ds=some (φ',d) /\
 ∀v H0' H' vals',Ext H0 HB H0' H'->OA C names HB H0' H' p vals'->ER K HB H0' H' vals' φ'->Rep K H0' v d->Q v H'
open Classical in
noncomputable def OE(H:Hp)(p:Addr)(vals:L2.St)(φ:En):Hp:=fun b=>if b=p\/∃(j:Nat) (ds:List PyData),φ[j]? = some (some (.own ds))/\vals[j]? = some (some (.ref b)) then none else H b
theorem cP{H:Hp}{p:Addr}{vals:L2.St}{φ:En}:Same (OE H p vals φ) H:=fun b o h=>by
 unfold OE at h
 split at h
 . cases h
 . exact h
def noD(φ:En):Bool:=φ.all fun s=>match s with | some (.dct _)=>false | _=>true
theorem sW{φ:En}(h:noD φ=true){j:Nat}{kvs:List (PyData×PyData)}:φ[j]? ≠ some (some (.dct kvs)):=fun e=>by
 have:=EG.mp h _ (AJ e)
 cases this
def bT(F:En->List PyData->Option (En×PyData)):Prop:=∀φ ds r,F φ ds=some r->noD φ=true
theorem QO {HB S0 H0 H : Hp} {σ : L2.St} {ρ : En} {vs' : List V} {ds : List PyData} {F : En -> List PyData -> Option (En × PyData)} {φ' : En} {dd : PyData} {Q : VK} {E : XK} (x : Ext S0 HB H0 H) (e : ST (FR K od) HB H0 H σ ρ) (hr : Reps K H0 vs' ds) (hN : bT F) (hF : F (ρ.drop od.n) ds = some (φ', dd))
 (q:∀v H0' H',Ext S0 HB H0' H'->ST (FR K od) HB H0' H' σ (ρ.take od.n++φ')->Rep K H0' v dd->Q v H'):∃p dx fs,σ[od.s]? = some (some (.ref p))/\H p=some (.ins od.C dx fs)/\(∀m,m ∉ od.names->fs.lookup m=none)/\spM K od.C od.names F (.ref p::vs') H Q E:=by
 obtain ⟨h1,p,vals,hpp,h2,h3,h4⟩:=e.r;obtain ⟨dx,fs,q1,q2,q3,q4⟩:=h3.ins;have lρ:ρ.length=od.n+vals.length:=by rw [<-h4.len,B3,h1]
 have fi:∀(j:Nat),(ρ.drop od.n)[j]? = ρ[od.n+j]? :=fun j=>HP;have si:∀(j:Nat),(σ++vals)[od.n+j]? = vals[j]? :=fun j=>by rw [<-h1,AB (E2 _ _),EI]
 refine ⟨p,dx,fs,h2,q1,q4,OE H p vals (ρ.drop od.n),H0,p,vals,ρ.drop od.n,ds,φ',dd,vs',rfl,cP,x.s1,⟨?_,h3.h0p,h3.len,h3.ins⟩,?_,hr,hF,fun v H0' H' vals' x' o' e' r' => ?_⟩
 . unfold OE;rw [if_pos (.inl rfl)]
 . refine ⟨by rw [EU,lρ];omega,fun j s hs=> ?_,fun i j a xs ys hij g1 g2 g3 g4=> ?_⟩
   . rw [fi] at hs
     obtain ⟨v,e1,e2⟩:=h4.get _ _ hs;rw [si] at e1
     refine ⟨v,e1,?_⟩
     cases s with
     | val d=>exact e2
     | own es=>
      obtain ⟨a,ws,rfl,k1,k2,k3,k4⟩:=e2;refine ⟨a,ws,rfl,?_,k2,k3,k4⟩;unfold OE
      rw [CQ (.inr ⟨j,es,by rw [fi];exact hs,e1⟩)]
     | dct es=>exact absurd (show (ρ.drop od.n)[j]? = some (some (.dct es)) by rw [fi];exact hs) (sW (hN _ _ _ hF))
   . rw [fi] at g1 g2
     exact h4.apart (od.n+i) (od.n+j) a xs ys (by omega) g1 g2 (by rw [si];exact g3) (by rw [si];exact g4)
 . -- behind the call
   have out:∀b,HB b≠none->OE H p vals (ρ.drop od.n) b=H b:=by
    intro b hb;unfold OE;rw [if_neg];rintro (rfl | ⟨j,es,k1,k2⟩)
    . exact hb h3.hp
    . rw [fi] at k1
      obtain ⟨w,e1,a,ws,rfl,k3,_⟩:=h4.get _ _ k1;rw [si,k2] at e1
      cases e1
      exact hb k3
   have back:∀a,OE H p vals (ρ.drop od.n) a=none->HB a=none:=by
    intro a ha
    cases hb:HB a with
    | none=>rfl
    | some u=>
     rw [out a (by rw [hb];simp),x.s a u hb] at ha
     cases ha
   have loc:∀(i:Nat) es a ws,i<od.n->ρ[i]? = some (some (.own es))->σ[i]? = some (some (.ref a))->H a=some (.lst ws)->OE H p vals (ρ.drop od.n) a=some (.lst ws):=by
    intro i es a ws hi k1 k2 k3;unfold OE;rw [if_neg]
    . exact k3
    . rintro (rfl | ⟨j,ts,k4,k5⟩)
      . rw [q1] at k3;cases k3
      . rw [fi] at k4
        exact h4.apart i (od.n+j) a es ts (by omega) k1 k4 (by rw [AG (by omega)];exact k2) (by rw [si];exact k5)
   have xx:Ext S0 HB H0' H':=⟨fun b u hb=>x'.s b u (by rw [out b (by rw [hb];simp)];exact x.s b u hb),x.s0.trans x'.s0,x'.s1,fun b u hb m h0=>x'.own b u (by rw [out b (by rw [hb];simp)];exact x.s b u hb) m (x.own b u hb m h0)⟩;have lφ:φ'.length=vals'.length:=e'.len.symm;have tk:(ρ.take od.n).length=od.n:=by rw [DK,lρ];omega
   have left:∀(i:Nat),i<od.n->(ρ.take od.n++φ')[i]? = ρ[i]? :=fun i hi=>by rw [AG (by omega),kS hi]
   have right:∀(i:Nat),od.n<=i->(ρ.take od.n++φ')[i]? = φ'[i - od.n]? :=fun i hi=>by rw [AB (by omega),tk]
   have sl:∀(i:Nat),i<od.n->(σ++vals')[i]? = σ[i]? :=fun i hi=>AG (by omega);have sr:∀(i:Nat),od.n<=i->(σ++vals')[i]? = vals'[i - od.n]? :=fun i hi=>by rw [AB (by omega),h1]
   have lown:∀(i:Nat) es a,i<od.n->ρ[i]? = some (some (.own es))->σ[i]? = some (some (.ref a))->∃ws,H a=some (.lst ws)/\HB a=none/\H0 a=none/\Reps K H0 ws es:=by
    intro i es a hi k1 k2;obtain ⟨v,e1,b,ws,rfl,k3,k4,k5,k6⟩:=h4.get _ _ k1;rw [AG (by omega),k2] at e1
    cases e1
    exact ⟨ws,k5,k3,k4,k6⟩
   refine q v H0' H' xx ⟨h1,p,vals',hpp,h2,⟨h3.hp,o'.h0p,o'.len,o'.ins⟩,?_,fun i s hs=> ?_,fun i j a xs ys hij g1 g2 g3 g4=> ?_⟩ r'
   . rw [B3,B3,tk,lφ,h1]
   . by_cases hi:i<od.n
     . rw [left i hi] at hs
       rw [sl i hi];obtain ⟨w,e1,e2⟩:=h4.get _ _ hs;rw [AG (by omega)] at e1
       refine ⟨w,e1,?_⟩
       cases s with
       | val d=>exact Rep.same x'.s0 e2
       | own es=>
        obtain ⟨a,ws,rfl,k1,k2,k3,k4⟩:=e2;have hl:=loc i es a ws hi hs e1 k3
        exact ⟨a,ws,rfl,k1,x'.own a _ hl trivial k2,x'.s a _ hl,Reps.same x'.s0 k4⟩
       | dct es=>
        obtain ⟨a,ws,rfl,k1,k2,k3,k4⟩:=e2
        have hl:OE H p vals (ρ.drop od.n) a=some (.dT ws):=by
         unfold OE;rw [if_neg]
         . exact k3
         . rintro (rfl | ⟨j,ts,k5,k6⟩)
           . rw [q1] at k3;cases k3
           . rw [fi] at k5
             obtain ⟨w,e1',b,us,rfl,_,_,k7,_⟩:=h4.get _ _ k5;rw [si,k6] at e1'
             cases e1'
             rw [k7] at k3
             cases k3
        exact ⟨a,ws,rfl,k1,x'.own a _ hl trivial k2,x'.s a _ hl,k4.same x'.s0⟩
     . rw [right i (by omega)] at hs
       rw [sr i (by omega)];obtain ⟨w,e1,e2⟩:=e'.get _ _ hs;refine ⟨w,e1,?_⟩
       cases s with
       | val d=>exact e2
       | own es=>
        obtain ⟨a,ws,rfl,k1,k2⟩:=e2
        exact ⟨a,ws,rfl,back a k1,k2⟩
       | dct es=>
        obtain ⟨a,ws,rfl,k1,k2⟩:=e2;exact ⟨a,ws,rfl,back a k1,k2⟩
   . have mixed : ∀ (i j : Nat) xs ys, i < od.n -> od.n <= j -> (ρ.take od.n ++ φ')[i]? = some (some (.own xs)) -> (ρ.take od.n ++ φ')[j]? = some (some (.own ys)) -> (σ ++ vals')[i]? = some (some (.ref a)) -> (σ ++ vals')[j]? ≠ some (some (.ref a)) := by
      intro i j xs ys hi hj g1 g2 g3 g4;rw [left i hi] at g1
      rw [right j hj] at g2
      rw [sl i hi] at g3
      rw [sr j hj] at g4
      obtain ⟨ws,k3,_⟩:=lown i xs a hi g1 g3;have hl:=loc i xs a ws hi g1 g3 k3;obtain ⟨w,e1,b,us,rfl,k1,_⟩:=e'.get _ _ g2;rw [g4] at e1
      cases e1
      rw [hl] at k1
      cases k1
     by_cases hi:i<od.n
     . by_cases hj:j<od.n
       . rw [left i hi] at g1
         rw [left j hj] at g2
         rw [sl i hi] at g3
         rw [sl j hj] at g4
         exact h4.apart i j a xs ys hij g1 g2 (by rw [AG (by omega)];exact g3) (by rw [AG (by omega)];exact g4)
       . exact mixed i j xs ys hi (by omega) g1 g2 g3 g4
     . by_cases hj:j<od.n
       . exact mixed j i ys xs hj (by omega) g2 g1 g4 g3
       . rw [right i (by omega)] at g1
         rw [right j (by omega)] at g2
         rw [sr i (by omega)] at g3
         rw [sr j (by omega)] at g4
         exact e'.apart (i - od.n) (j - od.n) a xs ys (by omega) g1 g2 g3 g4
def IQ(n:Nat)(F:En->List PyData->Option (En×PyData))(fa:En->Option (List PyData))(k:En->PyData->Option Out):En->Option Out:=fun ρ=>(fa ρ).bind fun ds=>(F (ρ.drop n) ds).bind fun r=>k (ρ.take n++r.1) r.2
theorem eR{ta:TA}{fa:En->Option (List PyData)}{F:En->List PyData->Option (En×PyData)}{m:Str}{E:XK}(hm:m ∉ od.names)(hN:bT F)(h:RA K (FR K od) ta fa):RS K (FR K od) (R6 (jS od.C m (spM K od.C od.names F) [] E (KI od.s) ta)) (IQ od.n F fa fun ρ _=>some (.nx ρ)):=fun HB S0 σ ρ H0 H x e o ho D d=>by
 obtain ⟨ds,hd,ho⟩:=A0.mp ho;obtain ⟨⟨φ',dd⟩,hF,ho⟩:=A0.mp ho
 cases ho
 obtain ⟨h1,p,vals,hpp,h2,h3,h4⟩:=e.r;obtain ⟨dx,fs,q1,q2,q3,q4⟩:=h3.ins;refine ⟨.ref p,h2,p,dx,fs,rfl,q1,q4 m hm,?_⟩;refine h HB σ ρ H0 H x.s1 e ds hd _ fun vs H1 J1 x1 p1=> ?_;rw [DH];obtain ⟨p',dx',fs',k1,k2,k3,k4⟩:=QO (E:=E) (x.chain x1) (e.ext (K:=K) x1) p1 hN hF (fun v H2 J2 x2 e2 r2=>d σ H2 J2 x2 e2);rw [h2] at k1
 cases k1
 exact k4
theorem i7 {ta : TA} {fa : En -> Option (List PyData)} {F : En -> List PyData -> Option (En × PyData)} {m : Str} {E : XK} {i : Nat} (hs : (FR K od).slot i) (hm : m ∉ od.names) (hN : bT F) (h : RA K (FR K od) ta fa) :
 RS K (FR K od) (T4 (jS od.C m (spM K od.C od.names F) [] E (KI od.s) ta) (MS i)) (IQ od.n F fa fun ρ d=>some (.nx (ρ.set i (some (.val d))))):=fun HB S0 σ ρ H0 H x e o ho D d=>by
 obtain ⟨ds,hd,ho⟩:=A0.mp ho;obtain ⟨⟨φ',dd⟩,hF,ho⟩:=A0.mp ho
 cases ho
 obtain ⟨h1,p,vals,hpp,h2,h3,h4⟩:=e.r;obtain ⟨dx,fs,q1,q2,q3,q4⟩:=h3.ins;refine ⟨.ref p,h2,p,dx,fs,rfl,q1,q4 m hm,?_⟩;refine h HB σ ρ H0 H x.s1 e ds hd _ fun vs H1 J1 x1 p1=> ?_;rw [DH];obtain ⟨p',dx',fs',k1,k2,k3,k4⟩:=QO (E:=E) (x.chain x1) (e.ext (K:=K) x1) p1 hN hF (fun v H2 J2 x2 e2 r2=>d _ H2 J2 x2 ⟨RelOk.set (K:=K) (s:= .val dd) e2.r hs (Ext.refl x2.s1) x2.s r2⟩);rw [h2] at k1
 cases k1
 exact k4
end
end Dm
namespace Dm
open PySem PySem.Spec PyProof.Rows L2 Tf
section
variable {K:PySem.W.Frag} {C:Addr} {names:List Str}
def NS(n m k:Nat)(g:En->Option Out):En->List PyData->Option (En×PyData):=fun φ ds=>if (ds.length+1=m/\φ.length=k)/\noD φ=true then (g ((none::ds.map (fun d=>some (.val d)))++List.replicate (n - (ds.length+1)) none++φ)).bind fun o=>match o with
 | .rt (.val d) ρ=>some (ρ.drop n,d)
 | .nx ρ=>some (ρ.drop n, .none)
 | _=>none else none
theorem VH{n m k:Nat}{g:En->Option Out}:bT (NS n m k g):=fun φ ds r h=>by
 unfold NS at h
 split at h
 . rename_i hc;exact hc.2
 . cases h
theorem lV {HB H0 H : Hp} {p : Addr} {vs : List V} {ds : List PyData} {N : List Str} {vals : L2.St} {φ : En} (hn : ds.length + 1 <= N.length) (hr : Reps K H0 vs ds) (e : ER K HB H0 H vals φ) :
 ER K HB H0 H (L2.start N (.ref p::vs)++vals) ((none::ds.map (fun d=>some (.val d)))++List.replicate (N.length - (ds.length+1)) none++φ):=by
 have hl:=hr.length
 have ls:(L2.start N (.ref p::vs)).length=N.length:=by
  unfold L2.start;simp only [List.length_append,List.length_map,List.length_replicate,List.length_cons];omega
 have lr:((none::ds.map (fun d=>some (Sl.val d)))++List.replicate (N.length - (ds.length+1)) (none:Option Sl)).length=N.length:=by
  simp only [B3,A9,GG,BS];omega
 have lv:∀(i:Nat) s,i<N.length->((none::ds.map (fun d=>some (Sl.val d)))++List.replicate (N.length - (ds.length+1)) (none:Option Sl))[i]? = some (some s)->∃j d,i=j+1/\ds[j]? = some d/\s = .val d:=by
  intro i s hi hs
  cases i with
  | zero=>cases hs
  | succ j=>
   by_cases hj:j<ds.length
   . rw [IW,BB,AG (by simpa using hj),B8,B4 hj] at hs
     cases hs
     exact ⟨j,_,rfl,B4 hj,rfl⟩
   . rw [IW,BB,AB (by simpa using hj),DX] at hs
     split at hs <;> cases hs
 refine ⟨by rw [B3,B3,ls,lr,e.len],fun i s hs=> ?_,fun i j a xs ys hij g1 g2 g3 g4=> ?_⟩
 . by_cases hi:i<N.length
   . rw [AG (by omega)] at hs ⊢
     obtain ⟨j,d,rfl,hd,rfl⟩:=lv i s hi hs;obtain ⟨v,h1,h2⟩:=Tf.Reps.get hr hd;refine ⟨v,?_,h2⟩;unfold L2.start;have hj:j<vs.length:=(List.getElem?_eq_some_iff.mp h1).1;rw [List.map_cons,List.cons_append,List.getElem?_cons_succ,List.getElem?_append_left (by simpa using hj),List.getElem?_map,h1];rfl
   . rw [AB (by omega),lr] at hs
     rw [AB (by omega),ls];exact e.get _ _ hs
 . have big : ∀ (i : Nat) xs, ((none :: ds.map (fun d => some (Sl.val d))) ++ List.replicate (N.length - (ds.length + 1)) (none : Option Sl) ++ φ)[i]? = some (some (.own xs)) -> N.length <= i := by
    intro i xs h
    by_cases hi:i<N.length
    . rw [AG (by omega)] at h
      obtain ⟨_,_,_,_,z⟩:=lv i _ hi h
      cases z
    . omega
   have b1:=big i xs g1;have b2:=big j ys g2;rw [AB (by omega),lr] at g1 g2
   rw [AB (by omega),ls] at g3 g4
   exact e.apart _ _ a xs ys (by omega) g1 g2 g3 g4
section
variable {P:Program} {w:World} {mg:Str->Option Value} {base:Heap}
theorem fnM {x qual : Str} {st : Stmt} {f : Addr} {fd : FuncData} {N ps : List Str} {k n m l : Nat} {g : En -> Option Out} (F : Fun K x qual st f fd) (S : FnScope N ps (AN st)) (hn : N.length = n) (hm : ps.length = m) (hl : names.length = l)
 (hb:∀(cdv:Value) (A:Around) (outer:List Env) (s:Shared) (H:Hp) (E:XK) (p:Addr),Room k (A.deeper (envOfC qual (AN st) s.heap.objs.size f cdv))->DSs (OF CX0 P w K mg base N qual (AN st) f cdv A outer s H E).nox (FR K ⟨C,names,0,n,p⟩) (GD st) g) :
 FnOk P w K mg base CX0 (k+1) f fd ps (spM K C names (NS n m l g)):=by
 subst hn hm hl;have hpl:ps.length<=N.length:=by have:=LX List.length S.pre;rw [DK] at this;omega
 refine F.ok S (fun vs H Q E h=> ?_) fun cdv A outer s H vs Q E hr h=> ?_
 . obtain ⟨HB,H0,p,vals,φ,ds,φ',d,vs',rfl,s1,s2,oa,er,hr,hf,_⟩:=h;unfold NS at hf
   split at hf
   . rename_i hl;rw [BS,hr.length];exact hl.1.1
   . cases hf
 . obtain ⟨HB,H0,p,vals,φ,ds,φ',d,vs',rfl,s1,s2,oa,er,hr',hf,q⟩:=h;obtain ⟨t,ht,rs⟩:=hb cdv A outer s H E p hr;refine ⟨t,ht,?_⟩;have hr:=hr';unfold NS at hf
   split at hf
   . rename_i hl;obtain ⟨o,ho,hf⟩:=A0.mp hf;have hvl:=hr.length
     have ls:(L2.start N (.ref p::vs')).length=N.length:=by
      unfold L2.start;simp only [List.length_append,List.length_map,List.length_replicate,List.length_cons];omega
     refine rs HB H0 _ _ H0 H ⟨s1,Same.refl _,s2,fun _ _ _ _ h=>h⟩ ⟨⟨ls,p,vals,rfl,rfl,oa,lV (by omega) hr er⟩⟩ o ho _ ?_
     have fin:∀ {σ:L2.St} {H1 J1:Hp} {ρ:En} {v:V} {dd:PyData},Ext H0 HB H1 J1->ST (FR K ⟨C,names,0,N.length,p⟩) HB H1 J1 σ ρ->Rep K H1 v dd->(ρ.drop N.length,dd)=(φ',d)->Q v J1:=by
      intro σ H1 J1 ρ v dd x e r he;obtain ⟨h1,p',vals',hpp,h2,h3,h4⟩:=e.r
      cases he
      cases hpp
      refine q v H1 J1 vals' x h3 ⟨?_,fun i s hs=> ?_,fun i j a xs ys hij g1 g2 g3 g4=> ?_⟩ r
      . have:=h4.len;rw [B3,h1] at this
        rw [EU];show _=_ - _;have hh:(⟨C,names,0,N.length,p⟩:OD).n=N.length:=rfl;omega
      . rw [HP] at hs
        obtain ⟨w,e1,e2⟩:=h4.get _ _ hs;rw [AB (by rw [h1];exact E2 _ _),h1] at e1
        refine ⟨w,?_,e2⟩;have hh:(⟨C,names,0,N.length,p⟩:OD).n=N.length:=rfl;rw [hh,EI] at e1
        exact e1
      . have si : ∀ i : Nat, (σ ++ vals')[N.length + i]? = vals'[i]? := fun i => by
         have hh:(⟨C,names,0,N.length,p⟩:OD).n=N.length:=rfl;rw [AB (by rw [h1];exact E2 _ _),h1,hh,EI]
        rw [HP] at g1 g2
        exact h4.apart _ _ a xs ys (by omega) g1 g2 (by rw [si];exact g3) (by rw [si];exact g4)
     cases o with
     | rt r ρ=>
      cases r with
      | val dd=>exact fun v σ H1 J1 a b c=>fin a b c (B9 hf)
      | own _=>cases hf
      | dct _=>cases hf
     | nx ρ=>exact fun σ H1 J1 a b=>fin (v:= .non) a b .none (B9 hf)
     | bk _=>cases hf
     | ct _=>cases hf
   . cases hf
end
end
end Dm
namespace Dm
open PySem PySem.Spec PyProof.Rows L2 Tf
section
variable {K:PySem.W.Frag} {C:Addr} {names:List Str} {R:Rl} [RelOk K R]
def RB(K:PySem.W.Frag)(R:Rl)(C:Addr)(names:List Str)(te:TE)(fo:En->Option En):Prop:=
 ∀(HB:Hp) (σ:L2.St) (ρ:En) (H0 H:Hp),Same H0 H->ST R HB H0 H σ ρ->∀φ,fo ρ=some φ->∀Q:VK,(∀p vals H0' H',Ext H0 H H0' H'->OA C names H H0' H' p vals->ER K H H0' H' vals φ->Q (.ref p) H')->te σ H Q
def W9(k:Nat)(F:En->List PyData->Option (En×PyData))(fa:En->Option (List PyData)):En->Option En:=fun ρ=>(fa ρ).bind fun ds=>(F (List.replicate k none) ds).bind fun r=>match r.2 with
 | .none=>some r.1
 | _=>none
theorem lR{ta:TA}{fa:En->Option (List PyData)}{F:En->List PyData->Option (En×PyData)}{E:XK}{k:Nat}(hk:k=names.length)(h:RA K R ta fa):RB K R C names (qD C (spM K C names F) [] E ta) (W9 k F fa):=fun HB σ ρ H0 H s e φ hφ Q q=>by
 subst hk;obtain ⟨ds,hd,hφ⟩:=A0.mp hφ;obtain ⟨⟨φ',d⟩,hF,hφ⟩:=A0.mp hφ
 have hdn:d = .none/\φ'=φ:=by
  cases d with
  | none=>cases hφ;exact ⟨rfl,rfl⟩
  | _=>cases hφ
 obtain ⟨rfl,rfl⟩:=hdn;refine h HB σ ρ H0 H s e ds hd _ fun vs H1 J1 x1 p1=> ?_;intro x dx hx hdx hne;rw [DH];have s1:Same J1 (upd (upd J1 dx (.own x)) x (.ins C dx [])):=fun b u hb=>by rw [AY (BD hb hx),AY (BD hb hdx)];exact hb
 refine ⟨J1,H1,x,List.replicate names.length none,List.replicate names.length none,ds,φ', .none,vs,rfl,s1,x1.s1.trans s1,⟨hx,x1.s1.free hx,GG,dx,[],BC,DL _,fun j f hj=> ?_,fun f _=>rfl⟩,⟨by rw [GG,GG],fun i r hr=> ?_,fun i j a xs ys _ g1 _ _ _=> ?_⟩,p1,hF,fun v H2 J2 vals' x2 o2 e2 r2=>⟨?_,?_⟩⟩
 . show none=_;rw [DX]
   split <;> rfl
 . rw [DX] at hr
   split at hr <;> cases hr
 . rw [DX] at g1
   split at g1 <;> cases g1
 . cases r2;rfl
 . exact q x vals' H2 J2 (x1.trans x2) (o2.base x1.s) (e2.base x1.s)
def spO(K:PySem.W.Frag)(C:Addr)(names:List Str)(F:List PyData->Option En):Sp:=fun vs H Q _=>∃H0 ds φ,Same H0 H/\Reps K H0 vs ds/\F ds=some φ/\∀p vals H0' H',Ext H0 H H0' H'->OA C names H H0' H' p vals->ER K H H0' H' vals φ->Q (.ref p) H'
def P4(F:List PyData->Option En)(fa:En->Option (List PyData)):En->Option En:=fun ρ=>(fa ρ).bind F
theorem nQ{ta:TA}{fa:En->Option (List PyData)}{F:List PyData->Option En}{E:XK}(h:RA K R ta fa):RB K R C names (V3 (spO K C names F) [] E ta) (P4 F fa):=fun HB σ ρ H0 H s e φ hφ Q q=>by
 obtain ⟨ds,hd,hφ⟩:=A0.mp hφ;refine h HB σ ρ H0 H s e ds hd _ fun vs H1 J1 x1 p1=> ?_;rw [DH];exact ⟨H1,ds,φ,x1.s1,p1,hφ,fun p vals H2 J2 x2 o2 e2=>q p vals H2 J2 (x1.trans x2) (o2.base x1.s) (e2.base x1.s)⟩
section
variable {P:Program} {w:World} {mg:Str->Option Value} {base:Heap}
def DB(X:Cx)(R:Rl)(C:Addr)(names:List Str)(e:Expr)(fo:En->Option En):Prop:=∃te,PE X e te/\RB X.K R C names te fo
def iQ(n m:Nat)(fo:En->Option En):List PyData->Option En:=fun ds=>if ds.length=m then fo (ds.map (fun d=>some (.val d))++List.replicate (n - ds.length) none) else none
theorem fnO {x qual : Str} {st : Stmt} {f : Addr} {fd : FuncData} {N ps : List Str} {k n m : Nat} {fo : En -> Option En} {e : Expr} {pos : Pos} (F : Fun K x qual st f fd) (S : FnScope N ps (AN st)) (hn : N.length = n) (hm : ps.length = m) (hst : GD st = [.Return (some e) pos])
 (hb:∀(cdv:Value) (A:Around) (outer:List Env) (s:Shared) (H:Hp) (E:XK),Room k (A.deeper (envOfC qual (AN st) s.heap.objs.size f cdv))->DB (OF CX0 P w K mg base N qual (AN st) f cdv A outer s H E).nox (PR K) C names e fo) :
 FnOk P w K mg base CX0 (k+1) f fd ps (spO K C names (iQ n m fo)):=by
 subst hn hm;refine F.ok S (fun vs H Q E h=> ?_) fun cdv A outer s H vs Q E hr h=> ?_
 . obtain ⟨H0,ds,φ,s,hr,hf,_⟩:=h;unfold iQ at hf
   split at hf
   . rename_i hl;rw [hr.length,hl]
   . cases hf
 . obtain ⟨t,ht,rb⟩:=hb cdv A outer s H E hr;refine ⟨_,by rw [hst];exact RY (T2 ht),?_⟩;obtain ⟨H0,ds,φ,s0,hr,hf,q⟩:=h;unfold iQ at hf
   split at hf
   . exact rb H _ _ H0 H s0 ⟨PZ hr⟩ φ hf _ fun p vals H1 J1 x1 o1 e1=>q p vals H1 J1 x1 o1 e1
   . cases hf
end
def bY(n s:Nat)(fo:En->Option En)(g:En->Option Out):En->Option Out:=fun ρ=>if ρ.length=n then (fo ρ).bind fun φ=>(g (ρ.set s none++φ)).bind fun o=>match o with
 | .rt r _=>some (.rt r (List.replicate ρ.length none))
 | _=>none else none
theorem mI{HB H0 H:Hp}{σ:L2.St}{n:Nat}(h:σ.length=n):ER K HB H0 H σ (List.replicate n none) :=
 ⟨by rw [GG];exact h,fun i r hr=>(by rw [DX] at hr;split at hr <;> cases hr),fun i j a xs ys _ g1 _ _ _=>(by rw [DX] at g1;split at g1 <;> cases g1)⟩
theorem w6{te:TE}{tr:TS}{fo:En->Option En}{g:En->Option Out}{s n:Nat}(h:RB K (PR K) C names te fo)(hr:∀p:Addr,RS K (FR K ⟨C,names,s,n,p⟩) tr g)(hs:s<n):RS K (PR K) (S7 (T4 te (MS s)) tr) (bY n s fo g):=fun HB S0 σ ρ H0 H x e o ho D d=>by
 unfold bY at ho
 split at ho
 . rename_i hlen;obtain ⟨φ,hφ,ho⟩:=A0.mp ho;obtain ⟨o1,ho1,ho⟩:=A0.mp ho;have hσ:σ.length=n:=by rw [<-hlen];exact e.r.len
   refine h HB σ ρ H0 H x.s1 e φ hφ _ fun p vals H1 J1 x1 oa er=> ?_;have e1:ER K HB H1 J1 σ ρ:=ER.ext x1 e.r;have xx:=x.chain x1;have ob:OA C names HB H1 J1 p vals:=oa.base x.s;have eb:ER K HB H1 J1 vals φ:=er.base x.s;have lf:vals.length=φ.length:=er.len
   have nown:∀(i:Nat) r,(ρ.set s none)[i]? = some (some r)->i≠s/\ρ[i]? = some (some r):=by
    intro i r hi
    by_cases z:s=i
    . subst z;rw [BL] at hi
      cases hq:ρ[s]? with
      | none=>rw [hq] at hi;cases hi
      | some _=>rw [hq] at hi;cases hi
    . rw [A8 z] at hi
      exact ⟨fun w=>z w.symm,hi⟩
   have old:∀(i:Nat) xs a,ρ[i]? = some (some (.own xs))->σ[i]? = some (some (.ref a))->∃u,H a=some u:=by
    intro i xs a k1 k2;obtain ⟨v,g1,b,ws,rfl,_,_,g2,_⟩:=ER.get e.r i _ k1;rw [k2] at g1
    cases g1
    exact ⟨_,g2⟩
   have new:∀(j:Nat) ys a,φ[j]? = some (some (.own ys))->vals[j]? = some (some (.ref a))->H a=none:=by
    intro j ys a k1 k2;obtain ⟨v,g1,b,ws,rfl,g2,_⟩:=er.get j _ k1;rw [k2] at g1
    cases g1
    exact g2
   have l1:(ρ.set s none).length=n:=by rw [CD,hlen]
   have l2:(σ.set s (some (V.ref p))).length=n:=by rw [CD,hσ]
   refine hr p HB S0 _ _ H1 J1 xx ⟨⟨l2,p,vals,rfl,?_,ob,?_,fun i r hi=> ?_,fun i j a xs ys hij g1 g2 g3 g4=> ?_⟩⟩ o1 ho1 D ?_
   . show (σ.set s (some (V.ref p)))[s]? = _;rw [B7 (by rw [hσ];exact hs)]
   . rw [B3,B3,l1,l2,lf]
   . by_cases hin:i<n
     . rw [AG (by omega)] at hi ⊢
       obtain ⟨z,hi⟩:=nown i r hi;obtain ⟨v,g1,g2⟩:=e1.get i r hi;exact ⟨v,by rw [A8 (fun w=>z w.symm)];exact g1,g2⟩
     . rw [AB (by omega),l1] at hi
       rw [AB (by omega),l2];exact eb.get _ r hi
   . have mixed : ∀ (i j : Nat) xs ys, i < n -> n <= j -> (ρ.set s none ++ φ)[i]? = some (some (.own xs)) -> (ρ.set s none ++ φ)[j]? = some (some (.own ys)) -> (σ.set s (some (V.ref p)) ++ vals)[i]? = some (some (.ref a)) -> (σ.set s (some (V.ref p)) ++ vals)[j]? ≠ some (some (.ref a)) := by
      intro i j xs ys hi hj g1 g2 g3 g4;rw [AG (by omega)] at g1 g3
      rw [AB (by omega),l1] at g2
      rw [AB (by omega),l2] at g4
      obtain ⟨z,g1⟩:=nown i _ g1;rw [A8 (fun w=>z w.symm)] at g3
      obtain ⟨u,k1⟩:=old i xs a g1 g3;rw [new _ ys a g2 g4] at k1
      cases k1
     by_cases hi:i<n
     . by_cases hj:j<n
       . rw [AG (by omega)] at g1 g2 g3 g4
         obtain ⟨z1,g1⟩:=nown i _ g1;obtain ⟨z2,g2⟩:=nown j _ g2;rw [A8 (fun w=>z1 w.symm)] at g3
         rw [A8 (fun w=>z2 w.symm)] at g4
         exact e1.apart i j a xs ys hij g1 g2 g3 g4
       . exact mixed i j xs ys hi (by omega) g1 g2 g3 g4
     . by_cases hj:j<n
       . exact mixed j i ys xs hj (by omega) g2 g1 g4 g3
       . rw [AB (by omega),l1] at g1 g2
         rw [AB (by omega),l2] at g3 g4
         exact eb.apart _ _ a xs ys (by omega) g1 g2 g3 g4
   . cases o1 with
     | rt r ρ' =>
      cases ho
      exact fun v σ' H2 J2 a b c=>d v σ' H2 J2 a ⟨by rw [hlen];exact mI b.r.1⟩ c
     | nx _=>cases ho
     | bk _=>cases ho
     | ct _=>cases ho
 . cases ho
variable {od:OD}
theorem mO{ix:List (Option Nat)}(hx:(ix.filterMap id).Nodup:=by decide)(hn:(ix.all fun o=>match o with | some j=>decide (j<od.n) | none=>true)=true:=by rfl):∀(HB:Hp) (σ:L2.St) (ρ:En) (H0 H:Hp),(FR K od).r HB H0 H σ ρ->(PR K).r (fun _=>none) H0 H (FY ix σ) (CC ix ρ):=fun HB σ ρ H0 H e=>by
 obtain ⟨h1,p,vals,hpp,h2,h3,h4⟩:=e;have e:=ER.sub hx h4
 have:FY ix (σ++vals)=FY ix σ:=by
  unfold FY;refine List.map_congr_left fun o ho=> ?_
  cases o with
  | none=>rfl
  | some j=>
   have:=EG.mp hn _ ho;have hj:j<od.n:=by simpa using this
   show ((σ++vals)[j]?).join=_;rw [AG (by omega)]
 rw [this] at e
 exact e
def bD(ix:List (Option Nat))(n:Nat)(ρ:En):En:=CC ix ρ++ρ.drop n
theorem rR {ix : List (Option Nat)} {s' n' : Nat} (hs : ix[s']? = some (some od.s) := by rfl) (hl : ix.length = n' := by rfl) (hx : (ix.filterMap id).Nodup := by decide) (hn : (ix.all fun o => match o with | some j => decide (j < od.n) | none => true) = true := by rfl) :
 ∀(HB:Hp) (σ:L2.St) (ρ:En) (H0 H:Hp),(FR K od).r HB H0 H σ ρ->(FR K ⟨od.C,od.names,s',n',od.p⟩).r (fun _=>none) H0 H (FY ix σ) (bD ix od.n ρ):=fun HB σ ρ H0 H e=>by
 obtain ⟨h1,p,vals,hpp,h2,h3,h4⟩:=e
 have hlt:∀(i j:Nat),ix[i]? = some (some j)->j<od.n:=fun i j h=>by
  have:=EG.mp hn _ (AJ h);simpa using this
 have ls:(FY ix σ).length=n':=by unfold FY;rw [List.length_map,hl]
 have le:(CC ix ρ).length=n':=by unfold CC;rw [List.length_map,hl]
 have lρ:ρ.length=od.n+vals.length:=by rw [<-h4.len,B3,h1]
 have fi:∀(j:Nat),(ρ.drop od.n)[j]? = ρ[od.n+j]? :=fun j=>HP;have si:∀(j:Nat),(σ++vals)[od.n+j]? = vals[j]? :=fun j=>by rw [<-h1,AB (E2 _ _),EI]
 have sg:∀(i j:Nat),ix[i]? = some (some j)->(FY ix σ)[i]? = some ((σ++vals)[j]?).join:=fun i j h=>by rw [KP h,AG (by rw [h1];exact hlt i j h)]
 refine ⟨ls,p,vals,hpp,?_,⟨rfl,h3.h0p,h3.len,h3.ins⟩,?_,fun i r hi=> ?_,fun i k a xs ys hij g1 g2 g3 g4=> ?_⟩
 . show (FY ix σ)[s']? = _;rw [KP hs,h2];rfl
 . unfold bD;rw [List.length_append,List.length_append,ls,le,List.length_drop,lρ];omega
 . unfold bD at hi
   by_cases hin:i<n'
   . rw [AG (by omega)] at hi ⊢
     obtain ⟨j,k1,k2⟩:=IG hi;obtain ⟨v,k3,k4⟩:=h4.get j r k2;refine ⟨v,by rw [sg i j k1,k3];rfl,k4.base fun _ _ h=>by cases h⟩
   . rw [AB (by omega),le,fi] at hi
     rw [AB (by omega),ls];obtain ⟨v,k3,k4⟩:=h4.get _ r hi;rw [si] at k3
     exact ⟨v,k3,k4.base fun _ _ h=>by cases h⟩
 . unfold bD at g1 g2
   have mixed:∀(i k:Nat) xs ys,i<n'->n'<=k->(CC ix ρ++ρ.drop od.n)[i]? = some (some (.own xs))->(CC ix ρ++ρ.drop od.n)[k]? = some (some (.own ys))->(FY ix σ++vals)[i]? = some (some (.ref a))->(FY ix σ++vals)[k]? ≠ some (some (.ref a)):=by
    intro i k xs ys hi hk g1 g2 g3 g4;rw [AG (by omega)] at g1 g3
    rw [AB (by omega),le,fi] at g2
    rw [AB (by omega),ls] at g4
    obtain ⟨j,k1,k2⟩:=IG g1;rw [sg i j k1] at g3
    exact h4.apart j (od.n+(k - n')) a xs ys (by have:=hlt i j k1;omega) k2 g2 (join_some (B9 g3)) (by rw [si];exact g4)
   by_cases hi:i<n'
   . by_cases hk:k<n'
     . rw [AG (by omega)] at g1 g2 g3 g4
       obtain ⟨j,k1,k2⟩:=IG g1;obtain ⟨l,k3,k4⟩:=IG g2;rw [sg i j k1] at g3
       rw [sg k l k3] at g4
       exact h4.apart j l a xs ys (by rintro rfl;exact hij (XA hx k1 k3)) k2 k4 (join_some (B9 g3)) (join_some (B9 g4))
     . exact mixed i k xs ys hi (by omega) g1 g2 g3 g4
   . by_cases hk:k<n'
     . exact mixed k i ys xs hk (by omega) g2 g1 g4 g3
     . rw [AB (by omega),le,fi] at g1 g2
       rw [AB (by omega),ls] at g3 g4
       exact h4.apart _ _ a xs ys (by omega) g1 g2 (by rw [si];exact g3) (by rw [si];exact g4)
end
section
structure Klass (K:PySem.W.Frag) (C:Addr) (names:List Str):Prop where
 cl:Cls K C
 no:∀f ∈ names,NoAttr K C f
structure MDef (P:Program) (w:World) (K:PySem.W.Frag) (mg:Str->Option Value) (base:Heap) (k:Nat) (C:Addr) (m:Str) (ps:List Str) (sp:Sp):Prop where
 ex:∃f fd,FnOk P w K mg base CX0 k f fd ps sp/\Meth K C m f/\Binds K fd ps []
structure KDef (P:Program) (w:World) (K:PySem.W.Frag) (mg:Str->Option Value) (base:Heap) (k:Nat) (C:Addr) (x:Str) (ps:List Str) (sp:Sp):Prop where
 ex:∃f fd,FnOk P w K mg base CX0 k f fd ps sp/\Mk K C f/\mg x=some (.ref C)/\Binds K fd ps []
variable {X:Cx} {od:OD} {e a:Expr} {es:List Expr} {pos p apos cpos:Pos} {x f m:Str} {fe fa:En->Option Sl} {fs:En->Option (List PyData)} {R:Rl} [RelOk X.K R] {C:Addr} {names:List Str}
theorem JR (j : Nat) (k : Klass X.K od.C od.names) (hN : X.N[od.s]? = some x := by rfl) (hv : Vis X.env.scope x := by first | exact DM rfl | exact C7 (DM rfl) | exact C7 (C7 rfl)) (hj : od.names[j]? = some f := by rfl) (hd : (x == ("__debug__" : Str)) = false := by decide) (hcd : (x == ("__classdict__" : Str)) = false := by decide)
 (hb:attributeBase (.Name x p) f X.env (eval (.Name x p) X.env)=eval (.Name x p) X.env:=by rfl):DP X (FR X.K od) (.Attribute (.Name x p) f pos) (mPk (od.n+j)) :=
 ⟨_,SY (G3 hN hv hd hcd) hb,sF k.cl (k.no f (AJ hj)) hj⟩
theorem fW (j : Nat) (k : Klass X.K od.C od.names) (hN : X.N[od.s]? = some x := by rfl) (hv : Vis X.env.scope x := by first | exact DM rfl | exact C7 (DM rfl) | exact C7 (C7 rfl)) (hj : od.names[j]? = some f := by rfl) (hd : (x == ("__debug__" : Str)) = false := by decide) (hcd : (x == ("__classdict__" : Str)) = false := by decide)
 (hb:attributeBase (.Name x p) f X.env (eval (.Name x p) X.env)=eval (.Name x p) X.env:=by rfl):DE X (FR X.K od) (.Attribute (.Name x p) f pos) (mVar (od.n+j)) :=
 ⟨_,SY (G3 hN hv hd hcd) hb,v7 k.cl (k.no f (AJ hj)) hj⟩
theorem Q3 (j : Nat) {pos' : Pos} (k : Klass X.K od.C od.names) (h : DE X (FR X.K od) e fe) (hN : X.N[od.s]? = some x := by rfl) (hv : Vis X.env.scope x := by first | exact DM rfl | exact C7 (DM rfl) | exact C7 (C7 rfl)) (hj : od.names[j]? = some f := by rfl) (hd : (x == ("__debug__" : Str)) = false := by decide) (hcd : (x == ("__classdict__" : Str)) = false := by decide)
 (hs:swapsWith e (some (.Attribute (.Name x p) f pos')) pos.line X.env=pure false:=by rfl) (hnd:od.names.Nodup:=by exact AL rfl) (hlt:od.names.length<1000:=by exact AL rfl):DS X (FR X.K od) (.Assign [.Attribute (.Name x p) f pos'] e pos) (mAsg (od.n+j) fe):=by
 obtain ⟨t,h1,h2⟩:=h;exact ⟨_,t5 (G3 hN hv hd hcd) h1 hs,vT k.cl (k.no f (AJ hj)) hj hnd hlt h2⟩
theorem mG (j : Nat) {p3 : Pos} (k : Klass X.K od.C od.names) (h : DE X (FR X.K od) e fe) (hN : X.N[od.s]? = some x := by rfl) (hv : Vis X.env.scope x := by first | exact DM rfl | exact C7 (DM rfl) | exact C7 (C7 rfl)) (hj : od.names[j]? = some f := by rfl) (hd : (x == ("__debug__" : Str)) = false := by decide) (hcd : (x == ("__classdict__" : Str)) = false := by decide)
 (hb:attributeBase (.Name x p) f X.env (eval (.Name x p) X.env)=eval (.Name x p) X.env:=by rfl)
 (hst:starEach [e] X.env=(false,eval e X.env)::starEach [] X.env:=by rfl) (hbase:attributeBase (.Attribute (.Name x p) f p3) "append" X.env (eval (.Attribute (.Name x p) f p3) X.env)=eval (.Attribute (.Name x p) f p3) X.env:=by rfl)
 (hfew:((backTo cpos (starEach [e] X.env)).all (fun x=> !x.1) && (backToKw cpos (keywordEach [] X.env)).all (fun x=>x.1.isSome) && decide ([e].length+([]:List Keyword).length+(if ([]:List Keyword).isEmpty then 0 else 1)<30))=true:=by rfl)
 (hline:(apos.endLine==cpos.line)=true:=by rfl) (hplain:(backTo cpos (starEach [] X.env)).any (·.1)=false:=by rfl)
 (hs:swapsWith (.Call (.Attribute (.Attribute (.Name x p) f p3) "append" apos) [e] [] cpos) none pos.line X.env=pure false:=by rfl):DS X (FR X.K od) (.Expr (.Call (.Attribute (.Attribute (.Name x p) f p3) "append" apos) [e] [] cpos) pos) (mApp (od.n+j) fe):=by
 obtain ⟨t,h1,h2⟩:=h;exact ⟨_,M3 (Z4 HS GF LL NG (SY (G3 hN hv hd hcd) hb) (HH h1 KJ hst) hbase hfew hline hst hplain) hs,oF k.cl (k.no f (AJ hj)) hj h2⟩
theorem YS (j : Nat) {p3 ps : Pos} (k : Klass X.K od.C od.names) (h : DE X (FR X.K od) e fe) (hi : DP X (FR X.K od) a fa) (hN : X.N[od.s]? = some x := by rfl) (hv : Vis X.env.scope x := by first | exact DM rfl | exact C7 (DM rfl) | exact C7 (C7 rfl)) (hj : od.names[j]? = some f := by rfl) (hd : (x == ("__debug__" : Str)) = false := by decide) (hcd : (x == ("__classdict__" : Str)) = false := by decide)
 (hb:attributeBase (.Name x p) f X.env (eval (.Name x p) X.env)=eval (.Name x p) X.env:=by rfl)
 (ha:∀v,assign (.Subscript (.Attribute (.Name x p) f p3) a ps) X.env v=(do
  let ov <-holding [v] (eval (.Attribute (.Name x p) f p3) X.env)
  let iv <-holding [v,ov] (eval a X.env)
  standAt ps
  holding [v,ov,iv] (setItem ov iv v)
  release [v,ov,iv] []):=by intro _;rfl)
 (hs:swapsWithSole [.Subscript (.Attribute (.Name x p) f p3) a ps] e pos.line X.env=pure false:=by rfl) (hw:swappedStores [.Subscript (.Attribute (.Name x p) f p3) a ps] e X.env=pure none:=by rfl) (h1:(assignEach [.Subscript (.Attribute (.Name x p) f p3) a ps] X.env).map (·.2) = [assign (.Subscript (.Attribute (.Name x p) f p3) a ps) X.env]:=by rfl) :
 DS X (FR X.K od) (.Assign [.Subscript (.Attribute (.Name x p) f p3) a ps] e pos) (mSet (od.n+j) fa fe):=by
 obtain ⟨t,a1,a2⟩:=h;obtain ⟨u,b1,b2⟩:=hi;exact ⟨_,iV a1 (hU (SY (G3 hN hv hd hcd) hb) b1 UW ha) hs hw h1,lK k.cl (k.no f (AJ hj)) hj a2 b2⟩
variable {ps:List Str} {kk jj:Nat} {F:En->List PyData->Option (En×PyData)}
theorem VQ {pl : Sem Bool} (M : MDef X.prog X.w X.K X.mg X.base jj od.C m ps (spM X.K od.C od.names F)) (k : Klass X.K od.C od.names) (hr : Room kk X.A) (h : DA X (FR X.K od) (e :: es) fs) (hjj : jj <= kk := by decide) (hm : m ∉ od.names := by exact AL rfl) (hND : bT F := by exact VH) (hN : X.N[od.s]? = some x := by rfl) (hv : Vis X.env.scope x := by first | exact DM rfl | exact C7 (DM rfl) | exact C7 (C7 rfl)) (hd : (x == ("__debug__" : Str)) = false := by decide) (hcd : (x == ("__classdict__" : Str)) = false := by decide)
 (hst:starEach (e::es) X.env=(false,eval e X.env)::starEach es X.env:=by rfl) (hpl:(backTo cpos (starEach es X.env)).any (·.1)=false:=by rfl)
 (ht:eval (.Call (.Attribute (.Name x p) m apos) (e::es) [] cpos) X.env=(do
  let ov <-eval (.Name x p) X.env
  standAt apos.atName
  let (f,first) <-holding [ov] (getMethod ov m pl)
  callWith cpos f first (backTo cpos (starEach (e::es) X.env)) (backToKw cpos (keywordEach [] X.env))):=by rfl)
 (hs:swapsWith (.Call (.Attribute (.Name x p) m apos) (e::es) [] cpos) none pos.line X.env=pure false:=by rfl):DS X (FR X.K od) (.Expr (.Call (.Attribute (.Name x p) m apos) (e::es) [] cpos) pos) (IQ od.n F fs fun ρ _=>some (.nx ρ)):=by
 obtain ⟨t,h1,h2⟩:=h;obtain ⟨f,fd,F1,M1,b1⟩:=M.ex;exact ⟨_,M3 (aN (pl:=pl) (G3 hN hv hd hcd) k.cl M1 F1 (hr.mono hjj) b1 .nil Z7 h1 hst hpl ht) hs,eR hm hND h2⟩
theorem fQ (i : Nat) {pl : Sem Bool} {y : Str} {pos' : Pos} (M : MDef X.prog X.w X.K X.mg X.base jj od.C m ps (spM X.K od.C od.names F)) (k : Klass X.K od.C od.names) (hr : Room kk X.A) (h : DA X (FR X.K od) (e :: es) fs) (hnd : X.N.Nodup) (hjj : jj <= kk := by decide) (hm : m ∉ od.names := by exact AL rfl) (hND : bT F := by exact VH) (hN : X.N[od.s]? = some x := by rfl) (hv : Vis X.env.scope x := by first | exact DM rfl | exact C7 (DM rfl) | exact C7 (C7 rfl)) (hd : (x == ("__debug__" : Str)) = false := by decide) (hcd : (x == ("__classdict__" : Str)) = false := by decide)
 (hst:starEach (e::es) X.env=(false,eval e X.env)::starEach es X.env:=by rfl) (hpl:(backTo cpos (starEach es X.env)).any (·.1)=false:=by rfl)
 (ht:eval (.Call (.Attribute (.Name x p) m apos) (e::es) [] cpos) X.env=(do
  let ov <-eval (.Name x p) X.env
  standAt apos.atName
  let (f,first) <-holding [ov] (getMethod ov m pl)
  callWith cpos f first (backTo cpos (starEach (e::es) X.env)) (backToKw cpos (keywordEach [] X.env))):=by rfl)
 (hi:X.N[i]? = some y:=by rfl) (hx:Loc X.env.scope y:=by first | exact DM rfl | exact C7 rfl) (hs:swapsWith (.Call (.Attribute (.Name x p) m apos) (e::es) [] cpos) (some (.Name y pos')) pos.line X.env=pure false:=by rfl) (hf:X.fn y=true\/X.env.scope.names.lookup y=some .local:=by first | exact .inl rfl | exact .inr rfl)
 (hsl:(FR X.K od).slot i:=by exact ⟨AL rfl,AL rfl⟩):DS X (FR X.K od) (.Assign [.Name y pos'] (.Call (.Attribute (.Name x p) m apos) (e::es) [] cpos) pos) (IQ od.n F fs fun ρ d=>some (.nx (ρ.set i (some (.val d))))):=by
 obtain ⟨t,h1,h2⟩:=h;obtain ⟨f,fd,F1,M1,b1⟩:=M.ex;exact ⟨_,Q5 hnd hi hx (aN (pl:=pl) (G3 hN hv hd hcd) k.cl M1 F1 (hr.mono hjj) b1 .nil Z7 h1 hst hpl ht) hs hf,i7 hsl hm hND h2⟩
theorem lS {l : Nat} (M : KDef X.prog X.w X.K X.mg X.base jj C x ps (spM X.K C names F)) (hr : Room kk X.A) (h : DA X R (e :: es) fs) (hl : l = names.length := by rfl) (hjj : jj + 1 <= kk := by decide) (hg : Gl X x := by rfl) (hdb : (x == ("__debug__" : Str)) = false := by decide) (he : starEach (e :: es) X.env = (false, eval e X.env) :: starEach es X.env := by rfl) (hpl : (backTo pos (starEach es X.env)).any (·.1) = false := by rfl) :
 DB X R C names (.Call (.Name x p) (e::es) [] pos) (W9 l F fs):=by
 obtain ⟨t,h1,h2⟩:=h;obtain ⟨f,fd,F1,M1,m1,b1⟩:=M.ex;exact ⟨_,kW M1 F1 (hr.mono hjj) hg m1 b1 .nil Z7 h1 hdb he hpl,lR hl h2⟩
theorem mV {G : List PyData -> Option En} (D : Tf.Def X.prog X.w X.K X.mg X.base jj x ps (spO X.K C names G)) (hr : Room kk X.A) (h : DA X R (e :: es) fs) (hj : jj <= kk := by decide) (hg : Gl X x := by rfl)
 (hdb:(x==("__debug__" : Str))=false:=by decide) (he:starEach (e::es) X.env=(false,eval e X.env)::starEach es X.env:=by rfl) (hpl:(backTo pos (starEach es X.env)).any (·.1)=false:=by rfl):DB X R C names (.Call (.Name x p) (e::es) [] pos) (P4 G fs):=by
 obtain ⟨t,h1,h2⟩:=h;exact ⟨_,PD D hr h1 hj hg hdb he hpl,nQ h2⟩
theorem oW (s n : Nat) {fo : En -> Option En} {g : En -> Option Out} {rest : List Stmt} {pos' : Pos} (h : DB X (PR X.K) C names e fo) (hr : ∀ p : Addr, DSs X (FR X.K ⟨C, names, s, n, p⟩) rest g) (hnd : X.N.Nodup) (hsn : s < n := by decide) (hi : X.N[s]? = some x := by rfl) (hx : Loc X.env.scope x := by first | exact DM rfl | exact C7 rfl)
 (hs:swapsWith e (some (.Name x pos')) pos.line X.env=pure false:=by rfl) (hf:X.fn x=true\/X.env.scope.names.lookup x=some .local:=by first | exact .inl rfl | exact .inr rfl):DSs X (PR X.K) (.Assign [.Name x pos'] e pos::rest) (bY n s fo g):=by
 obtain ⟨t,h1,h2⟩:=h;refine ⟨_,HL (Q5 hnd hi hx h1 hs hf) (u:=fun D σ H=>∃p,(hr p).choose D σ H) (fun pins s σ H D I ⟨p,hp⟩=>(hr p).choose_spec.1 pins s σ H D I hp),w6 h2 (fun p=> ?_) hsn⟩;exact fun HB S0 σ ρ H0 H x e o ho D d=>⟨p,(hr p).choose_spec.2 HB S0 σ ρ H0 H x e o ho D d⟩
end
end Dm
namespace Dm
open PySem PySem.Spec PyProof.Rows L2 Tf
def UpK(K J:PySem.W.Frag):Prop:=∀a o,K.lookup a=some o->o≠PySem.W.tabObj #[]->J.lookup a=some o
theorem MK{K:PySem.W.Frag}{h:Heap}{ts:List Addr}(KX:K.In h)(hT:∀p ∈ ts,h.get? p=some (PySem.W.tabObj #[])):UpK K (BK K ts):=fun _ _ e hne=>IE (OP KX hT e hne) e
section
variable {K J:PySem.W.Frag}
theorem UpK.ns(u:UpK K J){n:Addr}{x:Str}{v:Option Value}(h:PySem.W.nsIn K n x=some v):PySem.W.nsIn J n x=some v:=by
 unfold PySem.W.nsIn at h ⊢
 split at h
 . rename_i oc od es ep sl e;rw [u _ _ e (fun z=>by cases z)];exact h
 . cases h
theorem UpK.own(u:UpK K J){x:Str}{c:Value}{v:Option Value}(h:PySem.W.ownIn K x c=some v):PySem.W.ownIn J x c=some v:=by
 unfold PySem.W.ownIn at h ⊢
 split at h
 . exact h
 . split at h
   . rename_i oc od cd sl e
     try dsimp only
     rw [u _ _ e (fun z=>by cases z)];exact u.ns h
   . cases h
 . exact h
theorem UpK.along(u:UpK K J){x:Str}{v:Option Value}:∀ {cs:List Value},PySem.W.alongIn K x cs=some v->PySem.W.alongIn J x cs=some v
 | [],h=>h
 | c::r,h=>by
  rw [PySem.W.alongIn] at h ⊢
  split at h
  . rename_i w e;rw [u.own e];exact h
  . rename_i e;rw [u.own e];exact u.along h
  . cases h
theorem UpK.find(u:UpK K J){t:Value}{x:Str}{v:Option Value}(h:PySem.W.findIn K t x=some v):PySem.W.findIn J t x=some v:=by
 unfold PySem.W.findIn at h ⊢
 split at h
 . exact h
 . split at h
   . rename_i oc od cd sl e
     try dsimp only
     rw [u _ _ e (fun z=>by cases z)];exact u.along h
   . cases h
 . cases h
theorem UpK.cls(u:UpK K J){C:Addr}{cd:ClassData}(h:PySem.W.clsIn K C=some cd):PySem.W.clsIn J C=some cd:=by
 unfold PySem.W.clsIn at h ⊢
 split at h
 . rename_i oc od c sl e;rw [u _ _ e (fun z=>by cases z)];exact h
 . cases h
theorem UpK.type(u:UpK K J){v t:Value}(h:PySem.W.typeIn K v=some t)(hne:t ≠ .none\/∀a,v ≠ .ref a):PySem.W.typeIn J v=some t:=by
 unfold PySem.W.typeIn at h ⊢
 split at h
 . rename_i a;obtain ⟨o,e,rfl⟩:=AQ.mp h;rcases hne with hne | hne
   . try dsimp only
     rw [u _ _ e (fun z=>by rw [z] at hne;exact hne rfl)];rfl
   . exact absurd rfl (hne a)
 . exact h
 . exact h
 . exact h
theorem UpK.special(u:UpK K J){w:Value}{x:Str}{v:Option Value}(h:PySem.W.specialIn K w x=some v):PySem.W.specialIn J w x=some v:=by
 unfold PySem.W.specialIn at h ⊢
 obtain ⟨t,ht,h⟩:=A0.mp h;rw [u.type ht (.inl fun z=>by subst z;cases h)];exact u.find h
theorem UpK.mro(u:UpK K J){C:Addr}{b:Value}{r:Bool}(h:PySem.W.mroIn K C b=some r):PySem.W.mroIn J C b=some r:=by
 unfold PySem.W.mroIn at h ⊢
 obtain ⟨cd,e,h⟩:=A0.mp h;rw [u.cls e];exact h
theorem UpK.inst(u:UpK K J){v b:Value}{r:Bool}(h:PySem.W.instIn K v b=some r):PySem.W.instIn J v b=some r:=by
 unfold PySem.W.instIn at h ⊢
 obtain ⟨t,ht,h⟩:=Option.bind_eq_some_iff.mp h;rw [u.type ht (.inl fun z=>by subst z;cases h)];show PySem.W.subIn J t b=some r;unfold PySem.W.subIn at h ⊢
 split at h
 . exact h
 . exact u.mro h
 . cases h
theorem UpK.isFn(u:UpK K J){v:Value}(h:PySem.W.isFn K v=true):PySem.W.isFn J v=true:=by
 unfold PySem.W.isFn at h ⊢
 rw [u.type (E9.mp h) (.inl fun z=>by cases z)];rfl
theorem UpK.keep(u:UpK K J){v:Value}(h:PySem.W.keepIn K v=true):PySem.W.keepIn J v=true:=by
 unfold PySem.W.keepIn at h ⊢
 split at h
 . split at h
   . rename_i oc od f sl e
     try dsimp only
     rw [u _ _ e (fun z=>by cases z)]
   . rename_i oc od c sl e
     try dsimp only
     rw [u _ _ e (fun z=>by cases z)]
     try dsimp only
     rw [u.special (E9.mp h)];rfl
   . cases h
 . cases h
theorem UpK.clas(u:UpK K J){C:Addr}(c:Cls K C):Cls J C:=by
 obtain ⟨h1,h2,h3,h4⟩:=c;refine ⟨?_,?_,?_,u.find h4⟩
 . unfold PySem.W.plainGet at h1 ⊢
   obtain ⟨a,b⟩:=OQ.mp h1;rw [u.find (E9.mp a),u.find (E9.mp b)];rfl
 . unfold PySem.W.hasDictIn at h2 ⊢
   cases e:PySem.W.clsIn K C with
   | none=>rw [e] at h2;cases h2
   | some cd=>rw [e] at h2;rw [u.cls e];exact h2
 . unfold PySem.W.plainOver at h3 ⊢
   cases e:PySem.W.clsIn K C with
   | none=>rw [e] at h3;cases h3
   | some cd=>rw [e] at h3;rw [u.cls e];exact h3
theorem UpK.klass(u:UpK K J){C:Addr}{names:List Str}(k:Klass K C names):Klass J C names:=⟨u.clas k.cl,fun f hf=>u.find (k.no f hf)⟩
theorem UpK.meth(u:UpK K J){C f:Addr}{m:Str}(k:Meth K C m f):Meth J C m f:=⟨u.find k.at_,u.isFn k.fn,u.keep k.kp⟩
theorem UpK.mk(u:UpK K J){C f:Addr}(k:Mk K C f):Mk J C f:=by
 refine ⟨?_,u.find k.init,u.isFn k.fn,u.keep k.kp⟩;have h:=k.makes;unfold PySem.W.makesIn at h ⊢
 split at h
 . rename_i oc od cd sl e;rw [u _ _ e (fun z=>by cases z)]
   try dsimp only
   simp only [FX] at h ⊢
   obtain ⟨⟨h1,h2⟩,h3⟩:=h;exact ⟨⟨h1,by rw [u.special (E9.mp h2)];rfl⟩,by rw [u.inst (E9.mp h3)];rfl⟩
 . cases h
end
end Dm
namespace Dm
open PySem PySem.Spec L2 Tf
def Wp(g:En->Option Out)(ρ:En)(Z:Out->Prop):Prop:=∃o,g ρ=some o/\Z o
def Nx(P:En->Prop):Out->Prop
 | .nx ρ=>P ρ
 | _=>False
def Rt(r:Sl):Out->Prop
 | .rt r' _=>r'=r
 | _=>False
def Lp(N:En->Prop)(Z:Out->Prop):Out->Prop
 | .nx ρ=>N ρ
 | .ct ρ=>N ρ
 | .bk ρ=>Z (.nx ρ)
 | .rt r ρ=>Z (.rt r ρ)
section
variable {f g:En->Option Out} {ρ:En} {Z:Out->Prop}
theorem MG{o:Out}(h:g ρ=some o)(z:Z o):Wp g ρ Z:=⟨o,h,z⟩
theorem Wp.imp{Y:Out->Prop}(h:Wp g ρ Y)(k:∀o,Y o->Z o):Wp g ρ Z:=by
 obtain ⟨o,h1,h2⟩:=h;exact ⟨o,h1,k o h2⟩
theorem L3(h:Wp f ρ (fun o=>match o with | .nx ρ'=>Wp g ρ' Z | o=>Z o)):Wp (mSeq f g) ρ Z:=by
 obtain ⟨o,h1,h2⟩:=h
 cases o with
 | nx ρ' =>
  obtain ⟨o2,h3,h4⟩:=h2
  exact ⟨o2,by unfold mSeq;rw [h1];exact h3,h4⟩
 | rt r ρ'=>exact ⟨_,by unfold mSeq;rw [h1];rfl,h2⟩
 | bk ρ'=>exact ⟨_,by unfold mSeq;rw [h1];rfl,h2⟩
 | ct ρ'=>exact ⟨_,by unfold mSeq;rw [h1];rfl,h2⟩
theorem EE{P:En->Prop}(h:Wp f ρ (Nx P))(k:∀ρ',P ρ'->Wp g ρ' Z):Wp (mSeq f g) ρ Z:=by
 refine L3 (h.imp fun o ho=> ?_)
 cases o with
 | nx ρ'=>exact k ρ' ho
 | _=>exact ho.elim
theorem GM{ρ':En}(h:f ρ=some (.nx ρ'))(k:Wp g ρ' Z):Wp (mSeq f g) ρ Z:=by
 obtain ⟨o,h1,h2⟩:=k;exact ⟨o,FT h h1,h2⟩
variable {i:Nat} {fe:En->Option Sl} {r:Sl} {c:En->Option Bool} {b:Bool}
theorem FG(h:fe ρ=some r)(k:Z (.nx (ρ.set i (some r)))):Wp (mAsg i fe) ρ Z:=⟨_,F3 h,k⟩
theorem BT(h:fe ρ=some r)(k:Wp g (ρ.set i (some r)) Z):Wp (mSeq (mAsg i fe) g) ρ Z:=GM (F3 h) k
theorem G4(h:Wp g (frz1 i ρ) Z):Wp (mFrz i g) ρ Z:=h
theorem DN(h:fe ρ=some r)(k:Z (.rt r ρ)):Wp (mRet fe) ρ Z:=⟨_,kB h,k⟩
theorem MD(h:c ρ=some b)(k:Wp (if b then f else g) ρ Z):Wp (mIf c f g) ρ Z:=by
 obtain ⟨o,h1,h2⟩:=k;refine ⟨o,LJ h ?_,h2⟩
 cases b <;> exact h1
theorem KO(h:c ρ=some true)(k:Wp f ρ Z):Wp (mIf c f g) ρ Z:=MD (b:=true) h k
theorem WG(h:c ρ=some false)(k:Wp g ρ Z):Wp (mIf c f g) ρ Z:=MD (b:=false) h k
theorem HA(k:Z (.nx ρ)):Wp mNext ρ Z:=⟨_,rfl,k⟩
theorem MC{h:En->Option Out}(hc:c ρ=some false)(k:Wp h ρ Z):Wp (mSeq (mIf c f mNext) h) ρ Z:=GM (LJ hc rfl) k
variable {fi:En->Option (List PyData)} {fg:PyData->En->Option En} {ds:List PyData}
theorem dQ(P:Nat->En->Prop)(hi:fi ρ=some ds)(h0:P 0 ρ)(hs:∀(j:Nat) d ρ,ds[j]? = some d->P j ρ->∃ρ1,fg d ρ=some ρ1/\Wp g ρ1 (Lp (P (j+1)) Z))(k:∀ρ',P ds.length ρ'->Z (.nx ρ')):Wp (F6 fi fg g) ρ Z:=by
 have gen:∀(n j:Nat) ρ,j+n=ds.length->P j ρ->∃o,JE fg g (ds.drop j) ρ=some o/\Z o:=by
  intro n
  induction n with
  | zero=>
   intro j ρ hj hp;have:j=ds.length:=by omega
   subst this;rw [E3 (AA _)]
   exact ⟨_,rfl,k ρ hp⟩
  | succ n ih=>
   intro j ρ hj hp;have hd:ds[j]? = some ds[j]:=B4 (by omega);obtain ⟨ρ1,h1,o,h2,h3⟩:=hs j ds[j] ρ hd hp;rw [KZ hd,h1];simp only [BJ,h2]
   cases o with
   | nx ρ2=>exact ih (j+1) ρ2 (by omega) h3
   | ct ρ2=>exact ih (j+1) ρ2 (by omega) h3
   | bk ρ2=>exact ⟨_,rfl,h3⟩
   | rt r ρ2=>exact ⟨_,rfl,h3⟩
 obtain ⟨o,h1,h2⟩:=gen ds.length 0 ρ (by omega) h0;refine ⟨o,N8 hi ?_,h2⟩;simpa using h1
theorem ZR(P:Nat->En->Prop){lo:Int}{n:Nat}(hi:fi ρ=some (FA lo n))(h0:P 0 ρ)(hs:∀(j:Nat) ρ,j<n->P j ρ->∃ρ1,fg (.int (lo+(j:Nat))) ρ=some ρ1/\Wp g ρ1 (Lp (P (j+1)) Z))(k:∀ρ',P n ρ'->Z (.nx ρ')):Wp (F6 fi fg g) ρ Z:=by
 refine dQ P hi h0 (fun j d ρ hd hp=> ?_) (by simpa [FA] using k);rw [M5] at hd
 split at hd
 . rename_i hlt
   cases hd
   exact hs j ρ hlt hp
 . cases hd
theorem JC(P:Nat->En->Prop){n:Nat}(hi:fi ρ=some (FA 0 n))(h0:P 0 ρ)(hs:∀(j:Nat) ρ,j<n->P j ρ->∃ρ1,fg (.int (j:Nat)) ρ=some ρ1/\Wp g ρ1 (Lp (P (j+1)) Z))(k:∀ρ',P n ρ'->Z (.nx ρ')):Wp (F6 fi fg g) ρ Z:=
 ZR P hi h0 (fun j ρ hj hp=>by rw [K8];exact hs j ρ hj hp) k
theorem FK{α:Type}{en:α->PyData}{xs:List α}(P:Nat->En->Prop)(hi:fi ρ=some (xs.map en))(h0:P 0 ρ)(hs:∀(j:Nat) x ρ,xs[j]? = some x->P j ρ->∃ρ1,fg (en x) ρ=some ρ1/\Wp g ρ1 (Lp (P (j+1)) Z))(k:∀ρ',P xs.length ρ'->Z (.nx ρ')):Wp (F6 fi fg g) ρ Z:=by
 refine dQ P hi h0 (fun j d ρ hd hp=> ?_) (by simpa using k);rw [B8] at hd
 obtain ⟨x,hx,rfl⟩:=AQ.mp hd;exact hs j x ρ hx hp
theorem hV(P:En->Prop)(μ:En->Nat)(h0:P ρ)(hs:∀ρ,P ρ->(c ρ=some false/\Z (.nx ρ))\/(c ρ=some true/\Wp g ρ (Lp (fun ρ'=>P ρ'/\μ ρ'<μ ρ) Z))):Wp (IX c g) ρ Z:=by
 have gen:∀(n:Nat) ρ,μ ρ<n->P ρ->∃o,FC c g n ρ=some o/\Z o:=by
  intro n
  induction n with
  | zero=>intro ρ h;omega
  | succ n ih=>
   intro ρ hm hp;rcases hs ρ hp with ⟨h,z⟩ | ⟨h,o,h1,h2⟩
   . exact ⟨.nx ρ,by simp [FC,h],z⟩
   . cases o with
     | nx ρ2=>
      obtain ⟨o,h4,h5⟩:=ih ρ2 (by have:=h2.2;omega) h2.1
      exact ⟨o,by simp [FC,h,h1,h4],h5⟩
     | ct ρ2=>
      obtain ⟨o,h4,h5⟩:=ih ρ2 (by have:=h2.2;omega) h2.1
      exact ⟨o,by simp [FC,h,h1,h4],h5⟩
     | bk ρ2=>exact ⟨_,by simp [FC,h,h1],h2⟩
     | rt r ρ2=>exact ⟨_,by simp [FC,h,h1],h2⟩
 obtain ⟨o,h1,h2⟩:=gen (μ ρ+1) ρ (by omega) h0;exact ⟨o,QX h1,h2⟩
theorem EK{n k:Nat}{ds:List PyData}(hl:ds.length=k)(e:ds.map (fun d=>some (Sl.val d))++List.replicate (n - ds.length) none=ρ)(h:Wp g ρ (Rt r)):EJ n g k ds=some r:=by
 obtain ⟨o,h1,h2⟩:=h
 cases o with
 | rt r' ρ'=>cases h2;exact GC hl e ⟨ρ',h1⟩
 | _=>exact h2.elim
end
theorem UG{α:Type}{en:α->PyData}{f:PyData->Option (Option PyData)}{P:α->Prop}:∀ {ds:List PyData},(∀d ∈ ds,∃v,f d=some (some (en v))/\P v)->∃L:List α,HK f ds=some (L.map en)/\L.length=ds.length/\∀s ∈ L,P s
 | [],_=>⟨[],rfl,rfl,fun _ h=>by cases h⟩
 | d::ds,h=>by
  obtain ⟨v,h1,h2⟩:=h d BU;obtain ⟨L,h3,h4,h5⟩:=UG (ds:=ds) fun d' hd=>h d' (B6 _ hd);refine ⟨v::L,by rw [HK,h1,h3];rfl,by rw [BS,h4,BS],fun s hs=> ?_⟩;rcases AZ.mp hs with rfl | hs
  . exact h2
  . exact h5 s hs
theorem sT{a b:En->Option Bool}{ρ:En}{k l:Bool}(h1:a ρ=some k)(h2:b ρ=some l):mAnd a b ρ=some (k && l):=by
 unfold mAnd;rw [h1]
 cases k
 . rfl
 . exact h2
theorem a0{a b:En->Option Bool}{ρ:En}{k l:Bool}(h1:a ρ=some k)(h2:b ρ=some l):mOr a b ρ=some (k || l):=by
 unfold mOr;rw [h1]
 cases k
 . exact h2
 . rfl
theorem TF{a:En->Option Bool}{ρ:En}{k:Bool}(h1:a ρ=some k):mNot a ρ=some (!k):=by
 unfold mNot;rw [h1];rfl
theorem TN{fa fb:En->Option Sl}{ρ:En}{i j:Int}(ha:fa ρ=some (.val (.int i)))(hb:fb ρ=some (.val (.int j))):mTest (mBin dne fa fb) ρ=some (!decide (i=j)):=by
 unfold mTest mBin;rw [ha,Option.bind_some,hb,Option.bind_some];show Option.bind ((eqD (.int i) (.int j)).map _) _=_;rw [eqD_int];rfl
theorem GR{fa fb:En->Option Sl}{ρ:En}{i j:Int}(ha:fa ρ=some (.val (.int i)))(hb:fb ρ=some (.val (.int j))):mTest (mBin deq fa fb) ρ=some (decide (i=j)):=by
 unfold mTest mBin;rw [ha,Option.bind_some,hb,Option.bind_some];show Option.bind ((eqD (.int i) (.int j)).map _) _=_;rw [eqD_int];rfl
theorem nI{fa fb:En->Option Sl}{ρ:En}{a b:Sl}(ha:fa ρ=some a)(hb:fb ρ=some b)(h:a.dat=b.dat)(h1:b.dat.canLay0=true)(h2:b.dat.depth<=60):mTest (mBin dne fa fb) ρ=some false:=by
 unfold mTest mBin;rw [ha,Option.bind_some,hb,Option.bind_some];show Option.bind ((eqD a.dat b.dat).map _) _=_;rw [h,VO h1 h2];rfl
theorem n0{fa fb:En->Option Sl}{ρ:En}{a b:Sl}(ha:fa ρ=some a)(hb:fb ρ=some b)(h:a.dat=b.dat)(h1:b.dat.canLay0=true)(h2:b.dat.depth<=60):mBin deq fa fb ρ=some (.val (.bool true)):=by
 unfold mBin;rw [ha,Option.bind_some,hb,Option.bind_some];show (eqD a.dat b.dat).map _=_;rw [h,VO h1 h2];rfl
def il(l:List Int):List PyData:=l.map .int
def nl(l:List Nat):List PyData:=l.map fun n:Nat=>PyData.int (n:Int)
theorem SQ(l:List Int):(il l).length=l.length:=A9 ..
theorem IH(l:List Nat):(nl l).length=l.length:=A9 ..
theorem NI(a b:List Nat):nl (a++b)=nl a++nl b:=CP ..
theorem XU(a b:List Int):il (a++b)=il a++il b:=CP ..
theorem atI_nat{α:Type}{xs:List α}{j:Nat}{x:α}(h:xs[j]? = some x):atI xs (j:Int)=some x:=by
 obtain ⟨hj,e⟩:=List.getElem?_eq_some_iff.mp h;unfold atI ixN;rw [if_pos (by omega),if_pos (by omega)];simpa using h
theorem FE{s:Sl}{ds:List PyData}{j:Nat}{d:PyData}(hs:s.dat = .list ds\/s.dat = .tuple ds)(h:ds[j]? = some d):dix s (.val (.int (j:Int)))=some (.val d):=by
 unfold dix;rcases hs with hs | hs <;> simp only [hs,atI_nat h,Option.map_some]
theorem cT(l:List Int):J0 (il l)=some l:=by
 induction l with
 | nil=>rfl
 | cons a l ih=>simp only [il,CU,J0] at ih ⊢;rw [ih];rfl
end Dm
namespace Tf
open PySem PySem.Spec PyProof.Rows L2
def Itv(K:PySem.W.Frag)(a:Addr)(n:Nat):It:=
 ⟨fun i H=>∃xs x,xs.length=n/\SqL K H a xs/\xs.reverse[i]? = some x,fun i H v H'=>H'=H/\∀xs,SqL K H a xs->xs.reverse[i]? = some v,fun i H=>n<=i⟩
theorem tL{α:Type}{xs:List α}{i:Nat}{x:α}(h:xs.reverse[i]? = some x):i<xs.length/\xs[xs.length - 1 - i]? = some x:=by
 have hi:i<xs.length:=by
  obtain ⟨q,_⟩:=AX.mp h;simpa using q
 rw [O9 hi] at h
 exact ⟨hi,h⟩
theorem iA{P:Program}{w:World}{K:PySem.W.Frag}{tg:Expr}(a it:Addr)(n:Nat):Turn P w K tg (Itv K a n) [it] it (fun i h=>i<=n/\h.IsRevIter it a ((n:Int) - 1 - (i:Nat))) where
 mem:=AD.mpr rfl
 obj:=fun i h st b hb=>by
  cases AD.mp hb
  obtain ⟨_,o,e,_,d⟩:=st;refine ⟨o,e,fun v z=> ?_⟩;rw [d] at z
  cases z
 keep:=fun i h h' st k=>⟨st.1,st.2.at fun o e=>k it (AD.mpr rfl) o e⟩
 item:=by
  intro X hP hw hK hc i pins s σ H E I hf st hg;subst hP hw hK;obtain ⟨xs,x,hn,hq,hx⟩:=hg;obtain ⟨hi,hx'⟩:=tL hx;obtain ⟨its,rv,p,hz⟩:=I.list hq;obtain ⟨u,hu,ru⟩:=rv.get hx';obtain ⟨f0,f1,f2,f3,f4,f5⟩:=hf it (AD.mpr rfl);have e1:((n:Int) - 1 - (i:Nat))=((xs.length - 1 - i:Nat):Int):=by omega
  have hit:=st.2;rw [e1] at hit
  refine wpAny_pyNext_rev_item hit p.isList (x:=u) (by simpa using hu) fun h' st' sb=> ?_;have I1:Inv X pins σ H {s with heap:=h' }:=I.turned (t':=s.toks) (fun b o hb e=>(sb.2 b hb).trans e) f0 f1 f3 f4 f5;have e2:((xs.length - 1 - i:Nat):Int) - 1=(n:Int) - 1 - ((i+1:Nat):Int):=by omega
  rw [e2] at st'
  obtain ⟨o,e,c,d⟩:=id st';refine ⟨u,rfl,ZJ (s:={s with heap:=h' }) e c d (by decide) ⟨x,H,I1,ru,⟨rfl,fun ys hy=> ?_⟩,⟨by omega,st'⟩,fun b hb=>(hf b hb).1⟩⟩;rw [I.list_inj hy hq];exact hx
 done:=by
  intro X hP hw hK hc i pins s σ H E I hf st hg;subst hP hw hK;obtain ⟨f0,f1,f2,f3,f4,f5⟩:=hf it (AD.mpr rfl);have hn:n<=i:=hg;have e1:((n:Int) - 1 - (i:Nat)) = -1:=by have:=st.1;omega
  have hit:=st.2;rw [e1] at hit
  exact wpAny_pyNext_rev_end (I.ok.hd hc) hit fun h' eb=>⟨rfl,I.turned (t':=s.toks) (fun b o hb e=>eb b o hb e) f0 f1 f3 f4 f5⟩
 self:=fun _ _ _ _ _ st h=>A08 st.2 h
section
variable {X:Cx}
def y8(K:PySem.W.Frag)(ta:TA):TI:=fun σ H R=>ta σ H fun vs H1=>∃l xs,vs = [.ref l]/\SqL K H1 l xs/\R (Itv K l xs.length) H1
theorem N9{h:Heap}{l:Addr}{i:Int}:(h.push (revObj l i)).IsRevIter h.objs.size l i:=⟨_,AW _ rfl,rfl,rfl⟩
theorem sC {tg a:Expr} {ta:TA} {p pos:Pos} (hg:Gl X "reversed") (hm:X.mg "reversed" = none) (ha:PA X [a] ta) (hs:starEach [a] X.env = [(false,eval a X.env)]:=by rfl):PI X tg (.Call (.Name "reversed" p) [a] [] pos) (y8 X.K ta):=by
 intro pins s σ H R I h;refine Call_ (IF I hg hm NX (CY (thn (ha pos pins s σ H _ I h) fun us s1 ⟨vs,H1,I1,r1,q1⟩ => ?_) hs rfl));obtain ⟨l,xs,e,hq,q⟩:=q1;subst e;obtain ⟨u,rfl,ru⟩:=K0 r1
 cases (show u=Value.ref l from ru)
 obtain ⟨its,rv,p1,hz⟩:=I1.list hq;have hl:=rv.length;refine call_reversed_list p1.isList ?_;refine A08 N9 ?_;refine ⟨s1.heap.objs.size,[s1.heap.objs.size],_,_,H1,rfl,I1.kept (t':=s1.toks) fun b o e=>A3 _ e,iA l _ xs.length,⟨DL _,?_⟩,fun b hb=> ?_,q⟩
 . have e:((its.toArray.size:Nat):Int) - 1=(xs.length:Int) - 1 - ((0:Nat):Int):=by simp;omega
   rw [<-e];exact N9
 . cases AD.mp hb
   exact I1.fpOk (AA _) (I1.hok.fresh (AA _))
end
theorem cM:typeLookup (.type "list_reverseiterator") "__len__" = pure none:=by rw [typeLookup_type,A00];kernel_rfl
theorem fT:typeLookup (.type "list_reverseiterator") "__length_hint__" = pure (some (.builtin "list_reverseiterator.__length_hint__")):=by rw [typeLookup_type,A00];kernel_rfl
section
variable {prog:Program} {w:World} {A:Around} {E:Value->Shared->Prop} {s:Shared} {it:Addr} {F W:List Addr} {G:Array GenState->Array GenState->Prop} {n:Nat} {P:Nat->Value->Prop} {St:Nat->Shared->Prop}
theorem nL {Q : List Value -> Shared -> Prop} (V : WalksS prog w A.in1 it F W G n P St) (ty : ∀ i s, St i s -> s.TypeIs (.ref it) "list_reverseiterator") (st : St 0 s) (lt : ∀ b ∈ F, b < s.heap.objs.size) (mem : it ∈ F)
 (q:∀s' acc,Moved W G s s'->ItemsOf P acc n->Q acc.toList s') (hn:n<=sizeLine):wpAny (model prog w) A (collect (.ref it)) Q E s:=by
 have out:s.heap.objs.size ∉ F:=fun z=>Nat.lt_irrefl _ (lt _ z);have ne:s.heap.objs.size≠it:=fun z=>out (z ▸ mem);unfold collect;refine wpAny_bind (wpAny_runValue (codeAny_builtin PySem.F.entry_proto_collect ?_));rw [Around.under_plainId PySem.F.plain_proto_collect _];show wpAny _ A.in1 (newList [] >>= fun z=>again (.builtin "list.__iadd__" ⟨[z, .ref it],[]⟩)) _ _ s;refine wpAny_bind (wpAny_newObj_type ?_);refine wpAny_pure ⟨plainId_quiet PySem.F.plain_list_iadd _,codeAny_builtin PySem.F.entry_list_iadd ?_⟩;rw [Around.under_plainId PySem.F.plain_list_iadd _];have st1:=V.frame 0 s (s.heap.push {cls:= .type "list",data:= .seq ([]:List Value).toArray}) s.toks st (Nat.le_refl _) fun b _ o z=>Heap.get?_push_of_some _ z;have new:(s.heap.push {cls:= .type "list",data:= .seq ([]:List Value).toArray}).get? s.heap.objs.size=some {cls:= .type "list",data:= .seq ([]:List Value).toArray}:=Heap.get?_push_size _ rfl;have un:Builtin.List.listSameRef (.ref s.heap.objs.size) (.ref it)=false:=by simp [Builtin.List.listSameRef,ne]
 show wpAny _ A.in1 (Builtin.List.listExtendWith (.ref s.heap.objs.size) (.ref it) (.ref s.heap.objs.size)) _ _ _;unfold Builtin.List.listExtendWith;refine wpAny_bind (wpAny_typeOf (ty 0 _ st1) ?_);rw [if_neg (by rw [un];decide)];refine wpAny_bind (V.self 0 _ _ _ st1 ?_);refine wpAny_bind (wpAny_holding ?_);unfold Builtin.List.listLengthHint;refine wpAny_bind (wpAny_specialOf (ty 0 _ st1) cM ?_);show wpAny _ A.in1 (specialOf (Value.ref it) (Str.ofString "__length_hint__") >>= _) _ _ _;refine wpAny_bind (wpAny_specialOf (ty 0 _ st1) fT ?_)
 (generalize hid:("list_reverseiterator.__length_hint__" : String)=id0;(fail_if_success (clear hid id0));wp_delta;rw [show splitId id0=some ("list_reverseiterator","__length_hint__") from by subst hid;decide +kernel];subst hid)
 refine A5 (wpAny_isInstance (b:=true) (ty 0 _ st1) (by rw [isSubtype_type];kernel_rfl) ?_);refine AR ?_;rw [C9 (by decide)];refine AR ⟨KB PySem.F.plain_extend_loop _,codeAny_extend_loopS V hn _ out _ n 0 _ _ _ rfl (DL _) st1 new (ItemsOf.nil P) fun s' acc' c' mv got all=> ?_⟩;show wpAny _ A (load s.heap.objs.size >>= _) _ _ s';refine A5 (wpAny_load got ?_);exact AR (q s' acc' (Moved.drop_new (o:={cls:= .type "list",data:= .seq ([]:List Value).toArray}) (tk:=s.toks) mv (AA _)) all)
theorem QG {Q₁ : Value -> Shared -> Prop} (V : WalksS prog w A.in1.in1 it F W G n P St) (ty : ∀ i s, St i s -> s.TypeIs (.ref it) "list_reverseiterator") (st : St 0 s) (lt : ∀ b ∈ F, b < s.heap.objs.size) (mem : it ∈ F)
 (q:∀s' acc,Moved W G s s'->ItemsOf P acc n->Q₁ (.ref s'.heap.objs.size) {s' with heap:=s'.heap.push {cls:= .type "tuple",data:= .seq acc} }) (hn:n<=sizeLine) :
 codeAny (model prog w) A (.call (.builtin "tuple.__new__") ⟨[.type "tuple", .ref it],[]⟩) (wants Q₁ E) s:=by
 refine codeAny_of_tree ?_;show wpAny _ A.in1 (do checkBuiltinCall "tuple.__new__" ⟨[.type "tuple", .ref it],[]⟩;again (.builtin "tuple.__new__" ⟨[.type "tuple", .ref it],[]⟩)) _ _ s;refine A5 (A07 (PySem.F.newCall_tuple_1 _) (AR ⟨KB pQ _,QI PySem.F.entry_tuple_new ?_⟩));rw [KD pQ _];have hsub:=sub_tuple_self;have hinit:=init_tuple_lookup;have hmh:=madeHere_tuple;have ty0:=ty 0 s st
 wp_walk using wpAny_typeOf ty0,nL (hn:=hn) V ty st lt mem
 intro s' acc mv all;show wpAny _ _ (Builtin.Tuple.tupleExact acc.toList.toArray >>= fun z=>ret z) _ _ _;unfold Builtin.Tuple.tupleExact;refine wpAny_bind (wpAny_newObj_type ?_ (by show acc.toList.toArray.size<=sizeLine;simp only [Array.toArray_toList];rw [all.1];exact hn));refine wpAny_pure ?_;have e:acc.toList.toArray=acc:=by simp
 rw [e];exact q s' acc mv all
theorem QF {Q : Value -> Shared -> Prop} (V : WalksS prog w A.in1.in1.in1 it F W G n P St) (ty : ∀ i s, St i s -> s.TypeIs (.ref it) "list_reverseiterator") (st : St 0 s) (lt : ∀ b ∈ F, b < s.heap.objs.size) (mem : it ∈ F)
 (q:∀s' acc,Moved W G s s'->ItemsOf P acc n->Q (.ref s'.heap.objs.size) {s' with heap:=s'.heap.push {cls:= .type "tuple",data:= .seq acc} }) (hn:n<=sizeLine) :
 wpAny (model prog w) A (call (.type "tuple") [.ref it]) Q E s:=by
 refine callType_codes (Q₁:=fun obj t=>t.TypeIs obj "tuple" /\ Q obj t) OU (PySem.F.typeCall_tuple_1 _) PySem.F.entry_object_init
  (QG (hn:=hn) V ty st lt mem fun s' acc mv all=>⟨⟨_,AW _ rfl,rfl⟩,q s' acc mv all⟩) fun obj t ht=> ?_
 exact ⟨ht.1,PySem.F.args_object_init_2 obj _,object_init_meets OU.init.lookup OU.made (by decide) prog w A.in1 _ t ⟨ht.1,rfl,ht.2⟩⟩
end
section
variable {X:Cx}
def YW(K:PySem.W.Frag)(ta:TA):TE:=fun σ H Q=>ta σ H fun vs H1=>∃l xs,vs = [.ref l]/\SqL K H1 l xs/\∀p,H1 p=none->Q (.ref p) (upd H1 p (.tup xs.reverse))
theorem bK {a : Expr} {ta : TA} {p p2 pos pos2 : Pos} (hc : X.calm = true) (hg : Gl X "reversed") (hm : X.mg "reversed" = none) (hg2 : Gl X "tuple") (hm2 : X.mg "tuple" = none) (ha : PA X [a] ta) (hs : starEach [a] X.env = [(false, eval a X.env)] := by rfl)
 (hs2:starEach [.Call (.Name "reversed" p) [a] [] pos] X.env = [(false,eval (.Call (.Name "reversed" p) [a] [] pos) X.env)]:=by rfl):PE X (.Call (.Name "tuple" p2) [.Call (.Name "reversed" p) [a] [] pos] [] pos2) (YW X.K ta):=by
 intro pins s σ H Q I h;refine FO (IF I hg2 hm2 JK ?_);refine CY ?_ hs2 rfl;rw [hs2];show wpAny _ _ (spliced ((false,eval (.Call (.Name "reversed" p) [a] [] pos) X.env) :: [])) _ _ s;refine Calls.spliced_cons ?_;refine FO (IF I hg hm NX ?_);refine CY (thn (ha pos pins s σ H _ I h) fun us s1 ⟨vs,H1,I1,r1,q1⟩ => ?_) hs rfl;obtain ⟨l,xs,e,hq,q⟩:=q1;subst e;obtain ⟨u,rfl,ru⟩:=K0 r1
 cases (show u=Value.ref l from ru)
 obtain ⟨its,rv,p1,hz⟩:=I1.list hq;have hl:=rv.length;refine call_reversed_list p1.isList ?_;refine Calls.spliced_nil ?_;have I2:Inv X pins σ H1 {s1 with heap:=s1.heap.push (revObj l ((its.toArray.size:Int) - 1))}:=I1.kept (t':=s1.toks) fun b o e=>A3 _ e;have lt1:l<s1.heap.objs.size:=by obtain ⟨o,n,e,_⟩:=p1;exact AU e
 have hd:X.A.handled=none:=I1.ok.hd hc;have V:=(Walks.listRev (prog:=X.prog) (w:=X.w) (A:=X.A.in1.in1.in1) hd s1.heap.objs.size l (D9 lt1) its.toArray).toS;obtain ⟨f0,f1,f2,f3,f4,f5⟩:=I1.fpOk (b:=s1.heap.objs.size) (AA _) (I1.hok.fresh (AA _));have hz':its.toArray.size<=sizeLine:=by simp only [AK];omega
 refine QF (s:={s1 with heap:=s1.heap.push (revObj l ((its.toArray.size:Int) - 1))}) V (fun i t st=>st.2.1.typeIs) ⟨DL _,?_,?_⟩ (fun b hb=> ?_) (BU ..) (fun s' acc mv all=> ?_) hz'
 . have e:((its.toArray.size:Int) - 1 - ((0:Nat):Int))=(its.toArray.size:Int) - 1:=by omega
   rw [e];exact N9
 . exact p1.isList.push _
 . show b<(s1.heap.push _).objs.size;rw [CZ];simp only [AZ,BA,EH] at hb
   rcases hb with rfl | rfl
   . exact IV _
   . exact zR lt1
 . obtain ⟨h',g',d',tk',os'⟩:=s';obtain ⟨mh,mg,md,mo,mt⟩:=mv;have e1:g'=s1.gens:=mg;have e2:d'=s1.drawn:=md;have e3:os'=s1.os:=mo;subst e1 e2 e3;have I3:Inv X pins σ H1 {s1 with heap:=h',toks:=tk' }:=I2.turned (fun b o hb e=>mh b o (by simpa using hb) e) f0 f1 f3 f4 f5
   have ra:∃ys:List Value,acc=ys.toArray/\ys=its.reverse:=by
    refine ⟨acc.toList,by simp,?_⟩;refine TZ fun i=> ?_;have hsz:acc.size=its.length:=by simpa using all.1
    by_cases hi:i<its.length
    . have hlt:i<acc.size:=by omega
      have h1:=all.2 i acc[i] (by simp [hlt]);rw [O9 hi];simp only [Array.getElem?_toList];rw [Array.getElem?_eq_getElem hlt, <-h1];simp
    . rw [D3 (by simp;omega),D3 (by simp;omega)]
   obtain ⟨ys,rfl,rfl⟩:=ra;have rr:Vals xs.reverse its.reverse:=rv.reverse
   have I4:Inv X pins σ (upd H1 h'.objs.size (.tup xs.reverse)) {s1 with heap:=h'.push {cls:= .type "tuple",data:= .seq its.reverse.toArray},toks:=tk' } :=
    I3.laid (t':=tk') (fun b o e=>A3 _ e) (AA _) (show ObjOk X.prog X.w _ _ _ (.tup xs.reverse) from ⟨by rw [List.length_reverse];exact hz,its.reverse,rr,IsTup.new _ _⟩)
   exact ⟨.ref h'.objs.size,_,I4,rfl,q _ (I3.hok.fresh (AA _))⟩
def y3(K:PySem.W.Frag)(tl:TE):TI:=fun σ H R=>tl σ H fun x H1=>∃a,x = .ref a/\(((∃xs,SqL K H1 a xs)/\R (Itl K a) H1)\/((∃xs,SqT K H1 a xs)/\R (Itt K a) H1))
theorem uZ{tg l:Expr}{tl:TE}(hl:PE X l tl):PI X tg l (y3 X.K tl):=by
 intro pins s σ H R I h;refine thn (hl pins s σ H _ I h) fun v s1 ⟨x,H1,I1,r1,q1⟩ => ?_;obtain ⟨a,e,⟨⟨xs,hq⟩,q⟩ | ⟨⟨xs,hq⟩,q⟩⟩:=q1
 . subst e
   cases r1
   obtain ⟨its,rv,p,hz⟩:=I1.list hq;refine dB p.isList ?_;refine ⟨s1.heap.objs.size,[s1.heap.objs.size],_,_,H1,rfl,I1.kept (t':=s1.toks) fun b o e=>A3 _ e,R8 a _,⟨_,AW _ rfl,rfl,rfl⟩,fun b hb=> ?_,q⟩
   cases AD.mp hb
   exact I1.fpOk (AA _) (I1.hok.fresh (AA _))
 . subst e
   cases r1
   obtain ⟨its,rv,p,hz⟩:=I1.tuple hq;refine b8 (show s1.heap.IsTuple a its.toArray from p) ?_;refine ⟨s1.heap.objs.size,[s1.heap.objs.size],_,_,H1,rfl,I1.kept (t':=s1.toks) fun b o e=>A3 _ e,XQ a _,⟨_,AW _ rfl,rfl,rfl⟩,fun b hb=> ?_,q⟩
   cases AD.mp hb
   exact I1.fpOk (AA _) (I1.hok.fresh (AA _))
end
end Tf
namespace Dm
open PySem PySem.Spec PyProof.Rows L2 Tf
section
variable {K:PySem.W.Frag} {R:Rl} [RelOk K R]
theorem Reps.rev{H:Hp}:∀ {vs:List V} {ds:List PyData},Reps K H vs ds->Reps K H vs.reverse ds.reverse
 | _,_, .nil=> .nil
 | _,_, .cons a t=>by
  rw [L8,L8];exact Reps.append (Reps.rev t) (.cons a .nil)
theorem rM{H0:Hp}{a:Addr}{vs:List V}{ds:List PyData}(h:SqL K H0 a vs)(r:Reps K H0 vs ds):ItR K H0 (Itv K a vs.length) ds.reverse:=fun H0' H' s s' i=>by
 have h':=s'.seq (s.seq h);refine ⟨fun d hd=> ?_,fun hi=>show vs.length<=i by rw [r.length];simpa using hi⟩;obtain ⟨v,e1,e2⟩:=Tf.Reps.get (Reps.rev r) hd;refine ⟨⟨vs,v,rfl,h',e1⟩,fun x H2 y=> ?_⟩;obtain ⟨rfl,y⟩:=y;have:=y vs h';rw [e1] at this
 cases this
 exact ⟨H0',Ext.refl s',Rep.same s e2⟩
def fO(f:En->Option (List PyData)):En->Option (List PyData):=fun ρ=>(f ρ).bind fun a=>match a with
 | [.list xs]=>some xs.reverse
 | _=>none
theorem uE{ta:TA}{f:En->Option (List PyData)}(h:RA K R ta f):RI K R (y8 K ta) (fO f):=fun HB σ ρ H0 H s e ds hd R q=>by
 obtain ⟨a,ha,hd⟩:=A0.mp hd
 split at hd
 . cases hd
   refine h HB σ ρ H0 H s e _ ha _ fun vs H1 J1 x1 p1=> ?_
   cases p1 with | cons p1 t=>
    cases t
    cases p1 with | list a1 a2=>
     exact ⟨_,_,rfl,x1.s1.seq a1,q _ _ _ x1 (rM a1 a2)⟩
 . cases hd
def OH:List Sl->Option Sl
 | [a]=>match a.dat with
  | .list ds=>some (.val (.tuple ds.reverse))
  | _=>none
 | _=>none
theorem bX{ta:TA}{f:En->Option (List Sl)}(h:RQ K R ta f):RE K R (YW K ta) (mCallP OH f):=fun HB σ ρ H0 H s e z hz Q q=>by
 obtain ⟨ss,hd,hz⟩:=Option.bind_eq_some_iff.mp hz;refine h HB σ ρ H0 H s e ss hd _ fun vs H1 J1 x1 p1=> ?_;unfold OH at hz
 split at hz
 . obtain ⟨v,rfl,pa⟩:=HC p1
   split at hz
   . rename_i ds hds
     cases hz
     obtain ⟨a,vs,rfl,h1,h2⟩:=pa.lst x1.s1 hds;exact ⟨a,vs,rfl,h1,fun p hp=>q _ _ _ (x1.trans (Ext.allocF x1.s1 hp _)) (.tuple (SqT.of BC) (Reps.same (Same.upd (x1.s1.free hp) _) (Reps.rev h2)))⟩
   . cases hz
 . cases hz
def C6(f:En->Option Sl):En->Option (List PyData):=fun ρ=>(f ρ).bind fun a=>match a.dat with
 | .list ds=>some ds
 | .tuple ds=>some ds
 | _=>none
theorem vH{te:TE}{f:En->Option Sl}(h:RE K R te f):RI K R (y3 K te) (C6 f):=fun HB σ ρ H0 H s e ds hd R q=>by
 obtain ⟨a,ha,hd⟩:=A0.mp hd
 split at hd
 . rename_i es he
   cases hd
   refine h.rv HB σ ρ H0 H s e a.dat (by unfold mDat;rw [ha];rfl) _ fun v H1 J1 x1 p1=> ?_;rw [he] at p1
   cases p1 with
   | list h1 h2=>exact ⟨_,rfl, .inl ⟨⟨_,x1.s1.seq h1⟩,q _ _ _ x1 (YQ h1 h2)⟩⟩
 . rename_i es he
   cases hd
   refine h.rv HB σ ρ H0 H s e a.dat (by unfold mDat;rw [ha];rfl) _ fun v H1 J1 x1 p1=> ?_;rw [he] at p1
   cases p1 with
   | tuple h1 h2=>exact ⟨_,rfl, .inr ⟨⟨_,x1.s1.seqT h1⟩,q _ _ _ x1 (sM h1 h2)⟩⟩
 . cases hd
def WM(i:Nat)(f:En->Option Sl):En->Option Out:=fun ρ=>match (ρ[i]?).join with
 | some (.own ds)=>(f ρ).bind fun r=>match r with
  | .own es=>if ds.length+es.length<=sizeLine then some (.nx (ρ.set i (some (.own (ds++es))))) else none
  | _=>none
 | _=>none
theorem uS{te:TE}{f:En->Option Sl}{i:Nat}(hsl:R.slot i)(h:RE K R te f):RS K R (R6 (tBM K "list" rExtend (KI i) (JV te tNil))) (WM i f):=fun HB S0 σ ρ H0 H x e o ho D d=>by
 unfold WM at ho
 split at ho
 . rename_i ds hj;obtain ⟨r,hr,ho⟩:=A0.mp ho
   split at ho
   . rename_i es
     split at ho
     . rename_i hl
       cases ho
       obtain ⟨a,vs,hi,hs,g1,g2,g3,g4⟩:=SH (K:=K) e hsl hj;refine ⟨.ref a,hs, .inl ⟨rfl,vs,SqL.of g3⟩,?_⟩;refine h HB σ ρ H0 H x.s1 e _ hr _ fun v H1 J1 x1 p1=> ?_;obtain ⟨a',vs',rfl,n1,n2,n3,n4⟩:=p1;have l0:=x1.own a _ g3 D4 g2;refine ⟨a,a',vs,vs',rfl,rfl,x1.s _ _ g3,n3,by rw [g4.length,n4.length];exact hl,?_⟩;exact d σ H1 _ ((x.chain x1).write g1 l0 _) ⟨RelOk.write (K:=K) (e.ext (K:=K) x1).r hsl hi hs g1 l0 (x1.s _ _ g3) (Reps.append (Reps.same x1.s0 g4) n4)⟩
     . cases ho
   . cases ho
 . cases ho
def UC(K:PySem.W.Frag)(i:Nat)(a:Addr)(ds:List PyData):Rl:=⟨fun HB H0 H σ ρ=>ER K HB H0 H σ ρ/\σ[i]? = some (some (.ref a))/\ρ[i]? = some (some (.own ds)),fun k=>k≠i/\(0:Nat)=0⟩
instance relOk_Pin {i:Nat} {a:Addr} {ds:List PyData}:RelOk K (UC K i a ds) where
 ext:=fun x e=>⟨ER.ext x e.1,e.2⟩
 get:=fun e _ h=>ER.get e.1 _ _ h
 set:=fun {_ _ _ _ _ _ _ k _ _} e hs x s h=>⟨(relOk_PR (K:=K)).set e.1 trivial x s h,by rw [A8 hs.1];exact e.2.1,by rw [A8 hs.1];exact e.2.2⟩
 write:=fun e hs h1 h2 h3 h4 h5 h6=>⟨(relOk_PR (K:=K)).write e.1 trivial h1 h2 h3 h4 h5 h6,e.2.1,by rw [A8 hs.1];exact e.2.2⟩
 frz:=fun e hs h x=>by
  obtain ⟨H0',h1,h2⟩:=(relOk_PR (K:=K)).frz e.1 trivial h x;exact ⟨H0',h1,h2,e.2.1,by rw [A8 hs.1];exact e.2.2⟩
def tEx(t:Addr->List PyData->TS):TS:=fun D σ H=>∃a ds,t a ds D σ H
def RF(i:Nat)(fg:PyData->En->Option En)(gb:En->Option Out):En->Option Out:=fun ρ=>match (ρ[i]?).join with
 | some (.own ds)=>JE fg gb ds ρ
 | _=>none
theorem WH{HB H0 H:Hp}{σ:L2.St}{ρ:En}{i:Nat}{a:Addr}{ds:List PyData}(e:ST (UC K i a ds) HB H0 H σ ρ):ST (PR K) HB H0 H σ ρ:=⟨e.r.1⟩
theorem o9 {g : Addr -> List PyData -> TG} {tb : Addr -> List PyData -> TS} {i : Nat} {fg : PyData -> En -> Option En} {gb : En -> Option Out} (hg : ∀ a ds, RG K (UC K i a ds) (g a ds) fg) (hb : ∀ a ds, RS K (UC K i a ds) (tb a ds) gb) :
 RS K (PR K) (v4 (eI K (KI i)) (fun v σ H Q=>∃a ds,g a ds v σ H Q) (tEx tb)) (RF i fg gb):=fun HB S0 σ ρ H0 H x e o ho D d=>by
 unfold RF at ho
 split at ho
 . rename_i ds hj;obtain ⟨a,vs,hi,hs,g1,g2,g3,g4⟩:=SH (K:=K) e trivial hj;refine ⟨.ref a,hs,a,rfl,⟨vs,SqL.of g3⟩,?_⟩;refine ⟨fun n m σ' H'=>m=ds.length - n/\∃ρ' H0',n<=ds.length/\Ext S0 HB H0' H'/\ST (UC K i a ds) HB H0' H' σ' ρ'/\JE fg gb (ds.drop n) ρ'=some o,⟨_,rfl,ρ,H0,DL _,x,⟨e.r,hs,hi⟩,by simpa using ho⟩,?_⟩;rintro n m σ1 H1 ⟨rfl,ρ1,H01,hle,x1,e1,hf⟩;obtain ⟨v,w1,w2⟩:=ER.get e1.r.1 _ _ e1.r.2.2;rw [e1.r.2.1] at w1
   cases w1
   obtain ⟨a',vs1,ea,b1,b2,b3,b4⟩:=w2
   cases ea
   by_cases hlt:n<ds.length
   . right;have hd:ds[n]? = some ds[n]:=B4 hlt;obtain ⟨v1,c1,c2⟩:=Tf.Reps.get b4 hd;rw [KZ hd] at hf
     obtain ⟨ρ2,hr2,hf⟩:=A0.mp hf;obtain ⟨o2,ho2,hf⟩:=A0.mp hf
     refine ⟨⟨vs1,v1,SqL.of b3,c1⟩,fun σ' H'=>∃ρ' H0',Ext S0 HB H0' H'/\ST (UC K i a ds) HB H0' H' σ' ρ'/\JE fg gb (ds.drop (n+1)) ρ'=some o,
      fun σ' H' ⟨ρ',H0',z1,z2,z3⟩=>⟨ds.length - (n+1),by omega,rfl,ρ',H0',hlt,z1,z2,z3⟩,fun u H2 y=> ?_⟩
     obtain ⟨rfl,y⟩:=y;have hu:=y vs1 (SqL.of b3);rw [c1] at hu
     cases hu
     refine ⟨a,ds,hg a ds HB σ1 ρ1 ρ2 H01 H2 v1 _ x1.s1 x1.s e1 c2 hr2 _ fun σ2 e2=>⟨a,ds,?_⟩⟩;refine hb a ds HB S0 σ2 ρ2 H01 H2 x1 e2 o2 ho2 _ ?_
     cases o2 with
     | nx ρ3=>exact fun σ' H0'' H' p q=>⟨ρ3,H0'',p,q,hf⟩
     | ct ρ3=>exact fun σ' H0'' H' p q=>⟨ρ3,H0'',p,q,hf⟩
     | bk ρ3=>cases hf;exact fun σ' H0'' H' p q=>d σ' H0'' H' p (WH q)
     | rt r ρ3=>cases hf;exact fun v σ' H0'' H' p q c=>d v σ' H0'' H' p (WH q) c
   . left;refine ⟨⟨vs1,SqL.of b3,by rw [b4.length];omega⟩,?_⟩;rw [E3 (by omega)] at hf
     cases hf
     exact d σ1 H01 H1 x1 (WH e1)
 . cases ho
end
section
variable {X:Cx} {R R':Rl} [RelOk X.K R] [RelOk X.K R'] {a b c e:Expr} {pos p p2 pos2:Pos} {f g fa fb fc:En->Option Sl} {fs:En->Option (List PyData)} {fq:En->Option (List Sl)} {tg:Expr} {x:Str}
theorem rP (hm:X.mg "reversed" = none) (h:DA X R [a] fs) (hg:Gl X "reversed" :=by rfl) (hs:starEach [a] X.env = [(false,eval a X.env)]:=by rfl):DI X R tg (.Call (.Name "reversed" p) [a] [] pos) (fO fs):=by
 obtain ⟨t,h1,h2⟩:=h;exact ⟨_,sC hg hm h1 hs,uE h2⟩
theorem EF(h:DE X R e f):DI X R tg e (C6 f):=by
 obtain ⟨t,h1,h2⟩:=h;exact ⟨_,uZ h1,vH h2⟩
theorem d9 (hm : X.mg "reversed" = none) (hm2 : X.mg "tuple" = none) (h : DQ X R [a] fq) (hc : X.calm = true := by rfl) (hg : Gl X "reversed" := by rfl) (hg2 : Gl X "tuple" := by rfl) (hs : starEach [a] X.env = [(false, eval a X.env)] := by rfl)
 (hs2:starEach [.Call (.Name "reversed" p) [a] [] pos] X.env = [(false,eval (.Call (.Name "reversed" p) [a] [] pos) X.env)]:=by rfl):DE X R (.Call (.Name "tuple" p2) [.Call (.Name "reversed" p) [a] [] pos] [] pos2) (mCallP OH fq):=by
 obtain ⟨t,h1,h2⟩:=h;exact ⟨_,bK hc hg hm hg2 hm2 h1 hs hs2,bX h2⟩
theorem fK (i : Nat) {apos cpos : Pos} (h : DE X R e f) (hN : X.N[i]? = some x := by rfl) (hv : Vis X.env.scope x := by first | exact DM rfl | exact C7 (DM rfl) | exact C7 (C7 rfl)) (hd : (x == ("__debug__" : Str)) = false := by decide) (hcd : (x == ("__classdict__" : Str)) = false := by decide)
 (hst:starEach [e] X.env=(false,eval e X.env)::starEach [] X.env:=by rfl) (hbase:attributeBase (.Name x p) "extend" X.env (eval (.Name x p) X.env)=eval (.Name x p) X.env:=by rfl)
 (hfew:((backTo cpos (starEach [e] X.env)).all (fun x=> !x.1) && (backToKw cpos (keywordEach [] X.env)).all (fun x=>x.1.isSome) && decide ([e].length+([]:List Keyword).length+(if ([]:List Keyword).isEmpty then 0 else 1)<30))=true:=by rfl)
 (hline:(apos.endLine==cpos.line)=true:=by rfl) (hplain:(backTo cpos (starEach [] X.env)).any (·.1)=false:=by rfl)
 (hs:swapsWith (.Call (.Attribute (.Name x p) "extend" apos) [e] [] cpos) none pos.line X.env=pure false:=by rfl) (hsl:R.slot i:=by first | exact D4 | exact ⟨AL rfl,AL rfl⟩):DS X R (.Expr (.Call (.Attribute (.Name x p) "extend" apos) [e] [] cpos) pos) (WM i f):=by
 obtain ⟨t,h1,h2⟩:=h;exact ⟨_,M3 (Z4 HS PySem.F.slot_list_extend PySem.F.type_list_extend bL (G3 hN hv hd hcd) (HH h1 KJ hst) hbase hfew hline hst hplain) hs,uS hsl h2⟩
theorem oM {K : PySem.W.Frag} (i : Nat) {sts : List Stmt} {gb : En -> Option Out} {fg : PyData -> En -> Option En} (hK : X.K = K) (hp : PassesOwn (model X.prog X.w) X.A X.env X.xe) (hg : ∀ a ds, DG X (UC K i a ds) tg fg) (hb : ∀ a ds, DSs X (UC K i a ds) sts gb)
 (hN:X.N[i]? = some x:=by rfl) (hv:Vis X.env.scope x:=by first | exact DM rfl | exact C7 (DM rfl) | exact C7 (C7 rfl)) (hd:(x==("__debug__" : Str))=false:=by decide) (hcd:(x==("__classdict__" : Str))=false:=by decide)
 (hc:X.calm=true:=by rfl) (hfs:∀q,foldedSetIterable (.Name x p) X.env q=pure q:=by intro _;rfl) :
 DS X (PR K) (.For tg (.Name x p) sts [] pos) (RF i fg gb):=by
 subst hK;refine ⟨_,jH hp hc (aA (G3 hN hv hd hcd)) (g:=fun v σ H Q=>∃a ds,(hg a ds).choose v σ H Q) ?_ (tb:=tEx fun a ds=>(hb a ds).choose) ?_ hfs,o9 (fun a ds=>(hg a ds).choose_spec.2) (fun a ds=>(hb a ds).choose_spec.2)⟩
 . intro pins s σ H v u Q I r h;obtain ⟨a,ds,h⟩:=h;exact (hg a ds).choose_spec.1 pins s σ H v u Q I r h
 . intro pins s σ H D I h;obtain ⟨a,ds,h⟩:=h;exact (hb a ds).choose_spec.1 pins s σ H D I h
end
theorem pD{α:Type}{en:α->PyData}{xs:List α}{i:Nat}{ρ:En}{fg:PyData->En->Option En}{g:En->Option Out}{Z:Out->Prop}(P:Nat->En->Prop)(hi:(ρ[i]?).join=some (.own (xs.map en)))(h0:P 0 ρ)(hs:∀(j:Nat) x ρ,xs[j]? = some x->P j ρ->∃ρ1,fg (en x) ρ=some ρ1/\Wp g ρ1 (Lp (P (j+1)) Z))(k:∀ρ',P xs.length ρ'->Z (.nx ρ')):Wp (RF i fg g) ρ Z:=by
 obtain ⟨o,h1,h2⟩:=FK (fi:=fun _=>some (xs.map en)) P rfl h0 hs k;refine ⟨o,?_,h2⟩;unfold RF;rw [hi];exact h1
theorem fY{i:Nat}{f:En->Option Sl}{ρ:En}{ds es:List PyData}(h:f ρ=some (.own es))(ho:(ρ[i]?).join=some (.own ds))(hl:ds.length+es.length<=sizeLine):WM i f ρ=some (.nx (ρ.set i (some (.own (ds++es))))):=by
 unfold WM;rw [ho];show Option.bind (f ρ) _=_;rw [h];show (if ds.length+es.length<=sizeLine then _ else _)=_;rw [if_pos hl]
end Dm
namespace Tf
open PySem PySem.Spec PyProof.Rows L2
section
variable {prog:Program} {w:World} {A:Around} {E:Value->Shared->Prop} {s:Shared}
theorem SD {j t : Addr} {n : Nat} {us} {u : Value} {Q : Value -> Shared -> Prop} (st : s.heap.IsTupleIter j t n) (tu : s.heap.IsTuple t us) (hu : us[n]? = some u)
 (q:∀h',h'.IsTupleIter j t (n+1)->Heap.SameBut j s.heap h'->Q u {s with heap:=h' }):wpAny (model prog w) A (Builtin.SmallTypes.nextOf (.ref j)) Q E s:=by
 obtain ⟨o1,g1,c1,d1⟩:=id st;obtain ⟨o2,g2,_,n2,d2⟩:=tu;unfold Builtin.SmallTypes.nextOf
 refine A5 (G5 (name:=Str.ofString "__next__") st.typeIs FQ
  (K1 FQ st.typeIs TQ ?_ (RW _)))
 show wpAny _ _ (field (.ref j) 0 >>= _) _ _ s;refine A5 (TY g1 d1 (x:= .ref t) rfl ?_);show wpAny _ _ (if (Value.ref t==Value.none)=true then _ else _) _ _ s;rw [C9 (show ¬((Value.ref t==Value.none)=true) from ET)];show wpAny _ _ (field (.ref j) 1 >>= _) _ _ s;refine A5 (TY g1 d1 (x:= .int n 0) rfl ?_);show wpAny _ _ (seqItems? (.ref t) >>= _) _ _ s;refine A5 (FP g2 d2 ?_);simp only [TR,hu];refine A5 (wpAny_setField g1 d1 (by simp) (AR ⟨u,rfl,AR (q _ ?_ (Heap.SameBut.update ..))⟩));exact ⟨_,zZ _ g1 (Obj.isFreed_of_fields (Obj.data_mapFields d1 _)),(Obj.cls_mapFields ..).trans c1,by rw [Obj.data_mapFields d1];simp [rawInt]⟩
theorem OX {j t : Addr} {n : Nat} {us} {Q : Value -> Shared -> Prop} (hh : A.handled = none) (st : s.heap.IsTupleIter j t n) (tu : s.heap.IsTuple t us) (hu : us[n]? = none)
 (q:∀h' e,Heap.ExtBut j s.heap h'->(∃o,h'.get? e=some o/\o.cls = .type "StopIteration")->E (.ref e) {s with heap:=h' }):wpAny (model prog w) A (Builtin.SmallTypes.nextOf (.ref j)) Q E s:=by
 obtain ⟨o1,g1,c1,d1⟩:=id st;obtain ⟨o2,g2,_,n2,d2⟩:=tu;unfold Builtin.SmallTypes.nextOf
 refine A5 (G5 (name:=Str.ofString "__next__") st.typeIs FQ
  (K1 FQ st.typeIs TQ ?_ (RW _)))
 show wpAny _ _ (field (.ref j) 0 >>= _) _ _ s;refine A5 (TY g1 d1 (x:= .ref t) rfl ?_);show wpAny _ _ (if (Value.ref t==Value.none)=true then _ else _) _ _ s;rw [C9 (show ¬((Value.ref t==Value.none)=true) from ET)];show wpAny _ _ (field (.ref j) 1 >>= _) _ _ s;refine A5 (TY g1 d1 (x:= .int n 0) rfl ?_);show wpAny _ _ (seqItems? (.ref t) >>= _) _ _ s;refine A5 (FP g2 d2 ?_);simp only [TR,hu];refine A5 (wpAny_rule (A5 (wpAny_setField g1 d1 (by simp) ?_)));show wpAny _ _ (newExc (.type "StopIteration") [] >>= _) _ _ _;refine A5 ?_;simp only [newExc,newTuple];refine A5 (FD ?_ (by size_fits));refine A5 (m:=firstArgMember _ _) (A07 (a:=Value.none) (by first | rfl | (simp only [firstArgMember];rfl)) ?_);refine FD ?_ (by size_fits);simp only [raiseNew];refine A5 (wpAny_handled ?_)
 first | rw [show A.in1.handled=none from hh] | rw [hh]
 refine A5 (AR (wpAny_throw ?_));exact q _ _ (((Heap.SameBut.update ..).extBut.push _).push _) ⟨_,AW _ rfl,rfl⟩
theorem E5{h h':Heap}{j t b:Addr}{n:Nat}(st:h.IsTupleIter j t n)(k:∀c o,c≠b->h.get? c=some o->h'.get? c=some o)(hb:j≠b):h'.IsTupleIter j t n:=st.at fun o e=>k j o hb e
theorem HV{h h':Heap}{t b:Addr}{us}(st:h.IsTuple t us)(k:∀c o,c≠b->h.get? c=some o->h'.get? c=some o)(hb:t≠b):h'.IsTuple t us:=by
 obtain ⟨o,e,r⟩:=st;exact ⟨o,k t o hb e,r⟩
theorem cY {z TI TO j1 j2 t1 t2 : Addr} {n1 n2 : Nat} {xs ys : Array Value} {x y a b : Value} {Q : Value -> Shared -> Prop} (D : ZipApart z TI TO j1 j2 t1 t2)
 (hz:IsZip s.heap z TI TO .none) (hI:IsPair s.heap TI (.ref j1) (.ref j2)) (hO:IsPair s.heap TO a b)
 (s1:s.heap.IsTupleIter j1 t1 n1) (s2:s.heap.IsTupleIter j2 t2 n2) (l1:s.heap.IsTuple t1 xs) (l2:s.heap.IsTuple t2 ys) (hx:xs[n1]? = some x) (hy:ys[n2]? = some y)
 (q:∀h',IsZip h' z TI TO (rawInt s.heap.objs.size)->IsPair h' TO x y->h'.IsTupleIter j1 t1 (n1+1)->h'.IsTupleIter j2 t2 (n2+1)->IsPair h' s.heap.objs.size x y->h'.objs.size=s.heap.objs.size+1 ->
  (∀c o,c≠z->c≠TO->c≠j1->c≠j2->s.heap.get? c=some o->h'.get? c=some o)->Q (.ref s.heap.objs.size) {s with heap:=h' }) :
 wpAny (model prog w) A (Builtin.«zip.__next__» ⟨[.ref z], []⟩) (fun fin s' => ∃ v, fin = .done (.ret v) /\ Q v s') E s := by
 show wpAny _ _ (field (.ref z) 2 >>= _) _ _ _;refine wpAny_bind (wpAny_field hz rfl (x:= .bool false) rfl ?_);show wpAny _ _ (field (.ref z) 3 >>= _) _ _ _;refine wpAny_bind (wpAny_field hz rfl (x:= .ref TI) rfl ?_);refine wpAny_bind (wpAny_seqItems hI rfl ?_);show wpAny _ _ (Builtin.SmallTypes.ownedTupleIsFree (.ref z) >>= _) _ _ _;refine wpAny_bind ?_;unfold Builtin.SmallTypes.ownedTupleIsFree;refine wpAny_bind (wpAny_field hz rfl (x:= .none) rfl (wpAny_pure ?_));simp only [if_true];refine wpAny_bind (wpAny_rule ?_);refine wpAny_bind (wpAny_field hz rfl (x:= .ref TO) rfl ?_);refine wpAny_bind (wpAny_setField_rec hz (by simp) fun H1 z1 k1=> ?_)
 replace z1:IsZip H1 z TI TO .ellipsis:=z1
 refine A5 ?_;simp only [List.zipIdx_cons,List.zipIdx_nil,A01,OS];refine A5 (A5 (Y0 ?_));show wpAny _ _ (Builtin.SmallTypes.nextOf (.ref j1) >>= _) _ _ _;refine A5 (SD (E5 s1 k1.extBut D.i1z) (HV l1 k1.extBut D.l1z) hx fun H2 i2 k2=>AR ?_);have O2:IsPair H2 TO a b:=k2.extBut _ _ D.TOi1 (k1.extBut _ _ D.TOz hO);refine A5 (FP O2 rfl ?_);refine A5 (U0 O2 fun H3 O3 k3=> ?_)
 replace O3:IsPair H3 TO x b:=O3
 refine A5 (KE (AR ?_));refine A5 (A5 (Y0 ?_));show wpAny _ _ (Builtin.SmallTypes.nextOf (.ref j2) >>= _) _ _ _;refine A5 (SD (E5 (E5 (E5 s2 k1.extBut D.i2z) k2.extBut D.i12.symm) k3.extBut D.TOi2.symm) (HV (HV (HV l2 k1.extBut D.l2z) k2.extBut D.l2i1) k3.extBut D.l2TO) hy fun H4 i4 k4=>AR ?_);have O4:IsPair H4 TO x b:=k4.extBut _ _ D.TOi2 O3;refine A5 (FP O4 rfl ?_);refine A5 (U0 O4 fun H5 O5 k5=> ?_)
 replace O5:IsPair H5 TO x y:=O5
 refine A5 (KE (AR (AR ?_)));refine A5 (FP O5 rfl ?_);refine A5 (wpAny_newTuple ?_);have sz:H5.objs.size=s.heap.objs.size:=by rw [k5.1,k4.1,k3.1,k2.1,k1.1]
 have z5:IsZip H5 z TI TO .ellipsis:=k5.extBut _ _ D.TOz.symm (k4.extBut _ _ D.i2z.symm (k3.extBut _ _ D.TOz.symm (k2.extBut _ _ D.i1z.symm z1)))
 have keep:∀c o,c≠z->c≠TO->c≠j1->c≠j2->s.heap.get? c=some o->H5.get? c=some o:=fun c o c1 c2 c3 c4 e=>
  k5.extBut _ _ c2 (k4.extBut _ _ c4 (k3.extBut _ _ c2 (k2.extBut _ _ c3 (k1.extBut _ _ c1 e))))
 have i5:H5.IsTupleIter j1 t1 (n1+1):=E5 (E5 (E5 i2 k3.extBut D.TOi1.symm) k4.extBut D.i12) k5.extBut D.TOi1.symm;have i5':H5.IsTupleIter j2 t2 (n2+1):=E5 i4 k5.extBut D.TOi2.symm;have zlt:z<H5.objs.size:=Heap.lt_size z5;show wpAny _ _ (Builtin.SmallTypes.ownedTupleHandOut (.ref z) (.ref H5.objs.size) >>= _) _ _ _;refine wpAny_bind ?_;unfold Builtin.SmallTypes.ownedTupleHandOut;have z6:IsZip (H5.push {cls:= .type "tuple",data:= .seq #[x,y]}) z TI TO .ellipsis:=Heap.get?_push_of_some _ z5;refine wpAny_bind (wpAny_setField_rec z6 (by simp) fun H7 z7 k7=> ?_)
 replace z7:IsZip H7 z TI TO (rawInt H5.objs.size):=z7
 refine b9 z7 (by simp) fun H8 z8 k8=> ?_
 replace z8:IsZip H8 z TI TO (rawInt H5.objs.size):=z8
 have up:∀c o,c≠z->H5.get? c=some o->H8.get? c=some o:=fun c o c1 e=>k8.extBut _ _ c1 (k7.extBut _ _ c1 (A3 _ e));have T8:IsPair H8 H5.objs.size x y:=k8.extBut _ _ (MZ zlt) (k7.extBut _ _ (MZ zlt) (AW _ rfl));have n8:H8.objs.size=H5.objs.size+1:=by rw [k8.1,k7.1,CZ]
 rw [sz] at z8 T8 n8
 refine AR ⟨_,rfl,?_⟩;show Q (.ref H5.objs.size) _;rw [sz];exact q H8 z8 (up _ _ D.TOz O5) (i5.at fun o e=>up _ o D.i1z e) (i5'.at fun o e=>up _ o D.i2z e) T8 n8 fun c o c1 c2 c3 c4 e=>up c o c1 (keep c o c1 c2 c3 c4 e)
theorem gJ {z TI TO j1 j2 t1 t2 : Addr} {n1 n2 : Nat} {xs ys : Array Value} {a b : Value} {Q : Fin -> Shared -> Prop} (hh : A.handled = none) (D : ZipApart z TI TO j1 j2 t1 t2)
 (hz:IsZip s.heap z TI TO .none) (hI:IsPair s.heap TI (.ref j1) (.ref j2)) (hO:IsPair s.heap TO a b)
 (s1:s.heap.IsTupleIter j1 t1 n1) (s2:s.heap.IsTupleIter j2 t2 n2) (l1:s.heap.IsTuple t1 xs) (l2:s.heap.IsTuple t2 ys) (fin:xs[n1]? = none\/ys[n2]? = none)
 (q:∀h' e,(∀c o,c≠z->c≠TO->c≠j1->c≠j2->s.heap.get? c=some o->h'.get? c=some o)->(∃o,h'.get? e=some o/\o.cls = .type "StopIteration")->E (.ref e) {s with heap:=h' }) :
 wpAny (model prog w) A (Builtin.«zip.__next__» ⟨[.ref z], []⟩) Q E s := by
 show wpAny _ _ (field (.ref z) 2 >>= _) _ _ _;refine wpAny_bind (wpAny_field hz rfl (x:= .bool false) rfl ?_);show wpAny _ _ (field (.ref z) 3 >>= _) _ _ _;refine wpAny_bind (wpAny_field hz rfl (x:= .ref TI) rfl ?_);refine wpAny_bind (wpAny_seqItems hI rfl ?_);show wpAny _ _ (Builtin.SmallTypes.ownedTupleIsFree (.ref z) >>= _) _ _ _;refine wpAny_bind ?_;unfold Builtin.SmallTypes.ownedTupleIsFree;refine wpAny_bind (wpAny_field hz rfl (x:= .none) rfl (wpAny_pure ?_));simp only [if_true];refine wpAny_bind (wpAny_rule ?_);refine wpAny_bind (wpAny_field hz rfl (x:= .ref TO) rfl ?_);refine wpAny_bind (wpAny_setField_rec hz (by simp) fun H1 z1 k1=> ?_)
 replace z1:IsZip H1 z TI TO .ellipsis:=z1
 refine A5 ?_;simp only [List.zipIdx_cons,List.zipIdx_nil,A01,OS];refine A5 (A5 (Y0 ?_));show wpAny _ _ (Builtin.SmallTypes.nextOf (.ref j1) >>= _) _ _ _
 cases hx:xs[n1]? with
 | none=>
  refine A5 (OX hh (E5 s1 k1.extBut D.i1z) (HV l1 k1.extBut D.l1z) hx fun H2 e k2 st=> ?_);obtain ⟨oe,ge,ce⟩:=st;have z2:IsZip H2 z TI TO .ellipsis:=k2 _ _ D.i1z.symm z1;have ez:e≠z:=fun x=>by subst x;rw [z2] at ge;cases ge;simp at ce
  refine b9 z2 (by simp) fun H3 _ k3=>q H3 e (fun c o c1 _ c3 _ x=>k3.extBut _ _ c1 (k2 _ _ c3 (k1.extBut _ _ c1 x))) ⟨oe,k3.extBut _ _ ez ge,ce⟩
 | some x=>
  have hy:ys[n2]? = none:=by rcases fin with h | h;rw [hx] at h;cases h;exact h
  refine A5 (SD (E5 s1 k1.extBut D.i1z) (HV l1 k1.extBut D.l1z) hx fun H2 i2 k2=>AR ?_);have O2:IsPair H2 TO a b:=k2.extBut _ _ D.TOi1 (k1.extBut _ _ D.TOz hO);refine A5 (FP O2 rfl ?_);refine A5 (U0 O2 fun H3 O3 k3=> ?_);refine A5 (KE (AR ?_));refine A5 (A5 (Y0 ?_));show wpAny _ _ (Builtin.SmallTypes.nextOf (.ref j2) >>= _) _ _ _;refine A5 (OX hh (E5 (E5 (E5 s2 k1.extBut D.i2z) k2.extBut D.i12.symm) k3.extBut D.TOi2.symm) (HV (HV (HV l2 k1.extBut D.l2z) k2.extBut D.l2i1) k3.extBut D.l2TO) hy fun H4 e k4 st=> ?_);obtain ⟨oe,ge,ce⟩:=st;have z4:IsZip H4 z TI TO .ellipsis:=k4 _ _ D.i2z.symm (k3.extBut _ _ D.TOz.symm (k2.extBut _ _ D.i1z.symm z1));have ez:e≠z:=fun x=>by subst x;rw [z4] at ge;cases ge;simp at ce
  refine b9 z4 (by simp) fun H5 _ k5=>q H5 e (fun c o c1 c2 c3 c4 x=>k5.extBut _ _ c1 (k4 _ _ c4 (k3.extBut _ _ c2 (k2.extBut _ _ c3 (k1.extBut _ _ c1 x))))) ⟨oe,k5.extBut _ _ ez ge,ce⟩
theorem WI {z TI TO j1 j2 t1 t2 : Addr} {n1 n2 : Nat} {xs ys : Array Value} {x y a b : Value} {Q : Option Value -> Shared -> Prop} (D : ZipApart z TI TO j1 j2 t1 t2)
 (hz:IsZip s.heap z TI TO .none) (hI:IsPair s.heap TI (.ref j1) (.ref j2)) (hO:IsPair s.heap TO a b)
 (s1:s.heap.IsTupleIter j1 t1 n1) (s2:s.heap.IsTupleIter j2 t2 n2) (l1:s.heap.IsTuple t1 xs) (l2:s.heap.IsTuple t2 ys) (hx:xs[n1]? = some x) (hy:ys[n2]? = some y)
 (q:∀h',IsZip h' z TI TO (rawInt s.heap.objs.size)->IsPair h' TO x y->h'.IsTupleIter j1 t1 (n1+1)->h'.IsTupleIter j2 t2 (n2+1)->IsPair h' s.heap.objs.size x y->h'.objs.size=s.heap.objs.size+1 ->
  (∀c o,c≠z->c≠TO->c≠j1->c≠j2->s.heap.get? c=some o->h'.get? c=some o)->Q (some (.ref s.heap.objs.size)) {s with heap:=h' }) :
 wpAny (model prog w) A (pyNext (.ref z)) Q E s:=by
 have ty:s.TypeIs (.ref z) "zip" :=⟨_,hz,rfl⟩;unfold pyNext
 exact A5 (wpAny_attempt (G5 (name:=Str.ofString "__next__") ty IK
  (K1 IK ty rD
   (cY D hz hI hO s1 s2 l1 l2 hx hy fun h' a1 a2 a3 a4 a5 a6 a7=>AR (q h' a1 a2 a3 a4 a5 a6 a7)) (pR _))))
theorem cK {z TI TO j1 j2 t1 t2 : Addr} {n1 n2 : Nat} {xs ys : Array Value} {a b : Value} {Q : Option Value -> Shared -> Prop} (hh : A.handled = none) (D : ZipApart z TI TO j1 j2 t1 t2)
 (hz:IsZip s.heap z TI TO .none) (hI:IsPair s.heap TI (.ref j1) (.ref j2)) (hO:IsPair s.heap TO a b)
 (s1:s.heap.IsTupleIter j1 t1 n1) (s2:s.heap.IsTupleIter j2 t2 n2) (l1:s.heap.IsTuple t1 xs) (l2:s.heap.IsTuple t2 ys) (fin:xs[n1]? = none\/ys[n2]? = none)
 (q:∀h',(∀c o,c≠z->c≠TO->c≠j1->c≠j2->s.heap.get? c=some o->h'.get? c=some o)->Q none {s with heap:=h' }):wpAny (model prog w) A (pyNext (.ref z)) Q E s:=by
 have ty:s.TypeIs (.ref z) "zip" :=⟨_,hz,rfl⟩;unfold pyNext
 refine A5 (wpAny_attempt (G5 (name:=Str.ofString "__next__") ty IK
  (K1 IK ty rD (gJ hh D hz hI hO s1 s2 l1 l2 fin fun h' e k st=> ?_) (pR _))))
 obtain ⟨o,g,c⟩:=st;refine A5 (wpAny_isInstance (T:= "StopIteration") (b:=true) ⟨o,g,c⟩ isSubtype_stop ?_);exact AR (q _ k)
end
abbrev zt1 (h:Heap) (a:Addr):Heap:=h.push {cls:= .type "tuple_iterator",data:= .fields #[.ref a, .int 0 0]}
abbrev zt2 (h:Heap) (a b:Addr):Heap:=(zt1 h a).push {cls:= .type "tuple_iterator",data:= .fields #[.ref b, .int 0 0]}
abbrev zt3 (h:Heap) (a b:Addr):Heap:=(zt2 h a b).push {cls:= .type "tuple",data:= .seq #[.ref h.objs.size, .ref (zt1 h a).objs.size]}
abbrev zt4 (h:Heap) (a b:Addr):Heap:=(zt3 h a b).push {cls:= .type "tuple",data:= .seq #[.none, .none]}
abbrev zt5 (h:Heap) (a b:Addr):Heap:=(zt4 h a b).push {cls:= .type "zip",data:= .fields #[.none, .bool false, .bool false, .ref (zt2 h a b).objs.size, .ref (zt3 h a b).objs.size]}
theorem XJ{h:Heap}{t:Addr}{us}{o:Obj}(x:h.IsTuple t us):(h.push o).IsTuple t us:=by
 obtain ⟨o',e,r⟩:=x;exact ⟨o',A3 _ e,r⟩
theorem WY (a b : Addr) (xs ys : Array Value) :
 Meets (Builtin.«zip.__new__» ⟨[.type "zip", .ref a, .ref b], []⟩) (fun _ R s => s.heap.IsTuple a xs /\ s.heap.IsTuple b ys /\ R (.ok (.ret (.ref (zt4 s.heap a b).objs.size))) { s with heap := zt5 s.heap a b }) :=
 .of_wp fun prog w A R s h=>by
  obtain ⟨hp,g,d,tk,os⟩:=s;obtain ⟨x1,x2,h⟩:=h;have hsub:=sub_zip;have y1:Heap.IsTuple (Shared.heap ⟨hp,g,d,tk,os⟩) a xs:=x1;have y2:Heap.IsTuple (Shared.heap ⟨hp.push {cls:= .type "tuple_iterator",data:= .fields #[.ref a, .int 0 0]},g,d,tk,os⟩) b ys:=XJ x2
  wp_walk using b8 y1,b8 y2
  exact ⟨_,rfl,h⟩
section
variable {prog:Program} {w:World} {A:Around} {E:Value->Shared->Prop} {s:Shared}
theorem cU {a b : Addr} {xs ys : Array Value} {Q : Value -> Shared -> Prop} (x1 : s.heap.IsTuple a xs) (x2 : s.heap.IsTuple b ys)
 (q:∀h',IsZip h' (s.heap.objs.size+4) (s.heap.objs.size+2) (s.heap.objs.size+3) .none->IsPair h' (s.heap.objs.size+2) (.ref s.heap.objs.size) (.ref (s.heap.objs.size+1)) ->
  IsPair h' (s.heap.objs.size+3) .none .none->h'.IsTupleIter s.heap.objs.size a 0->h'.IsTupleIter (s.heap.objs.size+1) b 0->(∀c o,s.heap.get? c=some o->h'.get? c=some o)->Q (.ref (s.heap.objs.size+4)) {s with heap:=h' }) :
 wpAny (model prog w) A (call (.type "zip") [.ref a, .ref b]) Q E s:=by
 refine callType_new PySem.F.called_zip (by decide) (PySem.F.typeCall_zip_2 _ _) (PySem.F.newCall_zip_2 _ _) (fun obj=>PySem.F.args_object_init_3 obj _ _) PySem.F.entry_zip_new (WY a b xs ys) ⟨x1,x2,?_⟩;have e1:(zt1 s.heap a).objs.size=s.heap.objs.size+1:=CZ ..;have e2:(zt2 s.heap a b).objs.size=s.heap.objs.size+2:=by rw [CZ,e1]
 have e3:(zt3 s.heap a b).objs.size=s.heap.objs.size+3:=by rw [CZ,e2]
 have e4:(zt4 s.heap a b).objs.size=s.heap.objs.size+4:=by rw [CZ,e3]
 have g5:(zt5 s.heap a b).get? (zt4 s.heap a b).objs.size=some _:=AW _ rfl;have g4:(zt5 s.heap a b).get? (zt3 s.heap a b).objs.size=some _:=A3 _ (AW _ rfl);have g3:(zt5 s.heap a b).get? (zt2 s.heap a b).objs.size=some _:=A3 _ (A3 _ (AW _ rfl));have g2:(zt5 s.heap a b).get? (zt1 s.heap a).objs.size=some _:=A3 _ (A3 _ (A3 _ (AW _ rfl)));have g1:(zt5 s.heap a b).get? s.heap.objs.size=some _:=A3 _ (A3 _ (A3 _ (A3 _ (AW _ rfl))));show _/\_;rw [e2,e3,e4] at g5
 rw [e1,e2] at g3
 rw [e3] at g4
 rw [e1] at g2
 rw [e4];refine ⟨⟨_,g5,rfl⟩,q _ g5 g3 g4 ⟨_,g1,rfl,rfl⟩ ⟨_,g2,rfl,rfl⟩ fun c o e=> ?_⟩;exact A3 _ (A3 _ (A3 _ (A3 _ (A3 _ e))))
end
def Ity(K:PySem.W.Frag)(a b:Addr):It:=
 ⟨fun i H=>∃xs ys x y,SqT K H a xs/\SqT K H b ys/\xs[i]? = some x/\ys[i]? = some y,
  fun i H v H'=>∃p x y,H p=none/\v = .ref p/\H'=upd H p (.tup [x,y])/\(∀xs,SqT K H a xs->xs[i]? = some x)/\(∀ys,SqT K H b ys->ys[i]? = some y),
  fun i H=>∃xs ys,SqT K H a xs/\SqT K H b ys/\(xs.length<=i\/ys.length<=i)⟩
def tV(z TI TO i1 i2 l1 l2:Addr)(i:Nat)(h:Heap):Prop:=IsZip h z TI TO .none/\IsPair h TI (.ref i1) (.ref i2)/\(∃a b,IsPair h TO a b)/\h.IsTupleIter i1 l1 i/\h.IsTupleIter i2 l2 i
theorem bC {P : Program} {w : World} {K : PySem.W.Frag} {elts : List Expr} {k : Nat} {pos : Pos} {z TI TO i1 i2 l1 l2 : Addr} (D : ZipApart z TI TO i1 i2 l1 l2) :
 Turn P w K (.Tuple elts k pos) (Ity K l1 l2) [z,TI,TO,i1,i2] z (tV z TI TO i1 i2 l1 l2) where
 mem:=by simp
 obj:=fun i h st b hb=>by
  obtain ⟨h1,h2,⟨a,c,h3⟩,⟨o4,h4,_,d4⟩,⟨o5,h5,_,d5⟩⟩:=st;simp only [AZ,BA,EH] at hb
  rcases hb with rfl | rfl | rfl | rfl | rfl
  . exact ⟨_,h1,fun v e=>(nomatch e)⟩
  . exact ⟨_,h2,fun v e=>(nomatch e)⟩
  . exact ⟨_,h3,fun v e=>(nomatch e)⟩
  . exact ⟨_,h4,fun v e=>by rw [d4] at e;cases e⟩
  . exact ⟨_,h5,fun v e=>by rw [d5] at e;cases e⟩
 keep:=fun i h h' st kk=>by
  obtain ⟨h1,h2,⟨a,c,h3⟩,h4,h5⟩:=st;exact ⟨kk z (by simp) _ h1,kk TI (by simp) _ h2,⟨a,c,kk TO (by simp) _ h3⟩,h4.at fun o e=>kk i1 (by simp) o e,h5.at fun o e=>kk i2 (by simp) o e⟩
 item:=by
  intro X hP hw hK hc i pins s σ H E I hf st hg;subst hP hw hK;obtain ⟨h1,h2,⟨a,c,h3⟩,h4,h5⟩:=st;obtain ⟨xs,ys,x,y,q1,q2,hx,hy⟩:=hg;obtain ⟨its,rv,p,hz⟩:=I.tuple q1;obtain ⟨jts,rw',p',hz'⟩:=I.tuple q2;obtain ⟨u,hu,ru⟩:=rv.get hx;obtain ⟨u',hu',ru'⟩:=rw'.get hy;have ltS:∀ {h:Heap} {b:Addr} {o:Obj},h.get? b=some o -> @LT.lt Nat _ b h.objs.size:=fun e=>AU e;refine WI D h1 h2 h3 h4 h5 p p' (x:=u) (y:=u') (by simpa using hu) (by simpa using hu') fun h' a1 a2 a3 a4 a5 a6 hk=> ?_;refine ⟨_,rfl,yP a1 fun h'' a1' sb=> ?_⟩;have ch:∀b ∈ [z,TI,TO,i1,i2],H b=none:=fun b hb=>(hf b hb).1
  have kk:∀b o,b ∉ [z,TO,i1,i2]->s.heap.get? b=some o->h''.get? b=some o:=fun b o hb e=>by
   simp only [AZ,BA,EH,not_or] at hb
   exact sb.extBut b o hb.1 (hk b o hb.1 hb.2.1 hb.2.2.1 hb.2.2.2 e)
  have eT:h''.get? s.heap.objs.size=some {cls:= .type "tuple",data:= .seq #[u,u']}:=sb.extBut _ _ (fun e=>by have l:=ltS h1;rw [<-e] at l;omega) a5
  have sub:∀b,b ∈ [z,TO,i1,i2]->b ∈ [z,TI,TO,i1,i2]:=fun b hb=>by
   simp only [AZ,BA,EH] at hb ⊢
   rcases hb with r | r | r | r
   . exact .inl r
   . exact .inr (.inr (.inl r))
   . exact .inr (.inr (.inr (.inl r)))
   . exact .inr (.inr (.inr (.inr r)))
  have nT:H s.heap.objs.size=none:=I.hok.fresh (AA _)
  have hok1 : HOk X.prog X.w H h'' := fun b o e => (I.hok b o e).stay (fun d v hd q => kk d v (fun hm => by
   have n:=ch d (sub d hm);rcases hd with hd | hd
   . rw [hd,e] at n;cases n
   . rw [hd] at n;cases n) q) (fun _ q=>q) fun _ _ q=>q
  have hok2:HOk X.prog X.w (upd H s.heap.objs.size (.tup [x,y])) h'':=SS hok1 nT ⟨by show 2<=sizeLine;decide,[u,u'], .cons ru (.cons ru' .nil),⟨_,eT,rfl,_,rfl⟩⟩
  have un:Un (frs X.stack) [z,TO,i1,i2] H (upd H s.heap.objs.size (.tup [x,y])) s.heap h'':=by
   refine ⟨fun b o e _ _ hx=>kk b o hx e,fun b o e _ _ hx=>⟨o.slots,kk b o hx e⟩,fun b o e n _=> ?_,fun b o e hx=>⟨o,kk b o hx e⟩,fun b zs e=> ?_,fun b o v e=> ?_,fun b ps e=>⟨#[],?_⟩⟩
   . have l:=ltS e;rw [AY (by intro q;subst q;omega)];exact n
   . rw [AY (BD e nT)];exact e
   . rw [AY (BD e nT)];exact e
   . rw [AY (BD e nT)];simpa using e
  have I2:Inv X pins σ (upd H s.heap.objs.size (.tup [x,y])) {s with heap:=h'' }:=I.call' rfl un hok2 I.bare fun b hb=>by
   obtain ⟨f0,f1,f2,f3,f4,f5⟩:=hf b (sub b hb);exact ⟨f3,f1,f4,f5⟩
  refine ⟨.ref s.heap.objs.size,_,I2,rfl,⟨s.heap.objs.size,x,y,nT,rfl,rfl,fun zs hq=> ?_,fun zs hq=> ?_⟩,⟨a1',?_,⟨_,_,sb.extBut _ _ D.TOz a2⟩,a3.extBut sb.extBut D.i1z,a4.extBut sb.extBut D.i2z⟩,fun b hb=> ?_⟩
  . rw [I.tuple_inj hq q1];exact hx
  . rw [I.tuple_inj hq q2];exact hy
  . exact sb.extBut _ _ D.TIz (hk TI _ D.TIz D.TITO D.TIi1 D.TIi2 h2)
  . have n:=ch b hb
    obtain ⟨o,e⟩:∃o,s.heap.get? b=some o:=by
     simp only [AZ,BA,EH] at hb
     rcases hb with rfl | rfl | rfl | rfl | rfl
     . exact ⟨_,h1⟩
     . exact ⟨_,h2⟩
     . exact ⟨_,h3⟩
     . obtain ⟨o,e,_⟩:=h4;exact ⟨o,e⟩
     . obtain ⟨o,e,_⟩:=h5;exact ⟨o,e⟩
    have l:=ltS e;rw [AY (by intro q;subst q;omega)];exact n
 done:=by
  intro X hP hw hK hc i pins s σ H E I hf st hg;subst hP hw hK;obtain ⟨h1,h2,⟨a,c,h3⟩,h4,h5⟩:=st;obtain ⟨xs,ys,q1,q2,he⟩:=hg;obtain ⟨its,rv,p,hz⟩:=I.tuple q1;obtain ⟨jts,rw',p',hz'⟩:=I.tuple q2;have l1:=rv.length;have l2:=rw'.length;refine cK (I.ok.hd hc) D h1 h2 h3 h4 h5 p p' (by rcases he with e | e;exact .inl (by simp;omega);exact .inr (by simp;omega)) fun h' hk=>⟨rfl,?_⟩;have ch:∀b ∈ [z,TI,TO,i1,i2],H b=none:=fun b hb=>(hf b hb).1
  have sub:∀b,b ∈ [z,TO,i1,i2]->b ∈ [z,TI,TO,i1,i2]:=fun b hb=>by
   simp only [AZ,BA,EH] at hb ⊢
   rcases hb with r | r | r | r
   . exact .inl r
   . exact .inr (.inr (.inl r))
   . exact .inr (.inr (.inr (.inl r)))
   . exact .inr (.inr (.inr (.inr r)))
  have kk:∀b o,b ∉ [z,TO,i1,i2]->s.heap.get? b=some o->h'.get? b=some o:=fun b o hb e=>by
   simp only [AZ,BA,EH,not_or] at hb
   exact hk b o hb.1 hb.2.1 hb.2.2.1 hb.2.2.2 e
  have hok1 : HOk X.prog X.w H h' := fun b o e => (I.hok b o e).stay (fun d v hd q => kk d v (fun hm => by
   have n:=ch d (sub d hm);rcases hd with hd | hd
   . rw [hd,e] at n;cases n
   . rw [hd] at n;cases n) q) (fun _ q=>q) fun _ _ q=>q
  have un:Un (frs X.stack) [z,TO,i1,i2] H H s.heap h' :=
   ⟨fun b o e _ _ hx=>kk b o hx e,fun b o e _ _ hx=>⟨o.slots,kk b o hx e⟩,fun b o e n _=>n,fun b o e hx=>⟨o,kk b o hx e⟩,fun b zs e=>e,fun b o v e=>e,fun b ps e=>⟨#[],by simpa using e⟩⟩
  exact I.call' rfl un hok1 I.bare fun b hb=>by
   obtain ⟨f0,f1,f2,f3,f4,f5⟩:=hf b (sub b hb);exact ⟨f3,f1,f4,f5⟩
 self:=fun _ _ _ _ _ st h=>K4 st.1 h
section
variable {X:Cx}
def pW(K:PySem.W.Frag)(ta:TA):TI:=fun σ H R=>ta σ H fun vs H1=>∃l1 l2,vs = [.ref l1, .ref l2]/\(((∃xs,SqL K H1 l1 xs)/\(∃ys,SqL K H1 l2 ys)/\R (Itz K l1 l2) H1)\/((∃xs,SqT K H1 l1 xs)/\(∃ys,SqT K H1 l2 ys)/\R (Ity K l1 l2) H1))
theorem nR{n b:Nat}(hb:b ∈ [n+4,n+2,n+3,n,n+1]):n<=b:=by
 simp only [AZ,BA,EH] at hb
 omega
theorem n9 {a b : Expr} {ta : TA} {elts : List Expr} {k : Nat} {tp p pos : Pos} (hg : Gl X "zip") (hm : X.mg "zip" = none) (ha : PA X [a, b] ta) (hs : starEach [a, b] X.env = [(false, eval a X.env), (false, eval b X.env)] := by rfl) (hs2 : starEach [b] X.env = [(false, eval b X.env)] := by rfl) :
 PI X (.Tuple elts k tp) (.Call (.Name "zip" p) [a,b] [] pos) (pW X.K ta):=by
 intro pins s σ H R I h;refine Call_ (IF I hg hm jK (CY (thn (ha pos pins s σ H _ I h) fun us s1 ⟨vs,H1,I1,r1,q1⟩ => ?_) (by rw [hs,hs2]) (by rw [hs2];rfl)));obtain ⟨l1,l2,e,q1⟩:=q1;subst e;obtain ⟨u,w',rfl,ru,rw'⟩:=eD r1
 cases (show u=Value.ref l1 from ru)
 cases (show w'=Value.ref l2 from rw')
 rcases q1 with ⟨⟨xs,q1⟩,⟨ys,q2⟩,q⟩ | ⟨⟨xs,q1⟩,⟨ys,q2⟩,q⟩
 . obtain ⟨its,rv,p1,hz⟩:=I1.list q1;obtain ⟨jts,rv',p2,hz'⟩:=I1.list q2;have lt1:l1<s1.heap.objs.size:=by obtain ⟨o,n,e,_⟩:=p1;exact AU e
   have lt2:l2<s1.heap.objs.size:=by obtain ⟨o,n,e,_⟩:=p2;exact AU e
   refine call_zip_2 p1.isList p2.isList fun h' a1 a2 a3 a4 a5 a6 hk=> ?_;refine K4 (s:={s1 with heap:=h' }) a1 ?_;exact ⟨_,[s1.heap.objs.size+4,s1.heap.objs.size+2,s1.heap.objs.size+3,s1.heap.objs.size,s1.heap.objs.size+1],_,_,H1,rfl,I1.kept (t':=s1.toks) hk,U2 (zipApart_new lt1 lt2),⟨a1,a2,⟨_,_,a3⟩,a4,a5⟩,fun b hb=>I1.fpOk (nR hb) (I1.hok.fresh (nR hb)),q⟩
 . obtain ⟨its,rv,p1,hz⟩:=I1.tuple q1;obtain ⟨jts,rv',p2,hz'⟩:=I1.tuple q2;have lt1:l1<s1.heap.objs.size:=by obtain ⟨o,e,_⟩:=p1;exact AU e
   have lt2:l2<s1.heap.objs.size:=by obtain ⟨o,e,_⟩:=p2;exact AU e
   refine cU p1 p2 fun h' a1 a2 a3 a4 a5 hk=> ?_;refine K4 (s:={s1 with heap:=h' }) a1 ?_;exact ⟨_,[s1.heap.objs.size+4,s1.heap.objs.size+2,s1.heap.objs.size+3,s1.heap.objs.size,s1.heap.objs.size+1],_,_,H1,rfl,I1.kept (t':=s1.toks) hk,bC (zipApart_new lt1 lt2),⟨a1,a2,⟨_,_,a3⟩,a4,a5⟩,fun b hb=>I1.fpOk (nR hb) (I1.hok.fresh (nR hb)),q⟩
end
end Tf
namespace Dm
open PySem PySem.Spec PyProof.Rows L2 Tf
section
variable {K:PySem.W.Frag} {R:Rl} [RelOk K R]
theorem mR{H0:Hp}{a b:Addr}{vs ws:List V}{ds es:List PyData}(h:SqT K H0 a vs)(r:Reps K H0 vs ds)(h2:SqT K H0 b ws)(r2:Reps K H0 ws es):ItR K H0 (Ity K a b) (KA ds es):=fun H0' H' s s' i=>by
 have h':=s'.seqT (s.seqT h);have h2':=s'.seqT (s.seqT h2);refine ⟨fun d hd=> ?_,fun hi=>⟨vs,ws,h',h2',?_⟩⟩
 . unfold KA at hd
   rw [wT] at hd
   cases e1:ds[i]? with
   | none=>rw [e1] at hd;cases hd
   | some x=>
    cases e2:es[i]? with
    | none=>rw [e1,e2] at hd;cases hd
    | some y=>
     rw [e1,e2] at hd
     cases hd
     obtain ⟨v,q1,q2⟩:=Tf.Reps.get r e1;obtain ⟨w,q3,q4⟩:=Tf.Reps.get r2 e2;refine ⟨⟨vs,ws,v,w,h',h2',q1,q3⟩,fun z H2 yl=> ?_⟩;obtain ⟨p,x',y',hp,rfl,rfl,hx,hy⟩:=yl;have:=hx vs h';rw [q1] at this
     cases this
     have:=hy ws h2';rw [q3] at this
     cases this
     refine ⟨_,Ext.allocF s' hp _, .tuple (SqT.of BC) ?_⟩;have s2:=s.trans (Same.upd (s'.free hp) (.tup [v,w]));exact .cons (Rep.same s2 q2) (.cons (Rep.same s2 q4) .nil)
 . rw [r.length,r2.length];unfold KA at hi
   rw [yQ] at hi
   omega
def Y7(f:En->Option (List PyData)):En->Option (List PyData):=fun ρ=>(f ρ).bind fun a=>match a with
 | [.list xs, .list ys]=>some (KA xs ys)
 | [.tuple xs, .tuple ys]=>some (KA xs ys)
 | _=>none
theorem pL{ta:TA}{f:En->Option (List PyData)}(h:RA K R ta f):RI K R (pW K ta) (Y7 f):=fun HB σ ρ H0 H s e ds hd R q=>by
 obtain ⟨a,ha,hd⟩:=A0.mp hd
 split at hd
 . cases hd
   refine h HB σ ρ H0 H s e _ ha _ fun vs H1 J1 x1 p1=> ?_
   cases p1 with | cons p1 t=>cases t with | cons p2 t=>
    cases t
    cases p1 with | list a1 a2=>cases p2 with | list b1 b2=>
     exact ⟨_,_,rfl, .inl ⟨⟨_,x1.s1.seq a1⟩,⟨_,x1.s1.seq b1⟩,q _ _ _ x1 (iZ a1 a2 b1 b2)⟩⟩
 . cases hd
   refine h HB σ ρ H0 H s e _ ha _ fun vs H1 J1 x1 p1=> ?_
   cases p1 with | cons p1 t=>cases t with | cons p2 t=>
    cases t
    cases p1 with | tuple a1 a2=>cases p2 with | tuple b1 b2=>
     exact ⟨_,_,rfl, .inr ⟨⟨_,x1.s1.seqT a1⟩,⟨_,x1.s1.seqT b1⟩,q _ _ _ x1 (mR a1 a2 b1 b2)⟩⟩
 . cases hd
end
section
variable {X:Cx} {R:Rl} [RelOk X.K R] {a b:Expr} {pos p:Pos} {fs:En->Option (List PyData)}
theorem ZO {elts:List Expr} {k} {tp:Pos} (hm:X.mg "zip" = none) (h:DA X R [a,b] fs) (hg:Gl X "zip" :=by rfl) (hs:starEach [a,b] X.env = [(false,eval a X.env),(false,eval b X.env)]:=by rfl) (hs2:starEach [b] X.env = [(false,eval b X.env)]:=by rfl):DI X R (.Tuple elts k tp) (.Call (.Name "zip" p) [a,b] [] pos) (Y7 fs):=by
 obtain ⟨t,h1,h2⟩:=h;exact ⟨_,n9 hg hm h1 hs hs2,pL h2⟩
end
end Dm
namespace Dm
open PySem PySem.Spec PyProof.Rows L2 Tf
mutual
def noL:PyData->Bool
 | .list _=>false
 | .dict _=>false
 | .tuple ds=>HQ ds
 | _=>true
def HQ:List PyData->Bool
 | []=>true
 | d::ds=>noL d && HQ ds
end
section
variable {K:PySem.W.Frag}
theorem SqT.dropL{H H':Hp}(e:∀a o,H a=some o->(∀xs,o ≠ .lst xs)->H' a=some o){a:Addr}{xs:List V}(h:SqT K H a xs):SqT K H' a xs:=by
 rcases h with (h | ⟨o,h⟩) | h
 . exact .inl (.inl (e _ _ h fun _ z=>by cases z))
 . exact .inl (.inr ⟨o,e _ _ h fun _ z=>by cases z⟩)
 . exact .inr h
mutual
theorem Rep.dropL{H H':Hp}(e:∀a o,H a=some o->(∀xs,o ≠ .lst xs)->H' a=some o):∀ {v:V} {d:PyData},Rep K H v d->noL d=true->Rep K H' v d
 | _,_, .none,_=> .none
 | _,_, .bool b,_=> .bool b
 | _,_, .int i,_=> .int i
 | _,_, .str x,_=> .str x
 | _,_, .list _ _,n=>by simp [noL] at n
 | _,_, .tuple h hs,n=> .tuple (SqT.dropL e h) (Reps.dropL e hs (by simpa [noL] using n))
 | _,_, .dict _ _ _,n=>by simp [noL] at n
 | _,_, .dictF _ _ _,n=>by simp [noL] at n
theorem Reps.dropL{H H':Hp}(e:∀a o,H a=some o->(∀xs,o ≠ .lst xs)->H' a=some o):∀ {vs:List V} {ds:List PyData},Reps K H vs ds->HQ ds=true->Reps K H' vs ds
 | _,_, .nil,_=> .nil
 | _,_, .cons h hs,n=>by
  have n:=OQ.mp (show (_ && _)=true by rw [<-HQ];exact n);exact .cons (Rep.dropL e h n.1) (Reps.dropL e hs n.2)
end
theorem ER.lent{HB H0 H:Hp}{σ:L2.St}{ρ:En}{i:Nat}{ds:List PyData}{a:Addr}{vs:List V}(e:ER K HB H0 H σ ρ)(hi:ρ[i]? = some (some (.own ds)))(hs:σ[i]? = some (some (.ref a)))(g2:H0 a=none)(g3:H a=some (.lst vs))(g4:Reps K H0 vs ds):ER K HB (upd H0 a (.lst vs)) H σ (ρ.set i (some (.val (.list ds)))):=by
 have s0:Same H0 (upd H0 a (.lst vs)):=Same.upd g2 _
 have old:∀ {j:Nat} {ts:List PyData},(ρ.set i (some (.val (.list ds))))[j]? = some (some (.own ts))->i≠j/\ρ[j]? = some (some (.own ts)):=fun {j ts} h=>by
  by_cases hij:i=j
  . subst hij;rw [BL,hi] at h
    cases h
  . rw [A8 hij] at h
    exact ⟨hij,h⟩
 refine ⟨by rw [CD];exact e.len,fun j s hq=> ?_,fun j k b ts us hjk h1 h2 h3=>e.apart j k b ts us hjk (old h1).2 (old h2).2 h3⟩
 by_cases hij:i=j
 . subst hij;rw [BL,hi] at hq
   cases hq
   exact ⟨.ref a,hs, .list (SqL.of BC) (Reps.same s0 g4)⟩
 . rw [A8 hij] at hq
   obtain ⟨v,h1,h2⟩:=e.get j s hq;refine ⟨v,h1,?_⟩
   cases s with
   | val d=>exact Rep.same s0 h2
   | own ts=>
    obtain ⟨b,ws,rfl,q1,q2,q3,q4⟩:=h2;refine ⟨b,ws,rfl,q1,?_,q3,Reps.same s0 q4⟩;rw [AY]
    . exact q2
    . rintro rfl
      exact e.apart i j b ds ts hij hi hq hs h1
   | dct ts=>
    obtain ⟨b,t,rfl,q1,q2,q3,q4⟩:=h2;refine ⟨b,t,rfl,q1,?_,q3,q4.same s0⟩;rw [AY]
    . exact q2
    . rintro rfl;rw [q3] at g3
      cases g3
end
section
variable {X:Cx} {e:Expr} {f:En->Option Sl}
end
end Dm
namespace Dm
open PySem PySem.Spec PyProof.Rows L2 Tf
theorem OK{n m k:Nat}{g:En->Option Out}{φ:En}{ds:List PyData}{ρ ρ':En}{d:PyData}(hl:ds.length+1=m)(hk:φ.length=k)(e:(none::ds.map (fun d=>some (Sl.val d)))++List.replicate (n - (ds.length+1)) none++φ=ρ)(h:g ρ=some (.rt (.val d) ρ'))(hnd:noD φ=true:=by rfl):NS n m k g φ ds=some (ρ'.drop n,d):=by
 unfold NS;rw [if_pos ⟨⟨hl,hk⟩,hnd⟩,e,h];rfl
theorem SV{n m k:Nat}{g:En->Option Out}{φ:En}{ds:List PyData}{ρ ρ':En}(hl:ds.length+1=m)(hk:φ.length=k)(e:(none::ds.map (fun d=>some (Sl.val d)))++List.replicate (n - (ds.length+1)) none++φ=ρ)(h:g ρ=some (.nx ρ'))(hnd:noD φ=true:=by rfl):NS n m k g φ ds=some (ρ'.drop n, .none):=by
 unfold NS;rw [if_pos ⟨⟨hl,hk⟩,hnd⟩,e,h];rfl
end Dm
namespace Dm
open PySem PySem.Spec PyProof.Rows L2 Tf
def isL:PyData->Bool
 | .list _=>true
 | _=>false
def MN(j:Nat)(fb:En->Option Sl)(fe:En->Option Sl):En->Option Sl:=fun ρ=>(fe ρ).bind fun a=>match a.dat with
 | .list ds=>if ds.all isL=true then (QP fb (bN j ρ) ds).bind fun ns=>(ds[IC ns]?).map .val else none
 | _=>none
section
variable {K:PySem.W.Frag}
theorem XG {j : Nat} {te : TE} {tb : LB -> TE} {fe fb : En -> Option Sl} (h : RP K (PR K) te fe) (hB : ∀ L, RE K (PR K) (tb L) fb) :
 RE K (PR K) (MT K te [j] tb) (MN j fb fe):=fun HB σ ρ H0 H s e z hz Q q=>by
 obtain ⟨x,hx,hz⟩:=A0.mp hz
 split at hz
 . rename_i ds hd
   split at hz
   . rename_i hall;obtain ⟨ns,hns,hz⟩:=A0.mp hz;obtain ⟨d0,hd0,rfl⟩:=AQ.mp hz;obtain ⟨nl,ng⟩:=R9 hns;refine h HB σ ρ H0 H s e x hx _ fun v H1 J1 x1 p1=> ?_;obtain ⟨a,vs,rfl,h1,h2⟩:=p1.lst x1.s1 hd;have hl:=h2.length;refine ⟨a,vs,rfl,?_,fun v hv=> ?_,fun f c oc fo J2 M=> ?_⟩
     . intro c;subst c;have:ds = []:=M0.mp hl.symm;subst this;simp at hd0
     . obtain ⟨i,hi⟩:=List.mem_iff_getElem?.mp hv;obtain ⟨d,ed,rd⟩:=MU h2 hi;have:=EG.mp hall d (AJ ed)
       cases d with
       | list t=>
        cases rd
        exact ⟨_,rfl⟩
       | _=>cases this
     . have x2:Ext H1 J1 H1 J2:=jY x1.s1 M;have ex:Ext H0 H H1 J2:=x1.trans x2;refine ⟨fun i=>ns.getD i 0,fun J3=>∃H3,Ext H1 J2 H3 J3,⟨_,Ext.refl x2.s1⟩,fun J3 ⟨_,y⟩=>y.s,fun J3 ⟨_,y⟩=>y.s.seq (x2.s.seq h1),fun i v hv J3 ⟨H3,y⟩ L=> ?_,fun i v J3 hv hbest ⟨H3,y⟩ => ?_⟩
       . obtain ⟨d,ed,rd⟩:=MU h2 hv;have ev:=ng i d ed;refine hB L J3 _ [some (.val d),bN j ρ] H3 J3 y.s1 ⟨⟨rfl,fun m r hm=> ?_,fun m m' a' ds' es' hmm h1 h2 _ _=> ?_⟩⟩ _ ev _ fun w H4 J4 y2 p2=>⟨SlP.int (SlH.p p2),H4,y.trans y2⟩
         . cases m with
           | zero=>
            cases hm
            exact ⟨v,rfl,Rep.same y.s0 rd⟩
           | succ m=>
            cases m with
            | succ m=>simp at hm
            | zero=>
             have hm:some (bN j ρ)=some (some r):=hm;have hm:=Option.some.inj hm;unfold bN at hm
             split at hm
             . rename_i d hj
               cases hm
               obtain ⟨v,hv,hr⟩:=e.r.get j _ (join_some hj);exact ⟨v,by simp [hv],Rep.same (ex.s0.trans y.s0) (show Rep K H0 v d from hr)⟩
             . cases hm
         . cases m with
           | zero=>cases h1
           | succ m=>
            cases m with
            | succ m=>simp at h1
            | zero=>
             have h1:some (bN j ρ)=some (some (.own ds')):=h1;have h1:=Option.some.inj h1;unfold bN at h1
             split at h1 <;> cases h1
       . have hi:i<vs.length:=(AX.mp hv).1;obtain ⟨d,ed,rd⟩:=MU h2 hv;have ea:IC ns=i:=cW (by omega) (by rw [nl, <-hl];exact hbest);rw [ea,ed] at hd0
         cases hd0
         exact q _ _ _ (ex.trans y) (Rep.same y.s0 rd)
   . cases hz
 . cases hz
end
section
variable {X:Cx}
theorem VC{N':List Str}{sc:Scope}{cl:List (Str×Addr)}{b:LB}:(KS X N' sc cl b).env.scope=sc:=rfl
theorem VF{N':List Str}{sc:Scope}{cl:List (Str×Addr)}{b:LB}:(KS X N' sc cl b).N=N':=rfl
theorem nG{sc:Scope}{x y z:Str}{c:Addr}(hn:sc.names = [(x, .local),(y, .free),(z, .globalImplicit)])(hk:sc.kind = .function)(hco:sc.isCoroutine=false)(hgen:sc.isGenerator=false)(hxy:(y==x)=false)(hc:X.env.cells.lookup y=some c)(hout:X.env.scope.names.lookup y=some .cell):LamSc X sc [(y,c)] x [y]:=by
 have ly:sc.names.lookup y=some .free:=by rw [hn];simp [List.lookup,hxy]
 refine ⟨hk,hco,hgen,by rw [hn];simp [List.lookup],fun z hz=> ?_,fun z hz=> ?_,fun z hz=> ?_,fun z d h=> ?_,fun z hz=> ?_,fun z hz=> ?_⟩
 . rw [hn] at hz
   simp only [AZ,BA,EH] at hz
   rcases hz with rfl | rfl | rfl <;> simp
 . rw [hn] at hz
   have m:=ES hz;simp only [AZ,BA,EH,Prod.mk.injEq] at m
   rcases m with ⟨_,m⟩ | ⟨rfl,_⟩ | ⟨_,m⟩
   . cases m
   . exact AD.mpr rfl
   . cases m
 . rw [AD.mp hz];exact ly
 . have m:=ES h;simp only [AZ,BA,EH,Prod.mk.injEq] at m
   obtain ⟨rfl,rfl⟩:=m;exact hc
 . rw [AD.mp hz];exact ⟨c,by simp [List.lookup]⟩
 . rw [AD.mp hz];exact hout
theorem bS{sc:Scope}{env:Env}{x y z:Str}{c:Addr}(hn:sc.names = [(x, .local),(y, .free),(z, .globalImplicit)])(hc:env.cells.lookup y=some c):closureFor sc env=pure [(y,c)]:=by
 unfold closureFor cellOf;rw [hn];simp [hc]
theorem WV {k : Nat} {x y z : Str} {params : Arguments} {body e : Expr} {sc : Scope} {p pos pk lpos : Pos} {c P : Addr} {j : Nat} {fe fb : En -> Option Sl} (hcd : X.env.code = .ref c) (C : PySem.W.CodeHd X.base c P) (hp : P ∈ J6 X.K) (bm : BM X.base X.mg) (hr : Room (k + 2) X.A) (hm : X.mg "max" = none) (hcell : ∃ c, X.env.cells.lookup y = some c) (h : DP X (PR X.K) e fe) (hb : ∀ c L, Room k (KS X [x, y] sc [(y, c)] L).A -> DE (KS X [x, y] sc [(y, c)] L) (PR X.K) body fb)
 (hn:sc.names = [(x, .local),(y, .free),(z, .globalImplicit)]:=by rfl) (hk:sc.kind = .function:=by rfl) (hco:sc.isCoroutine=false:=by rfl) (hgen:sc.isGenerator=false:=by rfl) (hxy:(y==x)=false:=by decide) (hout:X.env.scope.names.lookup y=some .cell:=by rfl)
 (hdef:defaultsOf params X.env=([],[]):=by rfl) (hbd:∀(c:Addr) (u pm ct cd:Value),bindArgs (PySem.W.kla_fn "<lambda>" (X.env.qual ++ "<lambda>") params body sc [(y,c)] pm cd ct) ⟨[u],[]⟩=pure [(x,u)]:=by exact fun _ _ _ _ _=>rfl) (hj:X.N[j]? = some y:=by rfl) (hv:bootBuiltins "max" = some (.builtin "max"):=by exact kQ) (hg:Gl X "max" :=by rfl)
 (he:starEach [e] X.env=(false,eval e X.env)::starEach [] X.env:=by rfl) (hpl:(backTo pos (starEach [e] X.env)).any (·.1)=false:=by rfl) (hkw:(backToKw pos (keywordEach [⟨some "key", .Lambda params body sc lpos,pk⟩] X.env)).any (·.1.isNone)=false:=by rfl) (hall:(backToKw pos (keywordEach [⟨some "key", .Lambda params body sc lpos,pk⟩] X.env)).all (·.1.isSome)=true:=by rfl) (hks:(backToKw pos (keywordEach [⟨some "key", .Lambda params body sc lpos,pk⟩] X.env)).filterMap (·.1) = [Str.ofString "key"]:=by rfl) :
 DE X (PR X.K) (.Call (.Name "max" p) [e] [⟨some "key", .Lambda params body sc lpos,pk⟩] pos) (MN j fb fe):=by
 obtain ⟨cc,hc⟩:=hcell;obtain ⟨t,h1,h2⟩:=h;obtain ⟨tb,htb⟩:=Classical.axiomOfChoice fun L=>hb cc L (hr.in1.deeper _);exact ⟨_,XN hcd C hp bm hdef (bS hn hc) (nG hn hk hco hgen hxy hc hout) (hbd cc) hj (hr.mono (L7 _)) h1 (fun L=>(htb L).1) hv hm hg he hpl hkw hall hks,XG h2 fun L=>(htb L).2⟩
end
end Dm
namespace Dm
open PySem PySem.Spec PyProof.Rows L2 Tf
section
variable {K:PySem.W.Frag} {HB S0 H0 H H0' H':Hp} {σ:L2.St} {ρ:En} {i j:Nat} {t u:TS} {f g:En->Option Out}
def RAs(K:PySem.W.Frag)(j:Nat)(t:TS)(f:En->Option Out):Prop:=
 ∀(HB S0:Hp) (σ:L2.St) (ρ:En) (H0 H:Hp),Ext S0 HB H0 H->ER K HB H0 H σ ρ->∀o,f ρ=some o->∀D:Ends,(∀ρ',o = .nx ρ'->(∀k d,k≠j->ρ[k]? = some (some (.val d))->ρ'[k]? = some (some (.val d)))->∀v H0' H',Same H0 H0'->Ext S0 HB H0' H'->ER K HB H0' H' (σ.set j (some v)) ρ'->D.nx (σ.set j (some v)) H')->t D σ H
theorem ZB{te:TE}{fe:En->Option Sl}(h:RE K (PR K) te fe):RAs K j (T4 te (MS j)) (mAsg j fe):=fun HB S0 σ ρ H0 H x e o ho D d=>by
 obtain ⟨r,hr,rfl⟩:=AQ.mp ho;exact h HB σ ρ H0 H x.s1 ⟨e⟩ r hr _ fun v H1 J1 x1 p1=>d _ rfl (fun k dd hk hr=>by rw [A8 (HZ hk)];exact hr) v H1 J1 x1.s0 (x.chain x1) (ER.set e x1 x.s p1)
theorem XR{ds:List PyData}{k:Nat}(e:ER K HB H0 H σ ρ)(hi:ρ[k]? = some (some (.own ds)))(x:Ext S0 HB H0 H):∃H0',Same H0 H0'/\Ext S0 HB H0' H/\ER K HB H0' H σ (ρ.set k (some (.val (.list ds))))/\∃a vs,σ[k]? = some (some (.ref a))/\HB a=none/\H0' a=some (.lst vs)/\Reps K H0' vs ds:=by
 obtain ⟨v,hs,a,vs,rfl,g1,g2,g3,g4⟩:=e.get k _ hi
 exact ⟨_, Same.upd g2 _, ⟨x.s, x.s0.trans (Same.upd g2 _), fun b u q => by
  by_cases hb:b=a
  . subst hb;rw [BC] at q;rw [g3];exact q
  . rw [AY hb] at q;exact x.s1 b u q,fun b u q m q0=>by rw [AY (BD q g1)];exact x.own b u q m q0⟩,ER.lent e hi hs g2 g3 g4,a,vs,hs,g1,BC,Reps.same (Same.upd g2 _) g4⟩
theorem lH(k:Nat)(h:RAs K j t f):RAs K j t (mFrz k f):=fun HB S0 σ ρ H0 H x e o ho D d=>by
 unfold mFrz frz1 at ho
 split at ho
 . rename_i ds hj;obtain ⟨H0',s',x',e',_⟩:=XR e (join_some hj) x
   exact h HB S0 σ _ H0' H x' e' o ho D fun ρ' eo kp v H1 J1 s1=>d ρ' eo (fun m dd hm hr=>kp m dd hm (by
    have hj:=join_some hj
    by_cases hkm:k=m
    . subst hkm;rw [hj] at hr;cases hr
    . rw [A8 hkm];exact hr)) v H1 J1 (s'.trans s1)
 . exact h HB S0 σ ρ H0 H x e o ho D d
def LU(i:Nat)(g:En->Option Out):En->Option Out:=fun ρ=>match (ρ[i]?).join with
 | some (.own ds)=>g (ρ.set i (some (.val (.list ds))))
 | _=>none
def yJ:Out->Option Out
 | .nx _=>none
 | o=>some o
def X5(ft:En->Option Bool)(gA g:En->Option Out):En->Option Out:=fun ρ=>(ft ρ).bind fun b=>if b then (gA ρ).bind yJ else g ρ
def NH(i:Nat)(f:En->Option Sl)(g:En->Option Out):En->Option Out:=fun ρ=>if i<ρ.length then (f ρ).bind fun s=>match s with
 | .val d=>g (ρ.set i (some (.val d)))
 | _=>none
 else none
end
end Dm
namespace Dm
open PySem PySem.Spec PyProof.Rows L2 Tf
section
variable {K:PySem.W.Frag} {P:Program} {w:World} {mg:Str->Option Value} {base:Heap}
def cB(n:Nat)(g:En->Option Out)(k:Nat):List PyData->Option Sl:=fun ds=>if ds.length=k then (g (ds.map (fun d=>some (.val d))++List.replicate (n - ds.length) none)).bind fun o=>match o with
 | .rt r _=>some r
 | _=>none
 else none
end
section
variable {X:Cx} {c e e0:Expr} {pos p pos':Pos} {f fe:En->Option Sl} {fs fa:En->Option (List PyData)} {x:Str} {ft:En->Option Bool} {st:Stmt} {sts A B:List Stmt} {g gA gf:En->Option Out} {es:List Expr} {i j:Nat}
def DAs(X:Cx)(j:Nat)(st:Stmt)(f:En->Option Out):Prop:=∃t,PS X st t/\RAs X.K j t f
theorem OL (j : Nat) (h : DE X (PR X.K) e f) (hN : X.N.Nodup) (hi : X.N[j]? = some x := by rfl) (hx : Loc X.env.scope x := by first | exact DM rfl | exact C7 rfl) (hs : swapsWith e (some (.Name x pos')) pos.line X.env = pure false := by rfl) (hf : X.fn x = true \/ X.env.scope.names.lookup x = some .local := by first | exact .inl rfl | exact .inr rfl) :
 DAs X j (.Assign [.Name x pos'] e pos) (mAsg j f):=by
 obtain ⟨t,h1,h2⟩:=h;exact ⟨_,Q5 hN hi hx h1 hs hf,ZB h2⟩
theorem YU(k:Nat)(h:DAs X j st g):DAs X j st (mFrz k g):=by
 obtain ⟨t,h1,h2⟩:=h;exact ⟨t,h1,lH k h2⟩
theorem jA{ρ:En}{Q:Out->Prop}{ds:List PyData}(hi:(ρ[i]?).join=some (.own ds))(h:Wp g (ρ.set i (some (.val (.list ds)))) Q):Wp (LU i g) ρ Q:=by
 obtain ⟨o,h1,h2⟩:=h;refine ⟨o,?_,h2⟩;unfold LU;rw [hi];exact h1
theorem jP{ρ:En}{Q:Out->Prop}{d:PyData}(hi:i<ρ.length)(hf:f ρ=some (.val d))(h:Wp g (ρ.set i (some (.val d))) Q):Wp (NH i f g) ρ Q:=by
 obtain ⟨o,h1,h2⟩:=h;refine ⟨o,?_,h2⟩;unfold NH;rw [if_pos hi,hf];exact h1
theorem SL{ρ:En}{Q:Out->Prop}(hc:ft ρ=some false)(h:Wp g ρ Q):Wp (X5 ft gA g) ρ Q:=by
 obtain ⟨o,h1,h2⟩:=h;refine ⟨o,?_,h2⟩;unfold X5;rw [hc];exact h1
theorem oZ{n k:Nat}{ds:List PyData}{ρ:En}{r:Sl}(hl:ds.length=k)(e:ds.map (fun d=>some (Sl.val d))++List.replicate (n - ds.length) none=ρ)(h:Rts g ρ r):cB n g k ds=some r:=by
 obtain ⟨ρ',h⟩:=h;unfold cB;rw [if_pos hl,e,h];rfl
end
end Dm
namespace Dm
open PySem PySem.Spec PyProof.Rows L2 Tf
section
variable {K:PySem.W.Frag} {HB S0 H0 H H0' H':Hp} {σ:L2.St} {ρ:En} {i j:Nat} {t u:TS} {f g:En->Option Out}
def gD(K:PySem.W.Frag)(HB H0:Hp)(v:V)(d:PyData):Prop:=∀ds rest,d = .tuple (.list ds::rest)->∃p b us,v = .ref p/\H0 p=some (.tup (.ref b::us))/\Reps K H0 us rest/\HB b=none/\∃vs,H0 b=some (.lst vs)/\Reps K H0 vs ds
def spA(K:PySem.W.Frag)(F:List PyData->Option Sl):Sp:=fun vs H Q _=>∃H0 ds d,Same H0 H/\Reps K H0 vs ds/\F ds=some (.val d)/\∀v H0' H',Ext H0 H H0' H'->Rep K H0' v d->gD K H H0' v d->Q v H'
def RtA(K:PySem.W.Frag)(HB S0:Hp)(D:Ends)(d:PyData):Prop:=∀v H0' H',Ext S0 HB H0' H'->Rep K H0' v d->gD K HB H0' v d->D.rt v H'
def RFa(K:PySem.W.Frag)(i:Nat)(t:TS)(g:En->Option Out):Prop:=
 ∀(HB S0:Hp) (σ:L2.St) (ρ:En) (H0 H:Hp) (b:Addr) (vs:List V) (es:List PyData),Ext S0 HB H0 H->ER K HB H0 H σ ρ->σ[i]? = some (some (.ref b))->HB b=none->H0 b=some (.lst vs)->Reps K H0 vs es->ρ[i]? = some (some (.val (.list es)))->∀d ρ',g ρ=some (.rt (.val d) ρ')->∀D:Ends,RtA K HB S0 D d->t D σ H
theorem m8(k:Nat)(h:RFa K i t g):RFa K i t (mFrz k g):=fun HB S0 σ ρ H0 H b vs es x e hi hb h0 hre hei d ρ' hg D hd=>by
 unfold mFrz frz1 at hg
 split at hg
 . rename_i ds hj;obtain ⟨H0',s',x',e',_⟩:=XR e (join_some hj) x
   exact h HB S0 σ _ H0' H b vs es x' e' hi hb (s' _ _ h0) (Reps.same s' hre) (by
    have hj:=join_some hj
    by_cases hkm:k=i
    . subst hkm;rw [hj] at hei;cases hei
    . rw [A8 hkm];exact hei) d ρ' hg D hd
 . exact h HB S0 σ ρ H0 H b vs es x e hi hb h0 hre hei d ρ' hg D hd
theorem oA{ta:TA}{fa:En->Option (List PyData)}(ha:RA K (PR K) ta fa):RFa K i (oH (sZ (JV (KI i) ta))) (mRet (mTup (mCons (mVar i) fa))):=fun HB S0 σ ρ H0 H b vs es x e hi hb h0 hre hei d ρ' hg D hd=>by
 obtain ⟨r,hr,hg⟩:=AQ.mp hg
 cases hg
 obtain ⟨ds,h1,hr⟩:=A0.mp hr
 split at hr
 . rename_i hl
   cases hr
   obtain ⟨a1,ha1,h1⟩:=A0.mp h1;obtain ⟨ds2,h3,h1⟩:=A0.mp h1
   cases h1
   refine ⟨.ref b,hi,?_⟩;refine ha HB σ ρ H0 H x.s1 ⟨e⟩ ds2 h3 _ fun ws H2 J2 x2 p2=> ?_;unfold mVar at ha1
   cases ej:(ρ[i]?).join with
   | none=>rw [ej] at ha1;cases ha1
   | some r' =>
    rw [ej] at ha1
    cases r' with
    | own _=>cases ha1
    | dct _=>cases ha1
    | val d1=>
     cases ha1
     obtain ⟨vv,g1,g2⟩:=e.get i _ (join_some ej);rw [hi] at g1
     cases g1
     have ed:d1 = .list es:=by
      have:=join_some ej;rw [hei] at this
      cases this
      rfl
     refine ⟨by rw [BS] at hl ⊢;rw [p2.length];exact hl,fun p hp=> ?_⟩;have hb2:H2 b=some (.lst vs):=x2.s0 _ _ h0;have x3:=x2.trans (Ext.allocF x2.s1 hp (.tup (.ref b::ws)));have sp:Same H2 (upd H2 p (.tup (.ref b::ws))):=Same.upd (x2.s1.free hp) _;refine hd _ _ _ (x.chain x3) (.tuple (SqT.of BC) (.cons (Rep.same (x2.s0.trans sp) g2) (Reps.same sp p2))) ?_;intro ds' rest' e4;rw [ed] at e4
     cases e4
     exact ⟨p,b,ws,rfl,BC,Reps.same sp p2,hb,vs,sp _ _ hb2,Reps.same (x2.s0.trans sp) hre⟩
 . cases hr
def lU(K:PySem.W.Frag)(t:TS)(g:En->Option Out):Prop:=
 ∀(HB S0:Hp) (σ:L2.St) (ρ:En) (H0 H:Hp),Ext S0 HB H0 H->ER K HB H0 H σ ρ->∀d ρ',g ρ=some (.rt (.val d) ρ')->∀D:Ends,RtA K HB S0 D d->t D σ H
theorem cF(h:RAs K j t f)(k:lU K u g):lU K (S7 t u) (mSeq f g):=fun HB S0 σ ρ H0 H x e d ρ' hg D hd=>by
 obtain ⟨o1,h1,ho⟩:=A0.mp hg;refine h HB S0 σ ρ H0 H x e o1 h1 { D with nx:=u D} fun ρ1 eo kp v H1 J1 s1 x1 e1=> ?_;subst eo;exact k HB S0 _ ρ1 H1 J1 x1 e1 d ρ' ho D hd
theorem iU(h:RAs K i t f)(k:RFa K i u g):lU K (S7 t u) (mSeq f (LU i g)):=fun HB S0 σ ρ H0 H x e d ρ' hg D hd=>by
 obtain ⟨o1,h1,ho⟩:=Option.bind_eq_some_iff.mp hg;refine h HB S0 σ ρ H0 H x e o1 h1 { D with nx:=u D} fun ρ1 eo kp v H1 J1 s1 x1 e1=> ?_;subst eo;have ho:LU i g ρ1=some (.rt (.val d) ρ'):=ho;unfold LU at ho
 split at ho
 . rename_i ds hj;obtain ⟨H0',s',x',e',a,vs,g1,g2,g3,g4⟩:=XR e1 (join_some hj) x1;exact k HB S0 _ _ H0' J1 a vs ds x' e' g1 g2 g3 g4 (by rw [BL,join_some hj];rfl) d ρ' ho D hd
 . cases ho
structure TpA (K:PySem.W.Frag) (i:Nat) (S0 HB H0 H:Hp) (σ:L2.St) (ρ:En):Prop where
 x:Ext S0 HB H0 H
 er:ER K HB H0 H σ ρ
 fr:∀ds rest,ρ[i]? = some (some (.val (.tuple (.list ds::rest))))->HQ ds=true->HQ rest=true ->
  ∃H1 p b vs us,σ[i]? = some (some (.ref p))/\H1 p=some (.tup (.ref b::us))/\Reps K H1 us rest/\Reps K H1 vs ds/\H1 b=none/\HB b=none/\H0 b=some (.lst vs)/\ER K HB H1 H σ (ρ.set i none)/\Ext S0 HB H1 H
theorem TpA.ext(x:Ext H0 H H0' H')(r:TpA K i S0 HB H0 H σ ρ):TpA K i S0 HB H0' H' σ ρ:=by
 refine ⟨r.x.chain x,r.er.ext x,fun ds rest h1 h3 h4=> ?_⟩;obtain ⟨H1,p,b,vs,us,g1,g2,g4,g5,g6,g7,g8,g9,g10⟩:=r.fr ds rest h1 h3 h4;have x1:Ext H1 H H1 H':=⟨x.s,Same.refl _,g10.s1.trans x.s,fun _ _ _ _ h=>h⟩;exact ⟨H1,p,b,vs,us,g1,g2,g4,g5,g6,g7,x.s0 _ _ g8,g9.ext x1,g10.chain x1⟩
def RTa(K:PySem.W.Frag)(i:Nat)(t:TS)(g:En->Option Out):Prop:=
 ∀(HB S0:Hp) (σ:L2.St) (ρ:En) (H0 H:Hp),TpA K i S0 HB H0 H σ ρ->∀o,g ρ=some o->∀D:Ends,yH K (PR K) HB S0 D o->t D σ H
theorem wJ{c:TT}{ta:TS}{ft:En->Option Bool}{gA:En->Option Out}(hc:RT K (PR K) c ft)(hA:RS K (PR K) ta gA)(h:RTa K i u g):RTa K i (S7 (sI c ta tNext) u) (X5 ft gA g):=fun HB S0 σ ρ H0 H r o ho D d=>by
 obtain ⟨k,hb,ho⟩:=A0.mp ho;refine hc HB σ _ _ H r.x.s1 ⟨r.er⟩ k hb _ fun H1 J1 x1=> ?_
 cases k with
 | true=>
  refine UZ ?_;obtain ⟨o1,h1,h2⟩:=A0.mp ho;refine hA HB S0 σ _ H1 J1 (r.x.chain x1) ⟨r.er.ext x1⟩ o1 h1 _ ?_
  cases o1 with
  | nx _=>cases h2
  | rt _ _=>cases h2;exact d
  | bk _=>cases h2;exact d
  | ct _=>cases h2;exact d
 | false=>exact V2 (h HB S0 σ ρ H1 J1 (r.ext x1) o ho D d)
def R3(i:Nat)(g:En->Option Out):En->Option Out:=fun ρ=>match (ρ[i]?).join with
 | some (.val (.tuple (.list ds::rest)))=>if ds.length<sizeLine/\HQ ds=true/\HQ rest=true then g (ρ.set i (some (.val (.tuple (.list (ds ++ [.none])::rest))))) else none
 | _=>none
theorem gR{α:Type}{a:α}{l:List α}:atI (a::l) 0=some a:=by
 have:ixN (a::l).length 0=some 0:=by simp [ixN]
 unfold atI;rw [this];rfl
theorem mB(h:RS K (PR K) u g):RTa K i (S7 (R6 (tBM K "list" rAppend (tOp (rIx K) (KI i) (tC (.int 0))) (JV (tC .non) tNil))) u) (R3 i g):=fun HB S0 σ ρ H0 H r o ho D d=>by
 unfold R3 at ho
 split at ho
 . rename_i ds rest hj
   split at ho
   . rename_i hl;obtain ⟨hl,n2,n3⟩:=hl;have hj:=join_some hj;obtain ⟨H1,p,b,vs,us,g1,g2,g4,g5,g6,g7,g8,g9,g10⟩:=r.fr ds rest hj n2 n3;have hHb:H b=some (.lst vs):=r.x.s1 _ _ g8;have hHp:H p=some (.tup (.ref b::us)):=g10.s1 _ _ g2;refine ⟨.ref p,g1, .inr (.inl ⟨p,_,0, .ref b,rfl,rfl,SqT.of hHp,gR, .inl ⟨rfl,vs,SqL.of hHb⟩,b,vs, .non,rfl,rfl,hHb,by rw [g5.length];exact hl,?_⟩)⟩;have s1:Same H1 (upd H1 b (.lst (vs ++ [.non]))):=Same.upd g6 _;have xw:=g10.write g7 g6 (.lst (vs ++ [.non]))
     have x2 : Ext S0 HB (upd H1 b (.lst (vs ++ [.non]))) (upd H b (.lst (vs ++ [.non]))) := ⟨xw.s, xw.s0.trans s1, fun c q e => by
      by_cases hc:c=b
      . subst hc;rw [BC] at e ⊢;exact e
      . rw [AY hc] at e ⊢;exact g10.s1 c q e,fun c q e m z=>by rw [AY (BD e g7)];exact xw.own c q e m z⟩
     refine h HB S0 σ _ _ _ x2 ⟨⟨by rw [CD];exact r.er.len,fun j s hs=> ?_,fun j k c es fs hjk h1 h2 h3 h4=> ?_⟩⟩ o ho D d
     . by_cases hij:i=j
       . subst hij;rw [BL,hj] at hs
         cases hs
         refine ⟨.ref p,g1,?_⟩;have pb:p≠b:=BD g2 g6;exact .tuple (SqT.of (by rw [AY pb];exact g2)) (.cons (.list (SqL.of BC) (Reps.snoc (Reps.same s1 g5) .none)) (Reps.same s1 g4))
       . rw [A8 hij] at hs
         obtain ⟨v,q1,q2⟩:=g9.get j s (by rw [A8 hij];exact hs);obtain ⟨v',z1,z2⟩:=r.er.get j s hs;rw [q1] at z1
         cases z1
         refine ⟨v,q1,?_⟩
         cases s with
         | val d=>exact Rep.same s1 q2
         | own ts=>
          obtain ⟨c,ws,rfl,a1,a2,a3,a4⟩:=q2;obtain ⟨c',ws',ec,b1,b2,b3,b4⟩:=z2
          cases ec
          have hcb:c≠b:=fun e=>by rw [e,g8] at b2;cases b2
          exact ⟨c,ws,rfl,a1,by rw [AY hcb];exact a2,by rw [AY hcb];exact a3,Reps.same s1 a4⟩
         | dct ts=>
          obtain ⟨c,ws,rfl,a1,a2,a3,a4⟩:=q2;obtain ⟨c',ws',ec,b1,b2,b3,b4⟩:=z2
          cases ec
          have hcb:c≠b:=fun e=>by rw [e,g8] at b2;cases b2
          exact ⟨c,ws,rfl,a1,by rw [AY hcb];exact a2,by rw [AY hcb];exact a3,a4.same s1⟩
     . have hij : i ≠ j := by
        rintro rfl;rw [BL,hj] at h1
        cases h1
       have hik:i≠k:=by
        rintro rfl;rw [BL,hj] at h2
        cases h2
       rw [A8 hij] at h1
       rw [A8 hik] at h2
       exact r.er.apart j k c es fs hjk h1 h2 h3 h4
   . cases ho
 . cases ho
theorem n6{F:List PyData->Option Sl}{E:XK}{ta:TA}{fa:En->Option (List PyData)}(ha:RA K (PR K) ta fa)(k:RTa K i u g):RS K (PR K) (S7 (T4 (V3 (spA K F) [] E ta) (MS i)) u) (NH i (mCall F fa) g):=fun HB S0 σ ρ H0 H x e o ho D d=>by
 unfold NH at ho
 split at ho
 . rename_i hi;obtain ⟨s,hs,ho⟩:=A0.mp ho
   cases s with
   | val dd=>
    obtain ⟨ds,hd,hF⟩:=A0.mp hs;refine ha HB σ ρ H0 H x.s1 e ds hd _ fun ws H1 J1 x1 p1=> ?_;rw [DH];refine ⟨H1,ds,dd,x1.s1,p1,hF,fun v H2 J2 x2 p2 fr=> ?_⟩;have er:ER K HB H0 H σ ρ:=e.r;have x12:=x1.trans x2;have e2:ER K HB H2 J2 (σ.set i (some v)) (ρ.set i (some (.val dd))):=ER.set (r:= .val dd) er x12 x.s p2;have xx:=x.chain x12;refine k HB S0 _ _ H2 J2 ⟨xx,e2,fun es rest h1 n2 n3=> ?_⟩ o ho D d;rw [B7 hi] at h1
    cases h1
    obtain ⟨p,b,us,rfl,hp,hr,hb,vs,hv,rs⟩:=fr _ _ rfl;have bJ:J1 b=none:=hb
    let H3:Hp:=fun c=>if c=b then none else H2 c
    have tp:∀c o,H2 c=some o->(∀xs,o ≠ .lst xs)->H3 c=some o:=fun c ys hc hn=>by
     show (if c=b then none else H2 c)=_;rw [C9]
     . exact hc
     . rintro rfl;rw [hv] at hc
       exact hn _ (B9 hc).symm
    have b0:H1 b=none:=x1.s1.free bJ
    have s3:Same H1 H3:=fun c q hc=>by
     have cb:c≠b:=BD hc b0;show (if c=b then none else H2 c)=_;rw [C9 cb];exact x2.s0 c q hc
    have s32:Same H3 H2:=fun c q hc=>by
     have hc:(if c=b then none else H2 c)=some q:=hc
     split at hc
     . cases hc
     . exact hc
    have x3:Ext H0 H H3 J2:=⟨x12.s,x1.s0.trans s3,s32.trans x2.s1,fun c q hc m z=>by
     show (if c=b then none else H2 c)=none
     split
     . rfl
     . exact x12.own c q hc m z⟩
    refine ⟨H3,p,b,vs,us,B7 (by rw [er.len];exact hi),tp _ _ hp (fun _ z=>by cases z),Reps.dropL tp hr n3,Reps.dropL tp rs n2,CQ rfl,x.s.free (x1.s.free bJ),hv,?_,x.chain x3⟩;rw [List.set_set];have e3:=er.ext x3;refine ⟨by rw [CD,CD];exact er.len,fun j s hs=> ?_,fun j k c es fs hjk h1 h2 h3 h4=> ?_⟩
    . have hij : i ≠ j := by
       rintro rfl;rw [B7 hi] at hs
       cases hs
      rw [A8 hij] at hs
      obtain ⟨v',z1,z2⟩:=e3.get j s hs;exact ⟨v',by rw [A8 hij];exact z1,z2⟩
    . have hij : i ≠ j := by
       rintro rfl;rw [B7 hi] at h1
       cases h1
      have hik:i≠k:=by
       rintro rfl;rw [B7 hi] at h2
       cases h2
      rw [A8 hij] at h1 h3
      rw [A8 hik] at h2 h4
      exact er.apart j k c es fs hjk h1 h2 h3 h4
   | _=>cases ho
 . cases ho
end
section
variable {K:PySem.W.Frag} {P:Program} {w:World} {mg:Str->Option Value} {base:Heap}
def pG(X:Cx)(st:List Stmt)(g:En->Option Out):Prop:=∃t,PSs X st t/\lU X.K t g
theorem zB {x qual : Str} {st : Stmt} {f c : Addr} {fd : FuncData} {N ps : List Str} {k n m : Nat} {g : En -> Option Out} (F : Fun K x qual st f fd) (hc : fd.code = .ref c) (S : FnScope N ps (AN st)) (hn : N.length = n) (hm : ps.length = m)
 (hb:∀(A:Around) (outer:List Env) (s:Shared) (H:Hp) (E:XK),Room k (A.deeper (envOfC qual (AN st) s.heap.objs.size f (.ref c)))->pG (OF CX0 P w K mg base N qual (AN st) f (.ref c) A outer s H E).nox (GD st) g) :
 FnOk P w K mg base CX0 (k+1) f fd ps (spA K (cB n g m)):=by
 subst hn hm;obtain ⟨oc,od,kV,doc,pm,an,cdv,ct,osl,rfl,lk,hcd⟩:=F.ex;obtain rfl:cdv = .ref c:=hc;refine qE lk hcd S (fun vs H Q E h=> ?_) fun A outer s H vs Q E hr h=> ?_
 . obtain ⟨H0,ds,r,s,hr,hf,_⟩:=h;unfold cB at hf
   split at hf
   . rename_i hl;rw [hr.length,hl]
   . cases hf
 . obtain ⟨t,ht,rs⟩:=hb A outer s H E hr;refine ⟨t,ht.nox,?_⟩;obtain ⟨H0,ds,r,s0,hr,hf,q⟩:=h;unfold cB at hf
   split at hf
   . obtain ⟨o,ho,hf⟩:=A0.mp hf
     cases o with
     | rt r' ρ' =>
      cases hf
      exact rs H H0 _ _ H0 H (Ext.refl s0) (PZ hr) r ρ' ho _ fun v H1 J1 a b c=>q v H1 J1 a b c
     | nx _=>cases hf
     | bk _=>cases hf
     | ct _=>cases hf
   . cases hf
end
section
variable {X:Cx} {c e e0:Expr} {pos p pos':Pos} {f fe:En->Option Sl} {fs fa:En->Option (List PyData)} {x:Str} {ft:En->Option Bool} {st:Stmt} {sts A B:List Stmt} {g gA gf:En->Option Out} {es:List Expr} {i j:Nat}
def DRa(X:Cx)(i:Nat)(sts:List Stmt)(g:En->Option Out):Prop:=∃t,PSs X sts t/\RFa X.K i t g
def DTa(X:Cx)(i:Nat)(sts:List Stmt)(g:En->Option Out):Prop:=∃t,PSs X sts t/\RTa X.K i t g
theorem nD(k:Nat)(h:DRa X i sts g):DRa X i sts (mFrz k g):=by
 obtain ⟨t,h1,h2⟩:=h;exact ⟨t,h1,m8 k h2⟩
theorem lD {x1} {p4 : Pos} (i : Nat) (ha : DA X (PR X.K) es fa) (hN : X.N[i]? = some x := by rfl) (hv : Vis X.env.scope x := by first | exact DM rfl | exact C7 (DM rfl) | exact C7 (C7 rfl)) (hd : (x == ("__debug__" : Str)) = false := by decide) (hcd : (x == ("__classdict__" : Str)) = false := by decide)
 (hs2:starEach (.Name x p4::es) X.env=(false,eval (.Name x p4) X.env)::starEach es X.env:=by rfl):DRa X i [.Return (some (.Tuple (.Name x p4::es) x1 pos)) pos'] (mRet (mTup (mCons (mVar i) fa))):=by
 obtain ⟨u,h3,h4⟩:=ha;exact ⟨_,RY (T2 (dI (HH (G3 hN hv hd hcd) h3 hs2))),oA h4⟩
theorem NR(h:DAs X j st gf)(k:pG X sts g):pG X (st::sts) (mSeq gf g):=by
 obtain ⟨t,h1,h2⟩:=h;obtain ⟨u,h3,h4⟩:=k;exact ⟨_,HL h1 h3,cF h2 h4⟩
theorem gG(h:DAs X i st gf)(k:DRa X i sts g):pG X (st::sts) (mSeq gf (LU i g)):=by
 obtain ⟨t,h1,h2⟩:=h;obtain ⟨u,h3,h4⟩:=k;exact ⟨_,HL h1 h3,iU h2 h4⟩
theorem dH {y : Str} {k j : Nat} {ps : List Str} {F : List PyData -> Option Sl} {cp : Pos} (i : Nat) (hN : X.N.Nodup) (D : Tf.Def X.prog X.w X.K X.mg X.base j y ps (spA X.K F)) (hr : Room k X.A) (h : DA X (PR X.K) (e :: es) fs) (kk : DTa X i sts g)
 (hj:j<=k:=by decide) (hg:Gl X y:=by rfl) (hdb:(y==("__debug__" : Str))=false:=by decide) (he:starEach (e::es) X.env=(false,eval e X.env)::starEach es X.env:=by rfl) (hpl:(backTo cp (starEach es X.env)).any (·.1)=false:=by rfl)
 (hi:X.N[i]? = some x:=by rfl) (hx:Loc X.env.scope x:=by first | exact DM rfl | exact C7 rfl) (hs:swapsWith (.Call (.Name y p) (e::es) [] cp) (some (.Name x pos')) pos.line X.env=pure false:=by rfl) (hf:X.fn x=true\/X.env.scope.names.lookup x=some .local:=by first | exact .inl rfl | exact .inr rfl) :
 DSs X (PR X.K) (.Assign [.Name x pos'] (.Call (.Name y p) (e::es) [] cp) pos::sts) (NH i (mCall F fs) g):=by
 obtain ⟨t,h1,h2⟩:=h;obtain ⟨u,h3,h4⟩:=kk;exact ⟨_,HL (Q5 hN hi hx (PD D hr h1 hj hg hdb he hpl) hs hf) h3,n6 h2 h4⟩
theorem X3(hc:DT X (PR X.K) c ft)(hA:DSs X (PR X.K) A gA)(h:DTa X i sts g):DTa X i (.If c A [] pos::sts) (X5 ft gA g):=by
 obtain ⟨t,h1,h2⟩:=hc;obtain ⟨u,h3,h4⟩:=hA;obtain ⟨v,h5,h6⟩:=h;exact ⟨_,HL (qO h1 h3 YY) h5,wJ h2 h4 h6⟩
theorem oC {p2 p3 p4 p5 apos cpos pe : Pos} {kc ki} (i : Nat) (h : DSs X (PR X.K) sts g)
 (hN:X.N[i]? = some x:=by rfl) (hv:Vis X.env.scope x:=by first | exact DM rfl | exact C7 (DM rfl) | exact C7 (C7 rfl)) (hd:(x==("__debug__" : Str))=false:=by decide) (hcd:(x==("__classdict__" : Str))=false:=by decide)
 (hpx:RZ (.Constant (.int 0) ki p4):=by intro _ _;rfl)
 (hst:starEach [.Constant .none kc p3] X.env=(false,eval (.Constant .none kc p3) X.env)::starEach [] X.env:=by rfl) (hbase:attributeBase (.Subscript (.Name x p2) (.Constant (.int 0) ki p4) p5) "append" X.env (eval (.Subscript (.Name x p2) (.Constant (.int 0) ki p4) p5) X.env)=eval (.Subscript (.Name x p2) (.Constant (.int 0) ki p4) p5) X.env:=by rfl)
 (hfew:((backTo cpos (starEach [.Constant .none kc p3] X.env)).all (fun x=> !x.1) && (backToKw cpos (keywordEach [] X.env)).all (fun x=>x.1.isSome) && decide ([Expr.Constant .none kc p3].length+([]:List Keyword).length+(if ([]:List Keyword).isEmpty then 0 else 1)<30))=true:=by rfl)
 (hline:(apos.endLine==cpos.line)=true:=by rfl) (hplain:(backTo cpos (starEach [] X.env)).any (·.1)=false:=by rfl)
 (hs:swapsWith (.Call (.Attribute (.Subscript (.Name x p2) (.Constant (.int 0) ki p4) p5) "append" apos) [.Constant .none kc p3] [] cpos) none pe.line X.env=pure false:=by rfl) :
 DTa X i (.Expr (.Call (.Attribute (.Subscript (.Name x p2) (.Constant (.int 0) ki p4) p5) "append" apos) [.Constant .none kc p3] [] cpos) pe::sts) (R3 i g):=by
 obtain ⟨v,h5,h6⟩:=h;exact ⟨_,HL (M3 (Z4 HS GF LL NG (qJ eU (G3 hN hv hd hcd) iO hpx) (HH hW KJ hst) hbase hfew hline hst hplain) hs) h5,mB h6⟩
theorem p9{ρ:En}{Q:Out->Prop}{ds rest:List PyData}(hi:(ρ[i]?).join=some (.val (.tuple (.list ds::rest))))(hl:ds.length<sizeLine)(n2:HQ ds=true)(n3:HQ rest=true)(h:Wp g (ρ.set i (some (.val (.tuple (.list (ds ++ [.none])::rest))))) Q):Wp (R3 i g) ρ Q:=by
 obtain ⟨o,h1,h2⟩:=h;refine ⟨o,?_,h2⟩;unfold R3;rw [hi];show (if ds.length<sizeLine/\HQ ds=true/\HQ rest=true then _ else _)=_;rw [if_pos ⟨hl,n2,n3⟩];exact h1
end
section
variable {X:Cx} {R':Rl} [RelOk X.K R'] {pos:Pos} {fe:En->Option Sl} {fi:En->Option (List PyData)} {tg:Expr} {y:Str} {fg:PyData->En->Option En} {ft:En->Option Bool} {osc sc:Scope} {N':List Str} {ifs:List Expr} {elt iter:Expr}
theorem iG {N : List Str} (ho : X.env.scope = osc) (hN : X.N = N) (i : Nat) (ix : List (Option Nat)) (sb : En -> En) (hx : ∀ (HB : Hp) (σ : L2.St) (ρ : En) (H0 H : Hp), (PR X.K).r HB H0 H σ ρ -> R'.r (fun _ => none) H0 H (FY ix σ) (sb ρ)) {py spos : Pos} (hnd : X.N.Nodup) (hi : DI X (PR X.K) tg iter fi) (hg : ∀ b : CB, DGk (cxC X osc sc N' b) R' (O0 ix) tg fg) (ht : ∀ b : CB, DTs (cxC X osc sc N' b) R' ifs ft) (he : ∀ b : CB, DE (cxC X osc sc N' b) R' elt fe)
 (hi':X.N[i]? = some y:=by rfl) (hy:X.env.scope.names.lookup y=some .local:=by rfl) (hsw:swapsWith (.ListComp elt [⟨tg,iter,ifs,0⟩] sc pos) (some (.Name y py)) spos.line X.env=pure true:=by rfl)
 (hcs:WR osc sc N N' ix=true:=by decide +kernel) (hc:X.calm=true:=by rfl)
 (hs:∀x,foldedSetIterable iter X.env x=pure x:=by intro _;rfl):DAs X i (.Assign [.Name y py] (.ListComp elt [⟨tg,iter,ifs,0⟩] sc pos) spos) (mAsg i (mLC sb fi fg ft fe)):=by
 obtain ⟨wi,h1,h2⟩:=hi
 exact ⟨_,YE (g:=fun b=>(hg b).choose) (tt:=fun b=>(ht b).choose) (te:=fun b=>(he b).choose) hnd hi' hy hsw hc ho hN hcs h1 (fun b=>⟨(hg b).choose_spec.1,(ht b).choose_spec.1,(he b).choose_spec.1⟩) (fun b=>(hg b).choose_spec.2.2.gk) hs,
  ZB (iB hx h2 (fun b=>(hg b).choose_spec.2.1) (fun b=>(ht b).choose_spec.2) (fun b=>(he b).choose_spec.2))⟩
end
end Dm
namespace Dm
open PySem PySem.Spec PyProof.Rows L2 Tf
section
variable {K:PySem.W.Frag} {HB S0 H0 H H0' H':Hp} {σ:L2.St} {ρ:En} {i j:Nat} {t u:TS} {f g:En->Option Out}
def R7(i:Nat)(f g:En->Option Out):En->Option Out:=fun ρ=>match (ρ[i]?).join with
 | some (.val (.tuple (.list ds::rest)))=>if HQ ds=true/\HQ rest=true then (f (ρ.set i none)).bind fun o=>match o with
  | .nx ρ1=>if i<ρ1.length then g (ρ1.set i (some (.val (.tuple (.list ds::rest))))) else none
  | _=>none
  else none
 | _=>none
theorem dP(hij:j≠i)(h:RAs K j t f)(k:RTa K i u g):RTa K i (S7 t u) (R7 i f g):=fun HB S0 σ ρ H0 H r o ho D d=>by
 unfold R7 at ho
 split at ho
 . rename_i ds rest hj
   split at ho
   . rename_i hn;obtain ⟨n2,n3⟩:=hn;obtain ⟨o1,h1,ho⟩:=A0.mp ho;have hj:=join_some hj;obtain ⟨H1,p,b,vs,us,g1,g2,g4,g5,g6,g7,g8,g9,g10⟩:=r.fr ds rest hj n2 n3;have hHb:H b=some (.lst vs):=r.x.s1 _ _ g8;have s0b:S0 b=none:=g10.s0.free g6;have sB:Same HB (upd HB b (.lst vs)):=Same.upd g7 _
     have xB : Ext S0 (upd HB b (.lst vs)) H1 H := ⟨fun c q e => by
      by_cases hc:c=b
      . subst hc;rw [BC] at e;rw [hHb];exact e
      . rw [AY hc] at e;exact g10.s c q e,g10.s0,g10.s1,fun c q e m z=>by
      by_cases hc:c=b
      . subst hc;exact g6
      . rw [AY hc] at e;exact g10.own c q e m z⟩
     have nb:∀(m:Nat) c ts,(ρ.set i none)[m]? = some (some (.own ts))->σ[m]? = some (some (.ref c))->c≠b:=fun m c ts q1 q2 e=>by
      have him:i≠m:=by
       rintro rfl;rw [BL,hj] at q1
       cases q1
      rw [A8 him] at q1
      obtain ⟨v',z1,c',ws',rfl,b1,b2,b3,b4⟩:=r.er.get m _ q1;rw [q2] at z1
      cases z1
      rw [e,g8] at b2
      cases b2
     have eB : ER K (upd HB b (.lst vs)) H1 H σ (ρ.set i none) := ⟨g9.len, fun m s hs => by
      obtain ⟨v,q1,q2⟩:=g9.get m s hs;refine ⟨v,q1,?_⟩
      cases s with
      | val d=>exact q2
      | own ts=>
       obtain ⟨c,ws,rfl,a1,a2,a3,a4⟩:=q2
       exact ⟨c,ws,rfl,by rw [AY (nb m c ts hs q1)];exact a1,a2,a3,a4⟩
      | dct ts=>
       obtain ⟨c,ws,rfl,a1,a2,a3,a4⟩:=q2;have hc:c≠b:=fun e=>by rw [e,hHb] at a3;cases a3
       exact ⟨c,ws,rfl,by rw [AY hc];exact a1,a2,a3,a4⟩,g9.apart⟩
     refine h _ S0 σ _ H1 H xB eB o1 h1 { D with nx:=u D} fun ρ1 eo _ v H2 J2 s2 x2 e2=> ?_;subst eo;have ho:(if i<ρ1.length then g (ρ1.set i (some (.val (.tuple (.list ds::rest))))) else none)=some o:=ho
     split at ho
     . rename_i hi;have b2:H2 b=none:=x2.own b _ BC trivial s0b;have hJb:J2 b=some (.lst vs):=x2.s _ _ BC;have s3:Same H2 (upd H2 b (.lst vs)):=Same.upd b2 _;have pb:p≠b:=BD g2 g6;have σi:(σ.set j (some v))[i]? = some (some (.ref p)):=by rw [A8 hij];exact g1
       have x2':Ext S0 HB H2 J2:=⟨sB.trans x2.s,x2.s0,x2.s1,fun c q e m z=>x2.own c q (sB c q e) m z⟩
       have e2':ER K HB H2 J2 (σ.set j (some v)) ρ1:=⟨e2.len,fun m s hs=>by
        obtain ⟨w,q1,q2⟩:=e2.get m s hs;exact ⟨w,q1,q2.base sB⟩,e2.apart⟩
       have x3 : Ext S0 HB (upd H2 b (.lst vs)) J2 := ⟨x2'.s, x2.s0.trans s3, fun c q e => by
        by_cases hc:c=b
        . subst hc;rw [BC] at e;rw [hJb];exact e
        . rw [AY hc] at e;exact x2.s1 c q e,fun c q e m z=>by
        rw [AY (BD e g7)];exact x2'.own c q e m z⟩
       refine k HB S0 _ _ (upd H2 b (.lst vs)) J2 ⟨x3,⟨e2.len.trans CD.symm,fun m s hs=> ?_,fun m m' c es fs hmm q1 q2 q3 q4=> ?_⟩,fun ds' rest' q1 q2 q3=> ?_⟩ o ho D d
       . by_cases him:i=m
         . subst him;rw [B7 hi] at hs
           cases hs
           exact ⟨.ref p,σi, .tuple (SqT.of (by rw [AY pb];exact s2 _ _ g2)) (.cons (.list (SqL.of BC) (Reps.same (s2.trans s3) g5)) (Reps.same (s2.trans s3) g4))⟩
         . rw [A8 him] at hs
           obtain ⟨w,q1,q2⟩:=e2.get m s hs;refine ⟨w,q1,?_⟩
           cases s with
           | val d=>exact Rep.same s3 q2
           | own ts=>
            obtain ⟨c,ws,rfl,a1,a2,a3,a4⟩:=q2;have hc:c≠b:=fun e=>by rw [e,BC] at a1;cases a1
            rw [AY hc] at a1
            exact ⟨c,ws,rfl,a1,by rw [AY hc];exact a2,a3,Reps.same s3 a4⟩
           | dct ts=>
            obtain ⟨c,ws,rfl,a1,a2,a3,a4⟩:=q2;have hc:c≠b:=fun e=>by rw [e,BC] at a1;cases a1
            rw [AY hc] at a1
            exact ⟨c,ws,rfl,a1,by rw [AY hc];exact a2,a3,a4.same s3⟩
       . have h1 : i ≠ m := by
          rintro rfl;rw [B7 hi] at q1
          cases q1
         have h2:i≠m':=by
          rintro rfl;rw [B7 hi] at q2
          cases q2
         rw [A8 h1] at q1
         rw [A8 h2] at q2
         exact e2.apart m m' c es fs hmm q1 q2 q3 q4
       . rw [B7 hi] at q1
         cases q1
         refine ⟨H2,p,b,vs,us,σi,s2 _ _ g2,Reps.same s2 g4,Reps.same s2 g5,b2,g7,BC,?_,x2'⟩;rw [List.set_set];refine ⟨e2.len.trans CD.symm,fun m s hs=> ?_,fun m m' c es fs hmm q1 q2 q3 q4=> ?_⟩
         . have him : i ≠ m := by
            rintro rfl;rw [B7 hi] at hs
            cases hs
           rw [A8 him] at hs
           exact e2'.get m s hs
         . have h1 : i ≠ m := by
            rintro rfl;rw [B7 hi] at q1
            cases q1
           have h2:i≠m':=by
            rintro rfl;rw [B7 hi] at q2
            cases q2
           rw [A8 h1] at q1
           rw [A8 h2] at q2
           exact e2.apart m m' c es fs hmm q1 q2 q3 q4
     . cases ho
   . cases ho
 . cases ho
end
section
variable {X:Cx} {st:Stmt} {sts:List Stmt} {g gf:En->Option Out} {i j:Nat}
theorem i8(h:DAs X j st gf)(k:DTa X i sts g)(hij:j≠i:=by decide):DTa X i (st::sts) (R7 i gf g):=by
 obtain ⟨t,h1,h2⟩:=h;obtain ⟨u,h3,h4⟩:=k;exact ⟨_,HL h1 h3,dP hij h2 h4⟩
end
end Dm
namespace Tf
open PySem PySem.Spec PyProof.Rows L2
variable {X:Cx}
theorem X1(hc:X.calm=true):JX X (.builtin "max") (fun xs H Q=>∃a ns,xs = [V.ref a]/\SqL X.K H a (ns.map V.int)/\ns ≠ []/\∀M,M ∈ ns->(∀b ∈ ns,b<=M)->Q (.int M) H):=by
 intro pins s σ H xs us Q I r h;obtain ⟨a,ns,rfl,hq,hne,q⟩:=h;obtain ⟨u,rfl,ru⟩:=K0 r
 cases ru
 obtain ⟨its,rv,p1,hz⟩:=I.list hq;have hi:=MW rv;have hl:=p1.isList;obtain ⟨xs,e⟩:=hi.allInts.items
 have hns:ns=xs.toList.map (·.1):=by
  rw [<-hi.numsOf, <-nums_intItems, <-e]
 have hsz:0<xs.size:=by
  have h3:=yS.mpr hne;rw [hns,A9,FV] at h3
  exact h3
 rw [e] at hl
 refine max_intList (I.ok.hd hc) hl hsz fun v h' tk hv hk=> ?_;obtain ⟨t,rfl⟩:=intItems_at hv;obtain ⟨h1,h2⟩:=argBest_gt (numAt xs) (xs.size - 1);refine ⟨.int _,H,I.kept hk,⟨t,rfl⟩,q _ ?_ fun b hb=> ?_⟩
 . rw [hns,numAt_eq];exact getD_mem (by rw [A9,FV];omega)
 . rw [hns] at hb
   obtain ⟨j,hj,rfl⟩:=mem_getD hb;rw [A9,FV] at hj
   rw [<-numAt_eq];exact h2 j (by omega)
end Tf
namespace Dm
open PySem PySem.Spec PyProof.Rows L2 Tf
def dMaxLi:List Sl->Option Sl
 | [s]=>match s.dat with
  | .list ds=>(J0 ds).bind fun ns=>ns.max?.map fun m=> .val (.int m)
  | _=>none
 | _=>none
section
variable {K:PySem.W.Frag}
theorem dJ:LH K (fun xs H Q=>∃a ns,xs = [V.ref a]/\SqL K H a (ns.map V.int)/\ns ≠ []/\∀M,M ∈ ns->(∀b ∈ ns,b<=M)->Q (.int M) H) dMaxLi:=fun H0 H vs ss z s p hz Q q=>by
 unfold dMaxLi at hz
 split at hz
 . obtain ⟨v,rfl,pa⟩:=HC p
   split at hz
   . rename_i ds hd;obtain ⟨ns,hn,hz⟩:=A0.mp hz;obtain ⟨m,hm,rfl⟩:=AQ.mp hz;obtain ⟨a,vs,rfl,h1,h2⟩:=pa.lst s hd;rw [NC hn] at h2
     cases NL h2
     refine ⟨a,ns,rfl,h1,fun c=>by subst c;simp at hm,fun M hM hb=> ?_⟩;have:ns.max? = some M:=OB.mpr ⟨hM,hb⟩;rw [hm] at this
     cases this
     exact q _ _ _ (Ext.refl s) (.int _)
   . cases hz
 . cases hz
end
end Dm
namespace Ba
abbrev Mx:=Nat->Nat->Int
def skip(p i:Nat):Nat:=if i<p then i else i+1
def GS(p r:Nat):Nat:=if r<p then r else r - 1
def sgn(n:Nat):Int:=if n % 2=0 then 1 else -1
def sumN:Nat->(Nat->Int)->Int
 | 0,_=>0
 | n+1,f=>sumN n f+f n
def det:Nat->Mx->Int
 | 0,_=>1
 | n+1,M=>sumN (n+1) fun p=>sgn (n - p)*M p n*det n (fun i=>M (skip p i))
theorem HJ(n:Nat)(M:Mx):det (n+1) M=sumN (n+1) fun p=>sgn (n - p)*M p n*det n (fun i=>M (skip p i)):=rfl
theorem H9:∀ {n:Nat} {f g:Nat->Int},(∀i,i<n->f i=g i)->sumN n f=sumN n g
 | 0,_,_,_=>rfl
 | n+1,f,g,h=>by
  rw [sumN,sumN,H9 (n:=n) fun i hi=>h i (by omega),h n (by omega)]
theorem VG:∀ {n:Nat} {f:Nat->Int},(∀i,i<n->f i=0)->sumN n f=0
 | 0,_,_=>rfl
 | n+1,f,h=>by rw [sumN,VG (n:=n) fun i hi=>h i (by omega),h n (by omega)];rfl
theorem OM(a b:Int):∀ {n:Nat} {f g:Nat->Int},sumN n (fun i=>a*f i+b*g i)=a*sumN n f+b*sumN n g
 | 0,_,_=>by simp [sumN]
 | n+1,f,g=>by
  rw [sumN,sumN,sumN,OM a b (n:=n),Y1,Y1];omega
theorem pJ(a:Int){n:Nat}{f:Nat->Int}:sumN n (fun i=>a*f i)=a*sumN n f:=by
 have h:=OM a 0 (n:=n) (f:=f) (g:=fun _=>0);simpa using h
theorem SI:∀ {n r:Nat} {f:Nat->Int},r<n->(∀i,i<n->i≠r->f i=0)->sumN n f=f r
 | 0,r,_,h,_=>absurd h (by omega)
 | n+1,r,f,h,hz=>by
  rw [sumN]
  by_cases e:r=n
  . subst e;rw [VG fun i hi=>hz i (by omega) (by omega)];omega
  . rw [SI (n:=n) (r:=r) (by omega) fun i hi hr=>hz i (by omega) hr,hz n (by omega) (by omega)];omega
theorem YC:∀ {n r:Nat} {f:Nat->Int},r+1<n->(∀i,i<n->i≠r->i≠r+1->f i=0)->sumN n f=f r+f (r+1)
 | 0,r,_,h,_=>absurd h (by omega)
 | n+1,r,f,h,hz=>by
  rw [sumN]
  by_cases e:r+1=n
  . subst e;rw [SI (r:=r) (by omega) fun i hi hr=>hz i (by omega) hr (by omega)]
  . rw [YC (n:=n) (r:=r) (by omega) fun i hi hr h2=>hz i (by omega) hr h2,hz n (by omega) (by omega) (by omega)];omega
theorem G0:∀ {n:Nat} {M N:Mx},(∀i,i<n->∀j,j<n->M i j=N i j)->det n M=det n N
 | 0,_,_,_=>rfl
 | n+1,M,N,h=>by
  rw [HJ,HJ];refine H9 fun p hp=> ?_;rw [h p hp n (by omega),G0 (n:=n) fun i hi j hj=>h (skip p i) (by unfold skip;split <;> omega) j (by omega)]
def setR(M:Mx)(r:Nat)(v:Nat->Int):Mx:=fun i=>if i=r then v else M i
theorem DF(M:Mx)(r:Nat)(v:Nat->Int):setR M r v r=v:=by simp [setR]
theorem ED{M:Mx}{r i:Nat}{v:Nat->Int}(h:i≠r):setR M r v i=M i:=by simp [setR,h]
theorem JG(M:Mx)(r:Nat):setR M r (M r)=M:=by
 funext i
 by_cases h:i=r
 . subst h;rw [DF]
 . rw [ED h]
theorem HW{M:Mx}{r s:Nat}{u v:Nat->Int}(h:r≠s):setR (setR M r u) s v=setR (setR M s v) r u:=by
 funext i
 by_cases h1:i=r
 . subst h1;rw [ED h,DF,DF]
 . by_cases h2:i=s
   . subst h2;rw [DF,ED h1,DF]
   . rw [ED h2,ED h1,ED h1,ED h2]
theorem P9{M:Mx}{r p:Nat}{v:Nat->Int}(h:p≠r):(fun i=>setR M r v (skip p i))=setR (fun i=>M (skip p i)) (GS p r) v:=by
 funext i
 by_cases e:i=GS p r
 . rw [e,DF];have:skip p (GS p r)=r:=by (unfold skip GS;split <;> (try split) <;> omega)
   rw [this,DF]
 . rw [ED e,ED];unfold skip GS at *
   split <;> split at e <;> omega
theorem IZ{M:Mx}{r:Nat}{v:Nat->Int}:(fun i=>setR M r v (skip r i))=fun i=>M (skip r i):=by
 funext i;rw [ED];unfold skip
 split <;> omega
theorem ME(a b:Int):∀ {n r:Nat} {M:Mx} {u v:Nat->Int},r<n->det n (setR M r (fun j=>a*u j+b*v j))=a*det n (setR M r u)+b*det n (setR M r v)
 | 0,r,_,_,_,h=>absurd h (by omega)
 | n+1,r,M,u,v,h=>by
  rw [HJ,HJ,HJ, <-OM];refine H9 fun p hp=> ?_
  by_cases e:p=r
  . subst e;rw [IZ,IZ,IZ,DF,DF,DF];generalize det n (fun i=>M (skip p i))=d;simp only [Y1,Int.add_mul];congr 1 <;> ac_rfl
  . rw [P9 e,P9 e,P9 e,ED e,ED e,ED e,ME a b (n:=n) (by unfold GS;split <;> omega)];simp only [Int.mul_add];congr 1 <;> ac_rfl
theorem MY{n r:Nat}{M:Mx}(h:r<n)(hz:∀j,j<n->M r j=0):det n M=0:=by
 have e:det n M=det n (setR M r (fun j=>0*M r j+0*M r j)):=G0 fun i hi j hj=>by
  by_cases q:i=r
  . subst q;rw [DF,hz j hj];omega
  . rw [ED q]
 rw [e,ME 0 0 h];omega
theorem dY(n:Nat):sgn (n+1) = - sgn n:=by
 unfold sgn
 split <;> split <;> omega
theorem S3:∀ {n r:Nat} {M:Mx},r+1<n->(∀j,j<n->M r j=M (r+1) j)->det n M=0
 | 0,_,_,h,_=>absurd h (by omega)
 | n+1,r,M,h,he=>by
  rw [HJ,YC (r:=r) h]
  . have e : det n (fun i => M (skip r i)) = det n (fun i => M (skip (r + 1) i)) := G0 fun i hi j hj => by
     by_cases q:i=r
     . subst q;have a:skip i i=i+1:=by unfold skip;split <;> omega
       have b:skip (i+1) i=i:=by unfold skip;split <;> omega
       rw [a,b];exact (he j (by omega)).symm
     . have:skip r i=skip (r+1) i:=by unfold skip;split <;> split <;> omega
       rw [this]
    rw [e,he n (by omega)]
    have s:sgn (n - r) = - sgn (n - (r+1)):=by
     have:n - r=(n - (r+1))+1:=by omega
     rw [this,dY]
    rw [s];simp only [LC];omega
  . intro p hp h1 h2
    have:det n (fun i=>M (skip p i))=0:=by
     refine S3 (n:=n) (r:=GS p r) (by unfold GS;split <;> omega) fun j hj=> ?_;have a:skip p (GS p r)=r:=by (unfold skip GS;split <;> (try split) <;> omega)
     have b:skip p (GS p r+1)=r+1:=by (unfold skip GS;split <;> (try split) <;> omega)
     show M (skip p (GS p r)) j=M (skip p (GS p r+1)) j;rw [a,b];exact he j (by omega)
    rw [this,N7]
theorem TB{n r:Nat}{M:Mx}{u v:Nat->Int}(h:r<n):det n (setR M r (fun j=>u j+v j))=det n (setR M r u)+det n (setR M r v):=by
 have:=ME 1 1 (M:=M) (u:=u) (v:=v) h;simpa using this
theorem VP{n r:Nat}{M:Mx}{u:Nat->Int}(a:Int)(h:r<n):det n (setR M r (fun j=>a*u j))=a*det n (setR M r u):=by
 have:=ME a 0 (M:=M) (u:=u) (v:=u) h;simpa using this
theorem aH {n r s : Nat} {M : Mx} (hr : r < n) (hs : s < n) (hrs : r ≠ s) (z : ∀ (M : Mx), M r = M s -> det n M = 0) (u v : Nat -> Int) :
 det n (setR (setR M r u) s v) = - det n (setR (setR M r v) s u):=by
 have w:∀x:Nat->Int,det n (setR (setR M r x) s x)=0:=fun x=>z _ (by rw [ED hrs,DF,DF]);have e:=w (fun j=>u j+v j);rw [TB hs,HW hrs,TB hr,HW hrs.symm,HW hrs.symm,HW (M:=M) (u:=fun j=>u j+v j) (v:=v) hrs,TB hr,HW hrs.symm,HW hrs.symm,w,w] at e
 omega
theorem KQ:∀ {d n r:Nat} {M:Mx},r+d+1<n->M r=M (r+d+1)->det n M=0
 | 0,n,r,M,h,he=>S3 h fun j _=>congrFun he j
 | d+1,n,r,M,h,he=>by
  have hs:r+d+1<n:=by omega
  have q:=aH (n:=n) (r:=r+d+1) (s:=r+d+1+1) (M:=M) hs (by omega) (by omega) (fun M' h'=>S3 (by omega) fun j _=>congrFun h' j) (M (r+d+1)) (M (r+d+1+1));rw [JG,JG] at q
  rw [q,KQ (d:=d) (r:=r) hs]
  . rfl
  . rw [ED (by omega),ED (by omega),ED (by omega),DF];exact he
theorem V1{n r s:Nat}{M:Mx}(hr:r<n)(hs:s<n)(hrs:r≠s)(he:M r=M s):det n M=0:=by
 rcases (by omega:r<s\/s<r) with h | h
 . obtain ⟨d,rfl⟩:∃d,s=r+d+1:=⟨s - r - 1,by omega⟩;exact KQ hs he
 . obtain ⟨d,rfl⟩:∃d,r=s+d+1:=⟨r - s - 1,by omega⟩;exact KQ hr he.symm
theorem iI{n r s:Nat}{M:Mx}(hr:r<n)(hs:s<n)(hrs:r≠s)(u v:Nat->Int):det n (setR (setR M r u) s v) = - det n (setR (setR M r v) s u) :=
 aH hr hs hrs (fun _ h=>V1 hr hs hrs h) u v
def exch(M:Mx)(r s:Nat):Mx:=setR (setR M r (M s)) s (fun j=> - M r j)
theorem gY{n r s:Nat}{M:Mx}(hr:r<n)(hs:s<n)(hrs:r≠s):det n (exch M r s)=det n M:=by
 unfold exch;have e:(fun j=> - M r j)=fun j=>(-1)*M r j:=by funext j;omega
 rw [e,VP _ hs,iI hr hs hrs,JG,JG];omega
theorem OZ{n r:Nat}{M:Mx}(hr:r<n)(a:Int)(q:Nat->Int):∀ {m:Nat},m<=r->det n (setR M r (fun j=>a*M r j+sumN m (fun p=>q p*M p j)))=a*det n M
 | 0,_=>by
  simp only [sumN,Int.add_zero]
  rw [VP _ hr,JG]
 | m+1,h=>by
  have e:(fun j=>a*M r j+sumN (m+1) (fun p=>q p*M p j))=fun j=>1*(a*M r j+sumN m (fun p=>q p*M p j))+q m*M m j:=by
   funext j;rw [sumN];omega
  have z:det n (setR M r (fun j=>M m j))=0:=V1 (r:=r) (s:=m) hr (by omega) (by omega) (by rw [DF,ED (by omega)]);rw [e,ME 1 (q m) hr,OZ hr a q (m:=m) (by omega),z];omega
theorem iH{n:Nat}{M:Mx}(h:∀j,j<n->M n j=0):det (n+1) M=M n n*det n M:=by
 rw [HJ,SI (r:=n) (by omega)]
 . rw [rE]
   have:det n (fun i=>M (skip n i))=det n M:=G0 fun i hi j hj=>by
    have:skip n i=i:=by unfold skip;split <;> omega
    rw [this]
   rw [this];simp [sgn]
 . intro p hp hne
   have:det n (fun i=>M (skip p i))=0:=by
    refine MY (r:=n - 1) (by omega) fun j hj=> ?_;have e:skip p (n - 1)=n:=by unfold skip;split <;> omega
    show M (skip p (n - 1)) j=0;rw [e];exact h j hj
   rw [this,N7]
end Ba
namespace Ba
inductive Ex (n:Nat) (A:Mx):Mx->Prop where
 | refl:Ex n A A
 | step {B:Mx} {r s:Nat}:r<n->s<n->r≠s->Ex n A B->Ex n A (exch B r s)
theorem Ex.det{n:Nat}{A B:Mx}(h:Ex n A B):det n B=det n A:=by
 induction h with
 | refl=>rfl
 | step h1 h2 h3 _ ih=>rw [gY h1 h2 h3,ih]
theorem exch_r{M:Mx}{r s:Nat}(h:r≠s):exch M r s r=M s:=by unfold exch;rw [ED h,DF]
theorem SB{M:Mx}{r s:Nat}:exch M r s s=fun j=> - M r j:=by unfold exch;rw [DF]
theorem MH{M:Mx}{r s i:Nat}(h1:i≠r)(h2:i≠s):exch M r s i=M i:=by unfold exch;rw [ED h2,ED h1]
def col(k:Nat)(L:Nat->Nat)(j t:Nat):Nat:=if t<k then L t else j
def row(k i r:Nat):Nat:=if r<k then r else i
def QA(B:Mx)(k:Nat)(L:Nat->Nat)(i j:Nat):Int:=det (k+1) fun r t=>B (row k i r) (col k L j t)
def lds(B:Mx)(k:Nat)(L:Nat->Nat):Int:=det k fun r t=>B r (L t)
theorem UI(B:Mx)(k:Nat)(L:Nat->Nat)(c:Nat):lds B (k+1) (fun t=>if t=k then c else L t)=QA B k L k c:=G0 fun r hr t ht=>by
 have e1:row k k r=r:=by unfold row;split <;> omega
 have e2:col k L c t=if t=k then c else L t:=by unfold col;split <;> split <;> first | rfl | omega
 rw [e1,e2]
theorem Z8{B:Mx}{k i j:Nat}{L:Nat->Nat}{μ:Int}{q w:Nat->Int}(hw:∀j,w j=μ*B i j+sumN k (fun p=>q p*B p j))(hz:∀t,t<k->w (L t)=0):μ*QA B k L i j=w j*lds B k L:=by
 have h:=OZ (n:=k+1) (r:=k) (M:=fun r t=>B (row k i r) (col k L j t)) (by omega) μ q (m:=k) (AA k)
 have e:(fun t=>μ*B (row k i k) (col k L j t)+sumN k (fun p=>q p*B (row k i p) (col k L j t)))=fun t=>w (col k L j t):=by
  funext t;have e1:row k i k=i:=by unfold row;split <;> omega
  rw [hw,e1];congr 1
  exact H9 fun p hp=>by
   have:row k i p=p:=by unfold row;split <;> omega
   rw [this]
 rw [e,iH] at h
 . unfold QA;rw [<-h,DF];have e2:col k L j k=j:=by unfold col;split <;> omega
   rw [e2];unfold lds;congr 1
   exact G0 fun r hr t ht=>by
    rw [ED (by omega)];have e3:row k i r=r:=by unfold row;split <;> omega
    have e4:col k L j t=L t:=by unfold col;split <;> omega
    rw [e3,e4]
 . intro t ht;rw [DF];have e4:col k L j t=L t:=by unfold col;split <;> omega
   rw [e4,hz t ht]
structure BI (n m:Nat) (A R:Mx) (k:Nat) (L:Nat->Nat) (last:Int) (c:Nat) (B:Mx):Prop where
 kn:k<=n
 cm:c<=m
 Lc:∀t,t<k->L t<c
 Li:∀s t,s<t->t<k->L s<L t
 nz:last≠0
 ld:last=lds B k L
 top:∀i,i<k->∀j,j<m->R i j=QA B i L i j
 topz:∀i,i<k->∀j,j<L i->R i j=0
 topn:∀i,i<k->R i (L i)≠0
 bot:∀i,k<=i->i<n->∃μ:Int,μ≠0/\∃q:Nat->Int,∀j,j<m->μ*R i j=last*(μ*B i j+sumN k (fun p=>q p*B p j))
 zero:∀i,k<=i->i<n->∀j,j<c->R i j=0
 ex:Ex n A B
theorem IB{a b c:Int}(h:a≠0)(e:a*b=a*c):b=c:=Int.eq_of_mul_eq_mul_left h e
theorem BI.minor{n m:Nat}{A R:Mx}{k:Nat}{L:Nat->Nat}{last:Int}{c:Nat}{B:Mx}(I:BI n m A R k L last c B){i j:Nat}(hi:k<=i)(hn:i<n)(hj:j<m):R i j=QA B k L i j:=by
 obtain ⟨μ,hμ,q,h⟩:=I.bot i hi hn
 have z:∀t,t<k->(fun j=>μ*B i j+sumN k (fun p=>q p*B p j)) (L t)=0:=by
  intro t ht;have e:=h (L t) (B2 (I.Lc t ht) I.cm);rw [I.zero i hi hn (L t) (I.Lc t ht),N7] at e
  rcases NT.mp e.symm with e | e
  . exact absurd e I.nz
  . exact e
 have e:=Z8 (j:=j) (w:=fun j=>μ*B i j+sumN k (fun p=>q p*B p j)) (fun _=>rfl) z;have e2:=h j hj;refine IB hμ ?_;rw [e,e2,I.ld];exact K7 _ _
theorem BI.start{n m:Nat}(A:Mx):BI n m A A 0 (fun _=>0) 1 0 A where
 kn:=DL _
 cm:=DL _
 Lc:=fun t h=>absurd h (by omega)
 Li:=fun s t _ h=>absurd h (by omega)
 nz:=by decide
 ld:=rfl
 top:=fun i h=>absurd h (by omega)
 topz:=fun i h=>absurd h (by omega)
 topn:=fun i h=>absurd h (by omega)
 bot:=fun i _ _=>⟨1,by decide,fun _=>0,fun j _=>by simp [sumN]⟩
 zero:=fun i _ _ j h=>absurd h (by omega)
 ex:= .refl
theorem BI.none{n m:Nat}{A R:Mx}{k:Nat}{L:Nat->Nat}{last:Int}{c:Nat}{B:Mx}(I:BI n m A R k L last c B)(hc:c<m)(h:∀i,k<=i->i<n->R i c=0):BI n m A R k L last (c+1) B:=
 { I with
   cm:=hc
   Lc:=fun t ht=>zR (I.Lc t ht)
   zero:=fun i h1 h2 j hj=>by
    by_cases e:j=c
    . subst e;exact h i h1 h2
    . exact I.zero i h1 h2 j (by omega)}
theorem LN{B B':Mx}{k i j:Nat}{L L':Nat->Nat}(hi:B i=B' i)(h:∀r,r<k->B r=B' r)(hL:∀t,t<k->L t=L' t):QA B k L i j=QA B' k L' i j:=G0 fun r hr t ht=>by
 have e1:B (row k i r)=B' (row k i r):=by
  unfold row
  split
  . exact h r (by assumption)
  . exact hi
 have e2:col k L j t=col k L' j t:=by
  unfold col
  split
  . exact hL t (by assumption)
  . rfl
 rw [e1,e2]
theorem bV{B B':Mx}{k:Nat}{L L':Nat->Nat}(h:∀r,r<k->B r=B' r)(hL:∀t,t<k->L t=L' t):lds B k L=lds B' k L':=G0 fun r hr t ht=>by rw [h r hr,hL t ht]
theorem BI.exch{n m:Nat}{A R:Mx}{k:Nat}{L:Nat->Nat}{last:Int}{c:Nat}{B:Mx}(I:BI n m A R k L last c B){p:Nat}(hp:k<p)(hn:p<n):BI n m A (exch R k p) k L last c (exch B k p):=by
 have up:∀ {M:Mx} {r:Nat},r<k->Ba.exch M k p r=M r:=fun h=>MH (by omega) (by omega);have su:∀(q:Nat->Int) j,sumN k (fun r=>q r*Ba.exch B k p r j)=sumN k (fun r=>q r*B r j):=fun q j=>H9 fun r hr=>by rw [up hr]
 refine ⟨I.kn,I.cm,I.Lc,I.Li,I.nz,?_,fun i hi j hj=> ?_,fun i hi j hj=> ?_,fun i hi=> ?_,fun i h1 h2=> ?_,fun i h1 h2 j hj=> ?_, .step (by omega) hn (by omega) I.ex⟩
 . rw [I.ld];exact bV (fun r hr=>(up hr).symm) fun _ _=>rfl
 . rw [up hi,I.top i hi j hj];exact LN (up hi).symm (fun r hr=>(up (by omega)).symm) fun _ _=>rfl
 . rw [up hi];exact I.topz i hi j hj
 . rw [up hi];exact I.topn i hi
 . by_cases e1:i=k
   . subst e1;obtain ⟨μ,h,q,e⟩:=I.bot p (by omega) hn;exact ⟨μ,h,q,fun j hj=>by rw [exch_r (by omega),exch_r (by omega),su];exact e j hj⟩
   . by_cases e2:i=p
     . subst e2;obtain ⟨μ,h,q,e⟩:=I.bot k (AA _) (by omega);refine ⟨μ,h,fun r=> - q r,fun j hj=> ?_⟩;rw [SB,SB,su]
       have s:sumN k (fun r=> - q r*B r j) = - sumN k (fun r=>q r*B r j):=by
        have:=pJ (-1) (n:=k) (f:=fun r=>q r*B r j);rw [show - sumN k (fun r=>q r*B r j) = -1*sumN k (fun r=>q r*B r j) by omega, <-this];exact H9 fun r _=>by simp [LC]
       rw [s,wW,wW, <-Int.neg_add,wW,e j hj]
     . obtain ⟨μ,h,q,e⟩:=I.bot i h1 h2;exact ⟨μ,h,q,fun j hj=>by rw [MH e1 e2,MH e1 e2,su];exact e j hj⟩
 . by_cases e1:i=k
   . subst e1;rw [exch_r (by omega)];exact I.zero p (by omega) hn j hj
   . by_cases e2:i=p
     . subst e2;rw [SB];show - R k j=0;rw [I.zero k (AA _) (by omega) j hj];rfl
     . rw [MH e1 e2];exact I.zero i h1 h2 j hj
def clr(R:Mx)(k c i j:Nat):Int:=R k c*R i j - R i c*R k j
theorem BI.exact {n m : Nat} {A R : Mx} {k : Nat} {L : Nat -> Nat} {last : Int} {c : Nat} {B : Mx} (I : BI n m A R k L last c B) (hc : c < m) (hk : k < n) (hl : R k c ≠ 0) {i : Nat} (hi : k < i) (hn : i < n) :
 (∃ν:Int,ν≠0/\∃s:Nat->Int,∀j,j<m->ν*clr R k c i j=last*(R k c*ν*B i j+sumN (k+1) (fun p=>s p*B p j))) /\
 ∀j,j<m->clr R k c i j=last*QA B (k+1) (fun t=>if t=k then c else L t) i j:=by
 obtain ⟨μi,hμi,qi,ei⟩:=I.bot i (by omega) hn;obtain ⟨μk,hμk,qk,ek⟩:=I.bot k (AA _) hk;have hν:μi*μk≠0:=bA hμi hμk
 have key:∀j,j<m->μi*μk*clr R k c i j=last*(R k c*(μi*μk)*B i j+sumN (k+1) (fun p=>(if p=k then - (R i c*(μi*μk)) else R k c*μk*qi p - R i c*μi*qk p)*B p j)):=by
  intro j hj;have a:=ei j hj;have b:=ek j hj
  have s:sumN (k+1) (fun p=>(if p=k then - (R i c*(μi*μk)) else R k c*μk*qi p - R i c*μi*qk p)*B p j)=R k c*μk*sumN k (fun p=>qi p*B p j) - R i c*μi*sumN k (fun p=>qk p*B p j) - R i c*(μi*μk)*B k j:=by
   have t:sumN k (fun p=>(if p=k then - (R i c*(μi*μk)) else R k c*μk*qi p - R i c*μi*qk p)*B p j)=sumN k (fun p=>(R k c*μk)*(qi p*B p j)+(- (R i c*μi))*(qk p*B p j)):=H9 fun p hp=>by
    rw [C9 (by omega),Int.sub_mul,LC,HI,HI (R i c*μi),Int.sub_eq_add_neg]
   rw [sumN,t,OM,CQ rfl,LC,LC];omega
  rw [s];unfold clr
  have e1:μi*μk*(R k c*R i j - R i c*R k j)=R k c*μk*(μi*R i j) - R i c*μi*(μk*R k j):=by
   rw [Int.mul_sub];congr 1 <;> ac_rfl
  rw [e1,a,b];generalize sumN k (fun p=>qi p*B p j)=S1;generalize sumN k (fun p=>qk p*B p j)=S2;simp only [Y1,Int.mul_sub];have c1:R k c*μk*(last*(μi*B i j))=last*(R k c*(μi*μk)*B i j):=by ac_rfl
  have c2:R k c*μk*(last*S1)=last*(R k c*μk*S1):=by ac_rfl
  have c3:R i c*μi*(last*(μk*B k j))=last*(R i c*(μi*μk)*B k j):=by ac_rfl
  have c4:R i c*μi*(last*S2)=last*(R i c*μi*S2):=by ac_rfl
  rw [c1,c2,c3,c4];omega
 refine ⟨⟨μi*μk,hν,_,key⟩,fun j hj=> ?_⟩
 have cz:∀t,t<k+1->clr R k c i (if t=k then c else L t)=0:=by
  intro t ht;unfold clr
  by_cases e:t=k
  . rw [CQ e,K7];omega
  . have lt:=I.Lc t (by omega);rw [C9 e,I.zero i (by omega) hn _ lt,I.zero k (AA _) hk _ lt];omega
 have wz:∀t,t<k+1->(fun j=>R k c*(μi*μk)*B i j+sumN (k+1) (fun p=>(if p=k then - (R i c*(μi*μk)) else R k c*μk*qi p - R i c*μi*qk p)*B p j)) ((fun t=>if t=k then c else L t) t)=0:=by
  intro t ht
  have e:=key (if t=k then c else L t) (by
   by_cases e:t=k
   . rw [CQ e];exact hc
   . rw [C9 e];have:=I.Lc t (by omega);omega)
  rw [cz t ht,N7] at e
  rcases NT.mp e.symm with e | e
  . exact absurd e I.nz
  . exact e
 have d:=Z8 (j:=j) (L:=fun t=>if t=k then c else L t) (w:=fun j=>R k c*(μi*μk)*B i j+sumN (k+1) (fun p=>(if p=k then - (R i c*(μi*μk)) else R k c*μk*qi p - R i c*μi*qk p)*B p j)) (fun _=>rfl) wz;rw [UI, <-I.minor (AA _) hk hc] at d
 have hR:R k c*(μi*μk)≠0:=bA hl hν;have e:=key j hj;generalize QA B (k+1) (fun t=>if t=k then c else L t) i j=y at d ⊢
 generalize R k c*(μi*μk)*B i j+sumN (k+1) (fun p=>(if p=k then - (R i c*(μi*μk)) else R k c*μk*qi p - R i c*μi*qk p)*B p j)=w at d e
 have hw:w=μi*μk*y:=by
  refine IB hl ?_;rw [K7, <-d]
  ac_rfl
 refine IB hν ?_;rw [e,hw]
 ac_rfl
theorem BI.step {n m : Nat} {A R : Mx} {k : Nat} {L : Nat -> Nat} {last : Int} {c : Nat} {B : Mx} (I : BI n m A R k L last c B) (hc : c < m) (hk : k < n) (hl : R k c ≠ 0) {R' : Mx}
 (ht:∀i,i<=k->∀j,j<m->R' i j=R i j) (hb:∀i,k<i->i<n->∀j,j<m->last*R' i j=clr R k c i j):BI n m A R' (k+1) (fun t=>if t=k then c else L t) (R k c) (c+1) B:=by
 refine ⟨hk,hc,fun t h=> ?_,fun s t h1 h2=> ?_,hl,?_,fun i hi j hj=> ?_,fun i hi j hj=> ?_,fun i hi=> ?_,fun i h1 h2=> ?_,fun i h1 h2 j hj=> ?_,I.ex⟩
 . show (if t=k then c else L t)<c+1
   split
   . omega
   . have:=I.Lc t (by omega);omega
 . show (if s=k then c else L s)<(if t=k then c else L t);rw [C9 (by omega)]
   split
   . exact I.Lc s (by omega)
   . exact I.Li s t h1 (by omega)
 . rw [UI];exact I.minor (AA _) hk hc
 . rw [ht i (by omega) j hj]
   by_cases e:i=k
   . subst e;rw [I.minor (AA _) hk hj];exact LN rfl (fun _ _=>rfl) fun t h=>by rw [C9 (by omega)]
   . rw [I.top i (by omega) j hj];exact LN rfl (fun _ _=>rfl) fun t h=>by rw [C9 (by omega)]
 . have hj:j<(if i=k then c else L i):=hj
   by_cases e:i=k
   . rw [CQ e] at hj
     rw [e,ht k (by omega) j (by omega)];exact I.zero k (AA _) hk j hj
   . rw [C9 e] at hj
     have:=I.Lc i (by omega);rw [ht i (by omega) j (by omega)];exact I.topz i (by omega) j hj
 . show R' i (if i=k then c else L i)≠0
   by_cases e:i=k
   . rw [CQ e];subst e;rw [ht i (by omega) c hc];exact hl
   . rw [C9 e];have:=I.Lc i (by omega);rw [ht i (by omega) _ (by omega)];exact I.topn i (by omega)
 . obtain ⟨⟨ν,hν,s,e⟩,_⟩:=I.exact hc hk hl (i:=i) (by omega) h2;refine ⟨R k c*ν,bA hl hν,s,fun j hj=> ?_⟩;have q:=e j hj;rw [<-hb i (by omega) h2 j hj] at q
   have q2:ν*R' i j=R k c*ν*B i j+sumN (k+1) (fun p=>s p*B p j):=by
    refine IB I.nz ?_;rw [<-q]
    ac_rfl
   rw [<-q2]
   ac_rfl
 . refine IB I.nz ?_;rw [hb i (by omega) h2 j (by omega),Int.mul_zero];unfold clr
   by_cases e:j=c
   . subst e;rw [K7];omega
   . rw [I.zero i (by omega) h2 j (by omega),I.zero k (AA _) hk j (by omega)];omega
theorem BI.det_full{n:Nat}{A R:Mx}{L:Nat->Nat}{last:Int}{B:Mx}(I:BI n n A R n L last n B):last=det n A:=by
 have hL:∀t,t<n->L t=t:=by
  have up:∀d t,t+d+1=n->t<=L t->L t<=t:=by
   intro d
   induction d with
   | zero=>intro t h1 _;have:=I.Lc t (by omega);omega
   | succ d ih=>
    intro t h1 h2;have:=I.Li t (t+1) (by omega) (by omega);have:=ih (t+1) (by omega) (by omega);omega
  have lo:∀t,t<n->t<=L t:=by
   intro t
   induction t with
   | zero=>intro _;omega
   | succ t ih=>intro h;have:=I.Li t (t+1) (by omega) h;have:=ih (by omega);omega
  intro t h;have:=lo t h;have:=up (n - t - 1) t (by omega) this;omega
 rw [I.ld, <-I.ex.det];exact G0 fun r hr t ht=>by rw [hL t ht]
theorem BI.det_less{n:Nat}{A R:Mx}{k:Nat}{L:Nat->Nat}{last:Int}{B:Mx}(I:BI n n A R k L last n B)(hk:k<n):det n A=0:=by
 obtain ⟨μ,hμ,q,h⟩:=I.bot k (AA _) hk
 have z:∀j,j<n->μ*B k j+sumN k (fun p=>q p*B p j)=0:=by
  intro j hj;have e:=h j hj;rw [I.zero k (AA _) hk j hj,N7] at e
  rcases NT.mp e.symm with e | e
  . exact absurd e I.nz
  . exact e
 have c:=OZ (n:=n) (M:=B) hk μ q (m:=k) (AA _);rw [MY (r:=k) hk (fun j hj=>by rw [DF];exact z j hj)] at c
 rcases NT.mp c.symm with e | e
 . exact absurd e hμ
 . rw [<-I.ex.det];exact e
end Ba
namespace Ba
theorem ZF{X:Nat}:∀ {n:Nat} {f:Nat->Int},(∀i,i<n->(f i).natAbs<=X)->(sumN n f).natAbs<=n*X
 | 0,_,_=>by simp [sumN]
 | n+1,f,h=>by
  have h1:=ZF (n:=n) fun i hi=>h i (by omega);have h2:=h n (by omega);have h3:=zS (sumN n f) (f n);rw [sumN,K2];omega
theorem T7{N Y:Nat}:∀ {n:Nat} {M:Mx},n<=N->(∀i,i<n->∀j,j<n->(M i j).natAbs<=Y)->(det n M).natAbs<=(N*Y) ^ n
 | 0,_,_,_=>by simp [det]
 | n+1,M,hn,h=>by
  rw [HJ]
  have t:∀p,p<n+1->(sgn (n - p)*M p n*det n (fun i=>M (skip p i))).natAbs<=Y*(N*Y) ^ n:=by
   intro p hp;rw [Int.natAbs_mul,Int.natAbs_mul];have s:(sgn (n - p)).natAbs=1:=by unfold sgn;split <;> rfl
   rw [s,Nat.one_mul];exact Nat.mul_le_mul (h p hp n (by omega)) (T7 (n:=n) (by omega) fun i hi j hj=>h (skip p i) (by unfold skip;split <;> omega) j (by omega))
  have:=ZF t;refine BH this ?_;rw [K9,N4 ((N*Y) ^ n)];rw [Nat.mul_assoc];exact EY hn (AA _)
theorem Ex.bound{n m Y:Nat}{A B:Mx}(h:Ex n A B)(hA:∀i,i<n->∀j,j<m->(A i j).natAbs<=Y):∀i,i<n->∀j,j<m->(B i j).natAbs<=Y:=by
 induction h with
 | refl=>exact hA
 | @step B r s h1 h2 h3 _ ih=>
  intro i hi j hj
  by_cases e1:i=s
  . subst e1;rw [SB];show (- B r j).natAbs<=Y;rw [Int.natAbs_neg];exact ih r h1 j hj
  . by_cases e2:i=r
    . subst e2;rw [exch_r e1];exact ih s h2 j hj
    . rw [MH e2 e1];exact ih i hi j hj
theorem fB{a s n:Nat}(ha:1<=a)(h:s<=n):a ^ s<=a ^ n:=DY ha h
theorem BI.bound {n m Y : Nat} {A R : Mx} {k : Nat} {L : Nat -> Nat} {last : Int} {c : Nat} {B : Mx} (I : BI n m A R k L last c B) (hn : n <= 32) (hY : 1 <= Y) (hA : ∀ i, i < n -> ∀ j, j < m -> (A i j).natAbs <= Y) :
 (∀i,i<n->∀j,j<m->(R i j).natAbs<=(32*Y) ^ n)/\last.natAbs<=(32*Y) ^ n:=by
 have hB:=I.ex.bound hA;have hL:∀t,t<k->L t<m:=fun t ht=>B2 (I.Lc t ht) I.cm
 have bo:∀s i j,s<=k->s+1<=n->i<n->j<m->(QA B s L i j).natAbs<=(32*Y) ^ n:=by
  intro s i j hs hsn hi hj;refine BH (T7 (N:=32) (Y:=Y) (by omega) fun r hr t ht=> ?_) (fB (by omega) hsn);refine hB _ ?_ _ ?_
  . unfold row;split <;> omega
  . unfold col;split
    . exact hL t (by omega)
    . exact hj
 refine ⟨fun i hi j hj=> ?_,?_⟩
 . by_cases h:i<k
   . rw [I.top i h j hj];exact bo i i j (by omega) (by omega) hi hj
   . rw [I.minor (by omega) hi hj];exact bo k i j (AA _) (by omega) hi hj
 . rw [I.ld];refine BH (T7 (N:=32) (Y:=Y) (by have:=I.kn;omega) fun r hr t ht=> ?_) (fB (by omega) I.kn);exact hB r (by have:=I.kn;omega) _ (hL t ht)
end Ba
namespace Tr
def E:List Int->Nat->Int
 | [],0=>1
 | [],_+1=>0
 | _::_,0=>1
 | s::l,k+1=>E l (k+1)+(s - 1)*E l k
def S:List Int->Nat->Int
 | [],_=>1
 | _::_,0=>1
 | s::l,u+1=>S l (u+1)+(s - 1)*S l u
def sumN(f:Nat->Int):Nat->Int
 | 0=>0
 | n+1=>sumN f n+f n
def dg:List Nat->Nat->List Nat
 | [],_=> []
 | c::r,x=>x % c::dg r (x / c)
def prodN:List Nat->Nat
 | []=>1
 | c::r=>c*prodN r
theorem prodN_app:∀a b,prodN (a++b)=prodN a*prodN b
 | [],b=>by simp [prodN]
 | c::a,b=>by simp only [IW,prodN,prodN_app a b,Nat.mul_assoc]
theorem SW:∀r x,(dg r x).length=r.length
 | [],_=>rfl
 | c::r,x=>by simp [dg,SW r]
def tri(L:List Nat)(x:Nat):List Nat:=(dg L.reverse x).reverse
theorem fC(L:List Nat)(c x:Nat):tri (L ++ [c]) x=tri L (x / c) ++ [x % c]:=by
 unfold tri;rw [List.reverse_append];simp [dg]
theorem tri_len(L:List Nat)(x:Nat):(tri L x).length=L.length:=by simp [tri,SW]
def allT(L:List Nat):List (List Nat):=(List.range (prodN L)).map (tri L)
theorem QY{α:Type}(f:Nat->Nat->α)(c:Nat)(hc:0<c):∀m,(List.range (m*c)).map (fun x=>f (x / c) (x % c))=(List.range m).flatMap fun q=>(List.range c).map (f q)
 | 0=>by simp
 | m+1=>by
  rw [K2,List.range_add,CP,QY f c hc m,bB,GY,EX];congr 1
  simp only [IA,List.flatMap_nil,DH];refine F8 fun x hx=> ?_;have hx:=BZ.mp hx;show f ((m*c+x) / c) ((m*c+x) % c)=f m x;rw [N4 m c,Nat.mul_add_div hc,Nat.mul_add_mod,Nat.mod_eq_of_lt hx,Nat.div_eq_of_lt hx,Nat.add_zero]
theorem allT_snoc(L:List Nat)(c:Nat)(hc:0<c):allT (L ++ [c])=(allT L).flatMap fun t=>(List.range c).map fun s=>t ++ [s]:=by
 unfold allT
 have e:(List.range (prodN (L ++ [c]))).map (tri (L ++ [c]))=(List.range (prodN L*c)).map (fun x=>(fun q s=>tri L q ++ [s]) (x / c) (x % c)):=by
  rw [prodN_app];simp only [prodN,Nat.mul_one];exact F8 fun x _=>fC L c x
 rw [e,QY (fun q s=>tri L q ++ [s]) c hc,List.flatMap_map]
theorem prodN_pos:∀r:List Nat,(∀c ∈ r,0<c)->0<prodN r
 | [],_=>by decide
 | c::r,h=>Nat.mul_pos (h c (by simp)) (prodN_pos r fun d hd=>h d (by simp [hd]))
end Tr
namespace Ba
def zG(s j:Nat):Int:=if j=s then 1 else 0
def cof(n:Nat)(M:Mx)(r s:Nat):Int:=det n (setR M r (zG s))
def crx(n:Nat)(M:Mx)(b:Nat->Int)(s:Nat):Int:=sumN n (fun r=>cof n M r s*b r)
def zX(B:Mx)(k:Nat)(L:Nat->Nat)(j t:Nat):Int:=crx k (fun r t=>B r (L t)) (fun r=>B r j) t
end Ba
namespace Ba
def Ker(n m:Nat)(A:Mx)(x:Nat->Int):Prop:=∀i,i<n->sumN m (fun j=>A i j*x j)=0
structure RR (m k:Nat) (L:Nat->Nat) (ρ:Mx) (e:Int):Prop where
 nz:e≠0
 Lm:∀t,t<k->L t<m
 Li:∀s t,s<t->t<k->L s<L t
 ld:∀t,t<k->∀s,s<k->ρ t (L s)=if t=s then e else 0
 az:∀t,t<k->∀j,j<L t->ρ t j=0
open Classical in
noncomputable def kv(k:Nat)(L:Nat->Nat)(ρ:Mx)(e:Int)(j:Nat)(c:Nat):Int:=
 if c=j then e else if h:∃t,t<k/\L t=c then - ρ h.choose j else 0
end Ba
namespace Ba
def gram(N:Nat)(R:Mx):Mx:=fun i j=>sumN N (fun k=>R k i*R k j)
end Ba
namespace Tr
def con(k s:Nat):Int:=if s<k then 1 else if s=k then -(k:Int) else 0
def phi:List Nat->List Nat->Nat->Nat->Int
 | t0::e,k::u,t,s=>if t=t0 then con k s else phi e u t s
 | _,_,_,_=>1
def valAt:List Nat->List Nat->List Nat->Int
 | t0::e,k::u,x=>con k (x.getD t0 0)*valAt e u x
 | _,_,_=>1
def Fits(L:List Nat):List Nat->List Nat->Prop
 | t::e,k::u=>1<=k/\k<L.getD t 0/\Fits L e u
 | [],[]=>True
 | _,_=>False
theorem qV:∀ {r:List Nat} {x i:Nat},(∀c ∈ r,0<c)->i<r.length->(dg r x).getD i 0<r.getD i 0
 | [],_,_,_,h=>by cases h
 | c::r,x,0,hp,_=>by
  show x % c<c
  exact Nat.mod_lt _ (hp c (by simp))
 | c::r,x,i+1,hp,h=>by
  show (dg r (x / c)).getD i 0<r.getD i 0;exact qV (fun d hd=>hp d (by simp [hd])) (by simpa using h)
theorem UM{l:List Nat}{i:Nat}(h:i<l.length):l.reverse.getD i 0=l.getD (l.length - 1 - i) 0:=by
 simp only [List.getD];rw [O9 h]
theorem tri_lt{L:List Nat}{x i:Nat}(hp:∀c ∈ L,0<c)(h:i<L.length):(tri L x).getD i 0<L.getD i 0:=by
 unfold tri;rw [UM (by rw [SW];simpa using h),SW,List.length_reverse];have:=qV (r:=L.reverse) (x:=x) (i:=L.length - 1 - i) (fun c hc=>hp c (List.mem_reverse.mp hc)) (by simp;omega);rw [UM (by omega)] at this
 have e:L.length - 1 - (L.length - 1 - i)=i:=by omega
 rw [e] at this
 exact this
theorem fits_of{L:List Nat}:∀ {e u:List Nat},e.length=u.length->(∀i,i<e.length->1<=u.getD i 0/\u.getD i 0<L.getD (e.getD i 0) 0)->Fits L e u
 | [],[],_,_=>trivial
 | [],_::_,h,_=>by cases h
 | _::_,[],h,_=>by cases h
 | t::e,k::u,h,g=>⟨(g 0 (by simp)).1,(g 0 (by simp)).2,fits_of (by simpa using h) fun i hi=>g (i+1) (by simpa using hi)⟩
theorem con_abs{k s:Nat}(h:k<=7) : -7<=con k s/\con k s<=7:=by
 unfold con
 split
 . omega
 . split <;> omega
theorem val_abs{x:List Nat}:∀ {e u:List Nat},(∀k ∈ u,k<=7)->(valAt e u x).natAbs<=7 ^ e.length
 | [],_,_=>by simp [valAt]
 | _::e,[],_=>by
  show (1:Int).natAbs<=_
  exact J9 (by decide)
 | t::e,k::u,h=>by
  have ih:=val_abs (x:=x) (e:=e) (u:=u) fun k hk=>h k (by simp [hk]);have hc:=con_abs (s:=x.getD t 0) (h k (by simp));rw [valAt,FF,BS,K9,N4];exact EY ih (by omega)
end Tr
namespace Ev
abbrev Wd:=List Nat
def ch(c x:Wd):Wd:=c.map fun d=>x.getD d 0
def count(T:List Wd)(c k:Wd):Nat:=(T.filter fun x=>decide (ch c x=k)).length
def lv(L c:Wd):Wd:=c.map fun d=>L.getD d 0
def fst(c:Wd):Nat:=match c.getLast? with
 | none=>0
 | some l=>l+1
def nx(n:Nat)(c:Wd):List Wd:=(List.range (n - fst c)).map fun i=>c ++ [fst c+i]
def CB(n:Nat):Nat->List Wd
 | 0=> [[]]
 | j+1=>(CB n j).flatMap (nx n)
def Inc(n:Nat)(c:Wd):Prop:=c.Pairwise (· < ·)/\∀d ∈ c,d<n
theorem fst_snoc(b:Wd)(l:Nat):fst (b ++ [l])=l+1:=by unfold fst;simp
theorem lt_fst{b:Wd}(h:b.Pairwise (· < ·)):∀d ∈ b,d<fst b:=fun d hd=>by
 rcases IL b with e | ⟨V,u,e⟩
 . subst e;cases hd
 . rw [IM] at e
   subst e;rw [fst_snoc];obtain ⟨_,_,h3⟩:=OV.mp h;rcases CN.mp hd with hd | hd
   . have:=h3 d hd u (AD.mpr rfl);omega
   . rw [AD.mp hd];omega
theorem fst_le{b:Wd}{l:Nat}(h:∀d ∈ b,d<l):fst b<=l:=by
 rcases IL b with e | ⟨V,u,e⟩
 . subst e;exact DL _
 . rw [IM] at e
   subst e;rw [fst_snoc];exact h u (AM _ (AD.mpr rfl))
theorem nx_len(n:Nat)(c:Wd):(nx n c).length<=n:=by unfold nx;rw [List.length_map,List.length_range];omega
theorem flat_le{α β:Type}{f:α->List β}{n:Nat}(h:∀a,(f a).length<=n):∀l:List α,(l.flatMap f).length<=l.length*n
 | []=>by simp
 | a::l=>by
  have:=flat_le h l;have:=h a;rw [IA,B3,BS,K2];omega
end Ev
namespace K87
noncomputable section
open PySem L2 Tf Dm
def top (i : Nat) : Stmt := PySem.Challenge.pw_trialfield_k87_whole_best.main.body.getD i (.Pass ⟨0, 0, 0, 0⟩)
structure Bl (mg:Str->Option Value):Prop where
 abs:mg "abs" = none
 bool:mg "bool" = none
 int:mg "int" = none
 isinstance:mg "isinstance" = none
 len:mg "len" = none
 list:mg "list" = none
 max:mg "max" = none
 range:mg "range" = none
 reversed:mg "reversed" = none
 sum:mg "sum" = none
 tuple:mg "tuple" = none
 zip:mg "zip" = none
abbrev ZG:Stmt:=top 2
theorem jC:FnScope ["numbers","product","number"] ["numbers"] (AN ZG):=⟨rfl,rfl,rfl,by decide +kernel,rfl,by decide +kernel,by decide +kernel⟩
abbrev YN:Stmt:=top 3
theorem iM:FnScope ["levels","place","steps","count"] ["levels","place"] (AN YN):=⟨rfl,rfl,rfl,by decide +kernel,rfl,by decide +kernel,by decide +kernel⟩
abbrev ZE:Stmt:=top 4
theorem kO:FnScope ["levels"] ["levels"] (AN ZE):=⟨rfl,rfl,rfl,by decide +kernel,rfl,by decide +kernel,by decide +kernel⟩
abbrev aS:Stmt:=top 5
theorem j0:FnScope ["lists","things","longer","columns","first"] ["lists","things"] (AN aS):=⟨rfl,rfl,rfl,by decide +kernel,rfl,by decide +kernel,by decide +kernel⟩
abbrev Z2:Stmt:=top 7
theorem dX:FnScope ["number","step"] ["number","step"] (AN Z2):=⟨rfl,rfl,rfl,by decide +kernel,rfl,by decide +kernel,by decide +kernel⟩
abbrev ZV:Stmt:=top 8
theorem iN:FnScope ["levels","effect","counted"] ["levels","effect"] (AN ZV):=⟨rfl,rfl,rfl,by decide +kernel,rfl,by decide +kernel,by decide +kernel⟩
abbrev ZH:Stmt:=top 9
theorem jM:FnScope ["levels","model","columns","effect"] ["levels","model"] (AN ZH):=⟨rfl,rfl,rfl,by decide +kernel,rfl,by decide +kernel,by decide +kernel⟩
abbrev Y5:Stmt:=top 10
theorem e6:FnScope ["column","trial","value","thing","number"] ["column","trial"] (AN Y5):=⟨rfl,rfl,rfl,by decide +kernel,rfl,by decide +kernel,by decide +kernel⟩
abbrev YT:Stmt:=top 11
theorem gZ:FnScope ["levels","plan","model","columns"] ["levels","plan","model"] (AN YT):=⟨rfl,rfl,rfl,by decide +kernel,rfl,by decide +kernel,by decide +kernel⟩
abbrev aV:Stmt:=top 13
theorem fG:FnScope ["one","other","rest"] ["one","other"] (AN aV):=⟨rfl,rfl,rfl,by decide +kernel,rfl,by decide +kernel,by decide +kernel⟩
abbrev ZT:Stmt:=top 14
theorem iL:FnScope ["top","bottom","divisor"] ["top","bottom"] (AN ZT):=⟨rfl,rfl,rfl,by decide +kernel,rfl,by decide +kernel,by decide +kernel⟩
abbrev ZL:Stmt:=top 18
theorem i0:FnScope ["row","lead_row","column","last","lead","factor"] ["row","lead_row","column","last"] (AN ZL):=⟨rfl,rfl,rfl,by decide +kernel,rfl,by decide +kernel,by decide +kernel⟩
abbrev ZC:Stmt:=top 19
theorem iS:FnScope ["row","bottom","number"] ["row"] (AN ZC):=⟨rfl,rfl,rfl,by decide +kernel,rfl,by decide +kernel,by decide +kernel⟩
abbrev aD:Stmt:=top 20
theorem gE:FnScope ["row","bottom"] ["row"] (AN aD):=⟨rfl,rfl,rfl,by decide +kernel,rfl,by decide +kernel,by decide +kernel⟩
abbrev ZN:Stmt:=top 21
theorem kG:FnScope ["table"] ["table"] (AN ZN):=⟨rfl,rfl,rfl,by decide +kernel,rfl,by decide +kernel,by decide +kernel⟩
abbrev aO:Stmt:=top 22
theorem iF:FnScope ["table"] ["table"] (AN aO):=⟨rfl,rfl,rfl,by decide +kernel,rfl,by decide +kernel,by decide +kernel⟩
abbrev aM:Stmt:=top 23
theorem dL:FnScope ["table","stairs","bottom","row"] ["table"] (AN aM):=⟨rfl,rfl,rfl,by decide +kernel,rfl,by decide +kernel,by decide +kernel⟩
abbrev ZQ:Stmt:=top 25
theorem iT:FnScope ["one","other"] ["one","other"] (AN ZQ):=⟨rfl,rfl,rfl,by decide +kernel,rfl,by decide +kernel,by decide +kernel⟩
abbrev YI:Stmt:=top 26
theorem iD:FnScope ["numbers"] ["numbers"] (AN YI):=⟨rfl,rfl,rfl,by decide +kernel,rfl,by decide +kernel,by decide +kernel⟩
abbrev YK:Stmt:=top 27
theorem gO:FnScope ["rows","columns"] ["rows"] (AN YK):=⟨rfl,rfl,rfl,by decide +kernel,rfl,by decide +kernel,by decide +kernel⟩
abbrev YB:Stmt:=top 29
theorem fA:FnScope ["rows"] ["rows"] (AN YB):=⟨rfl,rfl,rfl,by decide +kernel,rfl,by decide +kernel,by decide +kernel⟩
abbrev aE:Stmt:=top 30
theorem kJ:FnScope ["levels","plan","model"] ["levels","plan","model"] (AN aE):=⟨rfl,rfl,rfl,by decide +kernel,rfl,by decide +kernel,by decide +kernel⟩
abbrev aU:Stmt:=top 31
theorem gU:FnScope ["count","many","choices","chosen"] ["count","many"] (AN aU):=⟨rfl,rfl,rfl,by decide +kernel,rfl,by decide +kernel,by decide +kernel⟩
abbrev QS:Stmt:=top 32
theorem fE:FnScope ["levels","trials","model","many","rows","choices","chosen","plan"] ["levels","trials","model","many"] (AN QS):=⟨rfl,rfl,rfl,by decide +kernel,rfl,by decide +kernel,by decide +kernel⟩
abbrev ZS:Stmt:=top 34
theorem jI:FnScope ["_law_found"] ["_law_found"] (AN ZS):=⟨rfl,rfl,rfl,by decide +kernel,rfl,by decide +kernel,by decide +kernel⟩
abbrev YX:Stmt:=top 35
theorem j7:FnScope ["_law_cell","_law_k","_law_one"] ["_law_cell","_law_k"] (AN YX):=⟨rfl,rfl,rfl,by decide +kernel,rfl,by decide +kernel,by decide +kernel⟩
abbrev ZI:Stmt:=top 36
theorem kL:FnScope ["_law_cell","_law_most","_law_many","_law_told","_law_left","_law_k","_law_number","_law_size","_law_other"] ["_law_cell","_law_most"] (AN ZI):=⟨rfl,rfl,rfl,by decide +kernel,rfl,by decide +kernel,by decide +kernel⟩
abbrev YO:Stmt:=top 37
theorem e7:FnScope ["_law_cell","_law_levels_here","_law_most","_law_told","_law_size","_law_left","_law_k","_law_number","_law_effect","_law_many","_law_thing"] ["_law_cell","_law_levels_here","_law_most"] (AN YO):=⟨rfl,rfl,rfl,by decide +kernel,rfl,by decide +kernel,by decide +kernel⟩
abbrev aW:Stmt:=top 38
theorem kP:FnScope ["_law_k","_law_step"] ["_law_k","_law_step"] (AN aW):=⟨rfl,rfl,rfl,by decide +kernel,rfl,by decide +kernel,by decide +kernel⟩
abbrev Z1:Stmt:=top 39
theorem g0:FnScope ["_law_levels_here","_law_model","_law_told","_law_effect","_law_some","_law_thing","_law_more","_law_one"] ["_law_levels_here","_law_model"] (AN Z1):=⟨rfl,rfl,rfl,by decide +kernel,rfl,by decide +kernel,by decide +kernel⟩
abbrev ZU:Stmt:=top 40
theorem dW:FnScope ["_law_levels_here","_law_plan_here","_law_model","_law_told","_law_trial","_law_row","_law_effect","_law_numbers","_law_amount","_law_thing","_law_k"] ["_law_levels_here","_law_plan_here","_law_model"] (AN ZU):=⟨rfl,rfl,rfl,by decide +kernel,rfl,by decide +kernel,by decide +kernel⟩
abbrev ZW:Stmt:=top 41
theorem fL:FnScope ["_law_cells","_law_levels_here","_law_told","_law_cell","_law_trial","_law_left","_law_k"] ["_law_cells","_law_levels_here"] (AN ZW):=⟨rfl,rfl,rfl,by decide +kernel,rfl,by decide +kernel,by decide +kernel⟩
abbrev Z5:Stmt:=top 42
theorem j4:FnScope ["_law_rows","_law_told","_law_j","_law_part"] ["_law_rows"] (AN Z5):=⟨rfl,rfl,rfl,by decide +kernel,rfl,by decide +kernel,by decide +kernel⟩
abbrev Z0:Stmt:=top 43
theorem fZ:FnScope ["_law_levels_here","_law_plan_here","_law_model","_law_table_here","_law_told","_law_i"] ["_law_levels_here","_law_plan_here","_law_model"] (AN Z0):=⟨rfl,rfl,rfl,by decide +kernel,rfl,by decide +kernel,by decide +kernel⟩
abbrev Y8:Stmt:=top 44
theorem jN:FnScope ["_law_some","_law_t","_law_told","_law_k"] ["_law_some","_law_t"] (AN Y8):=⟨rfl,rfl,rfl,by decide +kernel,rfl,by decide +kernel,by decide +kernel⟩
abbrev aC:Stmt:=top 45
theorem jQ:FnScope ["_law_levels_here","_law_trials","_law_model","_law_many","_law_handed","_law_found","_law_some","_law_most"] ["_law_levels_here","_law_trials","_law_model","_law_many"] (AN aC):=⟨rfl,rfl,rfl,by decide +kernel,rfl,by decide +kernel,by decide +kernel⟩
abbrev PB:Stmt:=top 46
theorem kN:FnScope ["_law_script","_law_cells","_law_at","_law_head","_law_levels_here","_law_model","_law_size","_law_trials","_law_trial"] ["_law_script"] (AN PB):=⟨rfl,rfl,rfl,by decide +kernel,rfl,by decide +kernel,by decide +kernel⟩
abbrev uH:Stmt:=top 42
abbrev lY:Stmt:=top 42
theorem qW:FnScope ["_law_rows","_law_told","_law_j","_law_part"] ["_law_rows"] (AN lY):=⟨rfl,rfl,rfl,by decide +kernel,rfl,by decide +kernel,by decide +kernel⟩
abbrev lM:Stmt:=top 42
theorem qN:FnScope ["_law_rows","_law_told","_law_j","_law_part"] ["_law_rows"] (AN lM):=⟨rfl,rfl,rfl,by decide +kernel,rfl,by decide +kernel,by decide +kernel⟩
abbrev pE:Stmt:=top 42
theorem qL:FnScope ["_law_rows","_law_told","_law_j","_law_part"] ["_law_rows"] (AN pE):=⟨rfl,rfl,rfl,by decide +kernel,rfl,by decide +kernel,by decide +kernel⟩
abbrev lW:Stmt:=top 42
theorem qT:FnScope ["_law_rows","_law_told","_law_j","_law_part"] ["_law_rows"] (AN lW):=⟨rfl,rfl,rfl,by decide +kernel,rfl,by decide +kernel,by decide +kernel⟩
abbrev uA:Stmt:=top 44
abbrev p7:Stmt:=top 44
theorem qI:FnScope ["_law_some","_law_t","_law_told","_law_k"] ["_law_some","_law_t"] (AN p7):=⟨rfl,rfl,rfl,by decide +kernel,rfl,by decide +kernel,by decide +kernel⟩
abbrev nJ:Stmt:=top 44
theorem qF:FnScope ["_law_some","_law_t","_law_told","_law_k"] ["_law_some","_law_t"] (AN nJ):=⟨rfl,rfl,rfl,by decide +kernel,rfl,by decide +kernel,by decide +kernel⟩
abbrev oN:Stmt:=top 44
theorem q5:FnScope ["_law_some","_law_t","_law_told","_law_k"] ["_law_some","_law_t"] (AN oN):=⟨rfl,rfl,rfl,by decide +kernel,rfl,by decide +kernel,by decide +kernel⟩
abbrev oE:Stmt:=top 44
theorem qG:FnScope ["_law_some","_law_t","_law_told","_law_k"] ["_law_some","_law_t"] (AN oE):=⟨rfl,rfl,rfl,by decide +kernel,rfl,by decide +kernel,by decide +kernel⟩
abbrev aQ:Stmt:=top 44
theorem iP:FnScope ["_law_some","_law_t","_law_told","_law_k"] ["_law_some","_law_t"] (AN aQ):=⟨rfl,rfl,rfl,by decide +kernel,rfl,by decide +kernel,by decide +kernel⟩
abbrev aJ:Stmt:=top 44
theorem jF:FnScope ["_law_some","_law_t","_law_told","_law_k"] ["_law_some","_law_t"] (AN aJ):=⟨rfl,rfl,rfl,by decide +kernel,rfl,by decide +kernel,by decide +kernel⟩
abbrev Y4:Stmt:=OO (top 17) 0
theorem jX:FnScope ["self","rows","column"] ["self","rows"] (AN Y4):=⟨rfl,rfl,rfl,by decide +kernel,rfl,by decide +kernel,by decide +kernel⟩
abbrev ZY:Stmt:=OO (top 17) 1
theorem eG:FnScope ["self","column","top","place","lead_row","beneath"] ["self","column"] (AN ZY):=⟨rfl,rfl,rfl,by decide +kernel,rfl,by decide +kernel,by decide +kernel⟩
abbrev aG:Stmt:=OO (top 17) 2
theorem iE:FnScope ["self","top","column","place"] ["self","top","column"] (AN aG):=⟨rfl,rfl,rfl,by decide +kernel,rfl,by decide +kernel,by decide +kernel⟩
abbrev ZD:Stmt:=OO (top 17) 3
theorem dM:FnScope ["self","top","place","lowered"] ["self","top","place"] (AN ZD):=⟨rfl,rfl,rfl,by decide +kernel,rfl,by decide +kernel,by decide +kernel⟩
def c_NOUGHT:PyData:= .tuple [.int 0, .int 1]
section
variable {P:Program} {w:World} {K:PySem.W.Frag} {mg:Str->Option Value} {base:Heap} {f:Addr} {fd:FuncData} {C_S:Addr}
def b_q44 : En -> Option Out :=
 (mSeq (mAsg 1 (mK (.int 1)))
 (mSeq (F6 (C6 (mVar 0)) (gVar 2) (mAsg 1 (mBin dRep (mPk 1) (mPk 2))))
 (mRet (mPk 1))))
def U5:List PyData->Option Sl:=EJ 3 b_q44 1
theorem sR (B:Bl mg) (F:Fun K "product_of" "product_of" ZG f fd):FnOk P w K mg base CX0 1 f fd ["numbers"] (spD K U5):=by
 have sc:=jC
 exact fnD F jC rfl rfl fun cdv A outer s H E hr=>
  (A4 (AO 1 A7 sc.nd)
  (A4 (DJ AI (EF (AH 0)) (CA 2 sc.nd) (AC (AO 1 (DC (A1 1) (A1 2)) sc.nd)))
  (AC (E7 1))))
def b_q48 : En -> Option Out :=
 (mSeq (mAsg 2 (mLst mNil))
 (mSeq (F6 (fO (mCons (mVar 0) mNil)) (gVar 3) (mSeq (mApp 2 (mBin FB (mPk 1) (mPk 3)))
 (mAsg 1 (mBin EC (mPk 1) (mPk 3)))))
 (mRet (mCallP OH (mConsP (mPk 2) mNilP)))))
def UB:List PyData->Option Sl:=EJ 4 b_q48 2
theorem vQ (B:Bl mg) (F:Fun K "trial_at" "trial_at" YN f fd):FnOk P w K mg base CX0 1 f fd ["levels","place"] (spD K UB):=by
 have sc:=iM
 exact fnD F iM rfl rfl fun cdv A outer s H E hr=>
  (A4 (AO 2 (C8 AF) sc.nd)
  (A4 (DJ AI (rP B.reversed (A6 (AH 0) AF)) (CA 3 sc.nd) (A4 (JQ 2 (EW (A1 1) (A1 3)))
  (AC (AO 1 (F0 (A1 1) (A1 3)) sc.nd))))
  (AC (CM (d9 B.reversed B.tuple (AS (A1 2) B5))))))
def b_q28 : En -> Option Out :=
 (mRet (mLC (CC [some 0,none]) (EZ (mConsP (mCall U5 (mCons (mVar 0) mNil)) mNilP)) (gVar 1) mYes (mCall UB (mCons (mVar 0) (mCons (mVar 1) mNil)))))
def UL:List PyData->Option Sl:=EJ 1 b_q28 1
theorem wQ (B:Bl mg) (D_q44:Def P w K mg base 1 "product_of" ["numbers"] (spD K U5)) (D_q48:Def P w K mg base 1 "trial_at" ["levels","place"] (spD K UB)) (F:Fun K "all_trials" "all_trials" ZE f fd):FnOk P w K mg base CX0 2 f fd ["levels"] (spD K UL):=by
 have sc:=kO
 exact fnD F kO rfl rfl fun cdv A outer s H E hr=>
  (AC (CM (EL (N':= ["levels","place"]) (R':=PR K) BP BQ [some 0,none] (CC [some 0,none]) D8 (CT B.range (AS (DE.dp (BF D_q44 hr (A6 (AH 0) AF))) B5)) (fun _=>(BO 1 (show List.Nodup (α:=Str) ["levels","place"] by decide +kernel))) (fun _=>CG) (fun _=>(BF D_q48 hr (A6 (AH 0) (A6 (AH 1) AF)))))))
def b_q42 : En -> Option Out :=
 (mSeq (mAsg 2 (mLst mNil))
 (mSeq (F6 (C6 (mVar 0)) (gVar 3) (mSeq (mAsg 4 (mIfE (O6 (mPk 3)) (mBin dAdd (mBin dix (mPk 3) (mUn (iun fun i=> -i) (mK (.int 1)))) (mK (.int 1))) (mK (.int 0))))
 (WM 2 (mLC (CC [some 3,none]) (JW (mConsP (mPk 4) (mConsP (mPk 1) mNilP))) (gVar 1) mYes (mBin dAdd (mPk 0) (mLst (mCons (mVar 1) mNil)))))))
 (mRet (mPk 2))))
def UR:List PyData->Option Sl:=EJ 5 b_q42 2
theorem wL (B:Bl mg) (F:Fun K "longer_lists" "longer_lists" aS f fd):FnOk P w K mg base CX0 1 f fd ["lists","things"] (spD K UR):=by
 have sc:=j0
 exact fnD F j0 rfl rfl fun cdv A outer s H E hr=>
  (A4 (AO 2 (C8 AF) sc.nd)
  (A4 (DJ AI (EF (AH 0)) (CA 3 sc.nd) (A4 (AO 4 (uV (oB (A1 3)) (BE (DE.dp (BX (A1 3) (DE.dp (SK (DE.dp A7))))) (DE.dp A7)) A7) sc.nd)
  (AC (fK 2 (EL (N':= ["columns","thing"]) (R':=PR K) BP BQ [some 3,none] (CC [some 3,none]) D8 (KW B.range (AS (A1 4) (AS (A1 1) B5))) (fun _=>(BO 1 (show List.Nodup (α:=Str) ["columns","thing"] by decide +kernel))) (fun _=>CG) (fun _=>(BE (A1 0) (DE.dp (C8 (A6 (AH 1) AF))))))))))
  (AC (E7 2))))
def b_q36 : En -> Option Out :=
 (mSeq (mIf (mTest (mBin dLt (mPk 1) (mPk 0))) (mRet (mK (.int 1))) mNext)
 (mSeq (mIf (mTest (mBin deq (mPk 1) (mPk 0))) (mRet (mUn (iun fun i=> -i) (mPk 0))) mNext)
 (mRet (mK (.int 0)))))
def U4:List PyData->Option Sl:=EJ 2 b_q36 2
theorem wB (B:Bl mg) (F:Fun K "contrast" "contrast" Z2 f fd):FnOk P w K mg base CX0 1 f fd ["number","step"] (spD K U4):=by
 have sc:=dX
 exact fnD F dX rfl rfl fun cdv A outer s H E hr=>
  (A4 (EO (W2 (A1 1) (A1 0)) (AC (CM A7)) CK)
  (A4 (EO (G7 hr.units (A1 1) (A1 0)) (AC (CM (SK (A1 0)))) CK)
  (AC (CM A7))))
def b_q38 : En -> Option Out :=
 (mSeq (mAsg 2 (mCall UL (mCons (mLC (CC [some 0,none]) (C6 (mVar 1)) (gVar 1) mYes (mBin dSub (mBin dix (mPk 0) (mPk 1)) (mK (.int 1)))) mNil)))
 (mFrz 2 (mRet (mLC (CC [some 1,none]) (C6 (mVar 2)) (gVar 1) mYes (mTup (mCons (mVar 0) (mCons (mCallP dTuple (mConsP (mLC (CC [none]) (C6 (mVar 1)) (gVar 0) mYes (mBin dAdd (mPk 0) (mK (.int 1)))) mNilP)) mNil)))))))
def V0:List PyData->Option Sl:=EJ 3 b_q38 2
theorem vK (B:Bl mg) (D_q28:Def P w K mg base 2 "all_trials" ["levels"] (spD K UL)) (F:Fun K "effect_columns" "effect_columns" ZV f fd):FnOk P w K mg base CX0 3 f fd ["levels","effect"] (spD K V0):=by
 have sc:=iN
 exact fnD F iN rfl rfl fun cdv A outer s H E hr=>
  (A4 (AO 2 (BF D_q28 hr (A6 (EL (N':= ["levels","thing"]) (R':=PR K) BP BQ [some 0,none] (CC [some 0,none]) D8 (EF (AH 1)) (fun _=>(BO 1 (show List.Nodup (α:=Str) ["levels","thing"] by decide +kernel))) (fun _=>CG) (fun _=>(FZ (DE.dp (BX (A1 0) (A1 1))) (DE.dp A7)))) AF)) sc.nd)
  (AC (EB 2 (CM (EL (N':= ["effect","places"]) (R':=PR K) BP BQ [some 1,none] (CC [some 1,none]) D8 (EF (AH 2)) (fun _=>(BO 1 (show List.Nodup (α:=Str) ["effect","places"] by decide +kernel))) (fun _=>CG) (fun _=>(LW (A6 (AH 0) (A6 (MI HF MA JK B.tuple (AS (DE.dp (EL (N':= ["place"]) (R':=PR K) JB JJ [none] (CC [none]) D8 (EF (AH 1)) (fun _=>(BO 0 (show List.Nodup (α:=Str) ["place"] by decide +kernel))) (fun _=>CG) (fun _=>(BE (A1 0) (DE.dp A7))))) B5)) AF)))))))))
def b_q34 : En -> Option Out :=
 (mSeq (mAsg 2 (mLst mNil))
 (mSeq (F6 (C6 (mVar 1)) (gVar 3) (WM 2 (mCall V0 (mCons (mVar 0) (mCons (mVar 3) mNil)))))
 (mRet (mPk 2))))
def W4:List PyData->Option Sl:=EJ 4 b_q34 2
theorem vC (B:Bl mg) (D_q38:Def P w K mg base 3 "effect_columns" ["levels","effect"] (spD K V0)) (F:Fun K "columns_of" "columns_of" ZH f fd):FnOk P w K mg base CX0 4 f fd ["levels","model"] (spD K W4):=by
 have sc:=jM
 exact fnD F jM rfl rfl fun cdv A outer s H E hr=>
  (A4 (AO 2 (C8 AF) sc.nd)
  (A4 (DJ AI (EF (AH 1)) (CA 3 sc.nd) (AC (fK 2 (BF D_q38 hr (A6 (AH 0) (A6 (AH 3) AF))))))
  (AC (E7 2))))
def b_q49 : En -> Option Out :=
 (mSeq (mAsg 2 (mK (.int 1)))
 (mSeq (F6 (Y7 (mCons (mBin dix (mPk 0) (mK (.int 0))) (mCons (mBin dix (mPk 0) (mK (.int 1))) mNil))) (gTupD [(gVar 3),(gVar 4)]) (mAsg 2 (mBin dRep (mPk 2) (mCall U4 (mCons (mVar 4) (mCons (mBin dix (mPk 1) (mPk 3)) mNil))))))
 (mRet (mPk 2))))
def R5:List PyData->Option Sl:=EJ 5 b_q49 2
theorem sQ (B:Bl mg) (D_q36:Def P w K mg base 1 "contrast" ["number","step"] (spD K U4)) (F:Fun K "value_at" "value_at" Y5 f fd):FnOk P w K mg base CX0 2 f fd ["column","trial"] (spD K R5):=by
 have sc:=e6
 exact fnD F e6 rfl rfl fun cdv A outer s H E hr=>
  (A4 (AO 2 A7 sc.nd)
  (A4 (DJ AI (ZO B.zip (A6 (BX (A1 0) (DE.dp A7)) (A6 (BX (A1 0) (DE.dp A7)) AF))) (WW (JL (CA 3 sc.nd) (JL (CA 4 sc.nd) S9))) (AC (AO 2 (DC (A1 2) (DE.dp (BF D_q36 hr (A6 (AH 4) (A6 (BX (A1 1) (A1 3)) AF))))) sc.nd)))
  (AC (E7 2))))
def b_q47 : En -> Option Out :=
 (mSeq (mAsg 3 (mCall W4 (mCons (mVar 0) (mCons (mVar 2) mNil))))
 (mFrz 3 (mRet (mLC (CC [some 3,none]) (C6 (mVar 1)) (gVar 1) mYes (mLC (CC [some 1,none]) (C6 (mVar 0)) (gVar 1) mYes (mCall R5 (mCons (mVar 1) (mCons (mVar 0) mNil))))))))
def PJ:List PyData->Option Sl:=EJ 4 b_q47 3
theorem vN (B:Bl mg) (D_q34:Def P w K mg base 4 "columns_of" ["levels","model"] (spD K W4)) (D_q49:Def P w K mg base 2 "value_at" ["column","trial"] (spD K R5)) (F:Fun K "table_of" "table_of" YT f fd):FnOk P w K mg base CX0 5 f fd ["levels","plan","model"] (spD K PJ):=by
 have sc:=gZ
 exact fnD F gZ rfl rfl fun cdv A outer s H E hr=>
  (A4 (AO 3 (BF D_q34 hr (A6 (AH 0) (A6 (AH 2) AF))) sc.nd)
  (AC (EB 3 (CM (EL (N':= ["columns","trial"]) (R':=PR K) BP BQ [some 3,none] (CC [some 3,none]) D8 (EF (AH 1)) (fun _=>(BO 1 (show List.Nodup (α:=Str) ["columns","trial"] by decide +kernel))) (fun _=>CG) (fun _=>(EL (N':= ["trial","column"]) (R':=PR K) JB JJ [some 1,none] (CC [some 1,none]) D8 (EF (AH 0)) (fun _=>(BO 1 (show List.Nodup (α:=Str) ["trial","column"] by decide +kernel))) (fun _=>CG) (fun _=>(BF D_q49 hr (A6 (AH 1) (A6 (AH 0) AF)))))))))))
def b_q40 : En -> Option Out :=
 (mSeq (IX (mTest (mBin dne (mPk 1) (mK (.int 0)))) (mSeq (mAsg 2 (mBin FB (mPk 0) (mPk 1)))
 (mSeq (mAsg 0 (mVar 1))
 (mFrz 2 (mAsg 1 (mVar 2))))))
 (mRet (mCallP dAbs (mConsP (mPk 0) mNilP))))
def NZ:List PyData->Option Sl:=EJ 3 b_q40 2
theorem vL (B:Bl mg) (F:Fun K "greatest_divisor" "greatest_divisor" aV f fd):FnOk P w K mg base CX0 1 f fd ["one","other"] (spD K NZ):=by
 have sc:=fG
 exact fnD F fG rfl rfl fun cdv A outer s H E hr=>
  (A4 (UQ AI (LI hr.units (A1 1) (DE.dp A7)) (A4 (AO 2 (EW (A1 0) (A1 1)) sc.nd)
  (A4 (AO 0 (AH 1) sc.nd)
  (AC (EB 2 (AO 1 (AH 2) sc.nd))))))
  (AC (CM (D7 kD wA wO B.abs (AS (A1 0) B5)))))
def b_q39 : En -> Option Out :=
 (mSeq (mAsg 2 (mCall NZ (mCons (mVar 0) (mCons (mVar 1) mNil))))
 (mSeq (mIf (mTest (mBin dLt (mPk 1) (mK (.int 0)))) (mAsg 2 (mUn (iun fun i=> -i) (mPk 2))) mNext)
 (mRet (mTup (mCons (mBin EC (mPk 0) (mPk 2)) (mCons (mBin EC (mPk 1) (mPk 2)) mNil))))))
def UU:List PyData->Option Sl:=EJ 3 b_q39 2
theorem vW (B:Bl mg) (D_q40:Def P w K mg base 1 "greatest_divisor" ["one","other"] (spD K NZ)) (F:Fun K "fraction" "fraction" ZT f fd):FnOk P w K mg base CX0 2 f fd ["top","bottom"] (spD K UU):=by
 have sc:=iL
 exact fnD F iL rfl rfl fun cdv A outer s H E hr=>
  (A4 (AO 2 (BF D_q40 hr (A6 (AH 0) (A6 (AH 1) AF))) sc.nd)
  (A4 (EO (W2 (A1 1) (DE.dp A7)) (AC (AO 2 (SK (A1 2)) sc.nd)) CK)
  (AC (CM (LW (A6 (F0 (A1 0) (A1 2)) (A6 (F0 (A1 1) (A1 2)) AF)))))))
def b_q32 : En -> Option Out :=
 (mSeq (mAsg 4 (mBin dix (mPk 1) (mPk 2)))
 (mSeq (mAsg 5 (mBin dix (mPk 0) (mPk 2)))
 (mRet (mLC (CC [some 4,some 5,some 3,none,none]) (gN (mCons (mVar 0) (mCons (mVar 1) mNil))) (gTupD [(gVar 3),(gVar 4)]) mYes (mBin EC (mBin dSub (mBin dRep (mPk 0) (mPk 3)) (mBin dRep (mPk 1) (mPk 4))) (mPk 2))))))
def UD:List PyData->Option Sl:=EJ 6 b_q32 4
theorem uN (B:Bl mg) (F:Fun K "cleared_row" "cleared_row" ZL f fd):FnOk P w K mg base CX0 1 f fd ["row","lead_row","column","last"] (spD K UD):=by
 have sc:=i0
 exact fnD F i0 rfl rfl fun cdv A outer s H E hr=>
  (A4 (AO 4 (BX (A1 1) (A1 2)) sc.nd)
  (A4 (AO 5 (BX (A1 0) (A1 2)) sc.nd)
  (AC (CM (EL (N':= ["lead","factor","last","number","above"]) (R':=PR K) BP BQ [some 4,some 5,some 3,none,none] (CC [some 4,some 5,some 3,none,none]) D8 (j8 B.zip (A6 (AH 0) (A6 (AH 1) AF))) (fun _=>(YG (KY (BO 3 (show List.Nodup (α:=Str) ["lead","factor","last","number","above"] by decide +kernel)) (KY (BO 4 (show List.Nodup (α:=Str) ["lead","factor","last","number","above"] by decide +kernel)) UJ)))) (fun _=>CG) (fun _=>(F0 (DE.dp (FZ (DE.dp (DC (A1 0) (A1 3))) (DE.dp (DC (A1 1) (A1 4))))) (A1 2))))))))
def b_q35 : En -> Option Out :=
 (mSeq (mAsg 1 (mK (.int 1)))
 (mSeq (F6 (mItems (mVar 0)) (gVar 2) (mFrz 1 (mAsg 1 (mBin dRep (mBin EC (mPk 1) (mCall NZ (mCons (mVar 1) (mCons (mBin dix (mPk 2) (mK (.int 1))) mNil)))) (mBin dix (mPk 2) (mK (.int 1)))))))
 (mRet (mPk 1))))
def O7:List PyData->Option Sl:=EJ 3 b_q35 1
theorem vA (B:Bl mg) (D_q40:Def P w K mg base 1 "greatest_divisor" ["one","other"] (spD K NZ)) (F:Fun K "common_bottom" "common_bottom" ZC f fd):FnOk P w K mg base CX0 2 f fd ["row"] (spD K O7):=by
 have sc:=iS
 exact fnD F iS rfl rfl fun cdv A outer s H E hr=>
  (A4 (AO 1 A7 sc.nd)
  (A4 (DJ AI (FM (AH 0)) (CA 2 sc.nd) (AC (EB 1 (AO 1 (DC (DE.dp (F0 (A1 1) (DE.dp (BF D_q40 hr (A6 (AH 1) (A6 (BX (A1 2) (DE.dp A7)) AF)))))) (DE.dp (BX (A1 2) (DE.dp A7)))) sc.nd))))
  (AC (E7 1))))
def b_q50 : En -> Option Out :=
 (mSeq (mAsg 1 (mCall O7 (mCons (mVar 0) mNil)))
 (mRet (mLC (CC [some 1,none]) (mItems (mVar 0)) (gVar 1) mYes (mBin dRep (mBin dix (mPk 1) (mK (.int 0))) (mBin EC (mPk 0) (mBin dix (mPk 1) (mK (.int 1))))))))
def RD:List PyData->Option Sl:=EJ 2 b_q50 1
theorem t4 (B:Bl mg) (D_q35:Def P w K mg base 2 "common_bottom" ["row"] (spD K O7)) (F:Fun K "whole_row" "whole_row" aD f fd):FnOk P w K mg base CX0 3 f fd ["row"] (spD K RD):=by
 have sc:=gE
 exact fnD F gE rfl rfl fun cdv A outer s H E hr=>
  (A4 (AO 1 (BF D_q35 hr (A6 (AH 0) AF)) sc.nd)
  (AC (CM (EL (N':= ["bottom","number"]) (R':=PR K) BP BQ [some 1,none] (CC [some 1,none]) D8 (FM (AH 0)) (fun _=>(BO 1 (show List.Nodup (α:=Str) ["bottom","number"] by decide +kernel))) (fun _=>CG) (fun _=>(DC (DE.dp (BX (A1 1) (DE.dp A7))) (DE.dp (F0 (A1 0) (DE.dp (BX (A1 1) (DE.dp A7)))))))))))
def b_q14 : En -> Option Out :=
 (mSeq (F6 (JW (mConsP (mPk 1) (mConsP (mCallP dLen (mConsP (mPk 4) mNilP)) mNilP))) (gVar 3) (mIf (mTest (mBin dne (mBin dix (mBin dix (mPk 4) (mPk 3)) (mPk 2)) (mK (.int 0)))) (mRet (mPk 3)) mNext))
 (mRet (mK .none)))
def O1:En->List PyData->Option (En×PyData):=NS 4 3 3 b_q14
theorem sH (B:Bl mg) (K_S:Klass K C_S ["rows","leads","last"]) (F:Fun K "place_of_lead" "Stairs.place_of_lead" aG f fd):FnOk P w K mg base CX0 1 f fd ["self","top","column"] (spM K C_S ["rows","leads","last"] O1):=by
 have sc:=iE
 exact fnM F iE rfl rfl rfl fun cdv A outer s H E p hr=>
  (A4 (DJ AI (KW B.range (AS (A1 1) (AS (DE.dp (D7 B0 DU DR B.len (AS (JR 0 K_S) B5))) B5))) (CA 3 sc.nd) (AC (EO (LI hr.units (DE.dp (BX (DE.dp (BX (JR 0 K_S) (A1 3))) (A1 2))) (DE.dp A7)) (AC (E7 3)) CK)))
  (AC (CM Z9)))
def b_q13 : En -> Option Out :=
 (mSeq (mIf (mTest (mBin deq (mPk 2) (mPk 1))) mRetN mNext)
 (mSeq (mAsg 3 (mLC (CC [none]) (mItems (mBin dix (mPk 4) (mPk 1))) (gVar 0) mYes (mUn (iun fun i=> -i) (mPk 0))))
 (mSeq (mSet 4 (mPk 1) (mBin dix (mPk 4) (mPk 2)))
 (mFrz 3 (mSet 4 (mPk 2) (mVar 3))))))
def RM:En->List PyData->Option (En×PyData):=NS 4 3 3 b_q13
theorem tY (B:Bl mg) (K_S:Klass K C_S ["rows","leads","last"]) (F:Fun K "exchange" "Stairs.exchange" ZD f fd):FnOk P w K mg base CX0 1 f fd ["self","top","place"] (spM K C_S ["rows","leads","last"] RM):=by
 have sc:=dM
 exact fnM F dM rfl rfl rfl fun cdv A outer s H E p hr=>
  (A4 (EO (G7 hr.units (A1 2) (A1 1)) (AC aL) CK)
  (A4 (T9 (N':= ["number"]) (R':=PR K) BP BQ 3 [none] (CC [none]) mO sc.nd (FM (BX (JR 0 K_S) (A1 1))) (fun _=>(BO 0 (show List.Nodup (α:=Str) ["number"] by decide +kernel))) (fun _=>CG) (fun _=>(SK (A1 0))))
  (A4 (YS 0 K_S (BX (JR 0 K_S) (A1 2)) (A1 1))
  (AC (EB 3 (YS 0 K_S (AH 3) (A1 2)))))))
def b_q15 : En -> Option Out :=
 (mSeq (mAsg 2 (mCallP dLen (mConsP (mPk 7) mNilP)))
 (mSeq (mFrz 2 (IQ 6 O1 (mCons (mVar 2) (mCons (mVar 1) mNil)) fun ρ d=>some (.nx (ρ.set 3 (some (.val d))))))
 (mSeq (mIf (mTest (mBin disN (mPk 3) (mK .none))) mRetN mNext)
 (mSeq (mFrz 2 (mFrz 3 (IQ 6 RM (mCons (mVar 2) (mCons (mVar 3) mNil)) fun ρ _=>some (.nx ρ))))
 (mSeq (mAsg 4 (mBin dix (mPk 6) (mPk 2)))
 (mSeq (mFrz 4 (mAsg 5 (mLC (bD [some 4,some 1,some 0,none] 6) (mItems (mSl (mPk 6) (mPart (mBin dAdd (mPk 2) (mK (.int 1)))) mNoPart)) (gVar 3) mYes (mCall UD (mCons (mVar 3) (mCons (mVar 0) (mCons (mVar 1) (mCons (mVar 6) mNil))))))))
 (mSeq (mAsg 6 (mBin dAdd (mSl (mPk 6) mNoPart (mPart (mBin dAdd (mPk 2) (mK (.int 1))))) (mPk 5)))
 (mSeq (mApp 7 (mVar 1))
 (mAsg 8 (mBin dix (mPk 4) (mPk 1)))))))))))
def Q2:En->List PyData->Option (En×PyData):=NS 6 2 3 b_q15
theorem tG (B:Bl mg) (D_q14:MDef P w K mg base 1 C_S "place_of_lead" ["self","top","column"] (spM K C_S ["rows","leads","last"] O1)) (D_q13:MDef P w K mg base 1 C_S "exchange" ["self","top","place"] (spM K C_S ["rows","leads","last"] RM)) (D_q32:Def P w K mg base 1 "cleared_row" ["row","lead_row","column","last"] (spD K UD)) (K_S:Klass K C_S ["rows","leads","last"]) (F:Fun K "step_down" "Stairs.step_down" ZY f fd):FnOk P w K mg base CX0 2 f fd ["self","column"] (spM K C_S ["rows","leads","last"] Q2):=by
 have sc:=eG
 exact fnM F eG rfl rfl rfl fun cdv A outer s H E p hr=>
  (A4 (AO 2 (D7 B0 DU DR B.len (AS (JR 1 K_S) B5)) sc.nd)
  (A4 (EB 2 (fQ 3 D_q14 K_S hr (A6 (AH 2) (A6 (AH 1) AF)) sc.nd))
  (A4 (EO (uW (A1 3) (DE.dp Z9)) (AC aL) CK)
  (A4 (EB 2 (EB 3 (VQ D_q13 K_S hr (A6 (AH 2) (A6 (AH 3) AF)))))
  (A4 (AO 4 (BX (JR 0 K_S) (A1 2)) sc.nd)
  (A4 (EB 4 (T9 (N':= ["lead_row","column","self","row"]) (R':=FR K ⟨C_S,["rows","leads","last"],2,4,p⟩) BP BQ 5 [some 4,some 1,some 0,none] (bD [some 4,some 1,some 0,none] 6) rR sc.nd (FM (FI (JR 0 K_S) (DV (DE.dp (BE (A1 2) (DE.dp A7)))) E1)) (fun _=>(BO 3 (show List.Nodup (α:=Str) ["lead_row","column","self","row"] by decide +kernel))) (fun _=>CG) (fun _=>(BF D_q32 hr (A6 (AH 3) (A6 (AH 0) (A6 (AH 1) (A6 (fW 2 K_S) AF))))))))
  (A4 (Q3 0 K_S (BE (DE.dp (FI (JR 0 K_S) E1 (DV (DE.dp (BE (A1 2) (DE.dp A7)))))) (A1 5)))
  (A4 (mG 1 K_S (AH 1))
  (AC (Q3 2 K_S (BX (A1 4) (A1 1))))))))))))
def b_q12 : En -> Option Out :=
 (mSeq (mAsg 3 (mCallP dList (mConsP (mPk 1) mNilP)))
 (mSeq (mAsg 4 (mLst mNil))
 (mSeq (mAsg 5 (mK (.int 1)))
 (F6 (EZ (mConsP (mCallP dLen (mConsP (mBin dix (mPk 1) (mK (.int 0))) mNilP)) mNilP)) (gVar 2) (IQ 3 Q2 (mCons (mVar 2) mNil) fun ρ _=>some (.nx ρ))))))
def PM:En->List PyData->Option (En×PyData):=NS 3 2 3 b_q12
theorem tN (B:Bl mg) (D_q15:MDef P w K mg base 2 C_S "step_down" ["self","column"] (spM K C_S ["rows","leads","last"] Q2)) (K_S:Klass K C_S ["rows","leads","last"]) (F:Fun K "__init__" "Stairs.__init__" Y4 f fd):FnOk P w K mg base CX0 3 f fd ["self","rows"] (spM K C_S ["rows","leads","last"] PM):=by
 have sc:=jX
 exact fnM F jX rfl rfl rfl fun cdv A outer s H E p hr=>
  (A4 (Q3 0 K_S (MI HU OG MQ B.list (AS (A1 1) B5)))
  (A4 (Q3 1 K_S (C8 AF))
  (A4 (Q3 2 K_S A7)
  (AC (DJ AI (CT B.range (AS (DE.dp (D7 B0 DU DR B.len (AS (DE.dp (BX (A1 1) (DE.dp A7))) B5))) B5)) (CA 2 sc.nd) (AC (VQ D_q15 K_S hr (A6 (AH 2) AF))))))))
def P5:List PyData->Option En:=iQ 1 1 (W9 3 PM (mCons (mLC (CC [none]) (mItems (mVar 0)) (gVar 0) mYes (mCall RD (mCons (mVar 0) mNil))) mNil))
theorem vX (B:Bl mg) (D_q50:Def P w K mg base 3 "whole_row" ["row"] (spD K RD)) (D_q12:KDef P w K mg base 3 C_S "Stairs" ["self","rows"] (spM K C_S ["rows","leads","last"] PM)) (K_S:Klass K C_S ["rows","leads","last"]) (F:Fun K "stairs_of" "stairs_of" ZN f fd):FnOk P w K mg base CX0 5 f fd ["table"] (spO K C_S ["rows","leads","last"] P5):=by
 have sc:=kG
 exact fnO F kG rfl rfl rfl fun cdv A outer s H E hr=>
  (lS D_q12 hr (A6 (EL (N':= ["row"]) (R':=PR K) BP BQ [none] (CC [none]) D8 (FM (AH 0)) (fun _=>(BO 0 (show List.Nodup (α:=Str) ["row"] by decide +kernel))) (fun _=>CG) (fun _=>(BF D_q50 hr (A6 (AH 0) AF)))) AF))
def b_q41 : En -> Option Out :=
 (mRet (mLC (CC [some 0,none]) (EZ (mConsP (mCallP dLen (mConsP (mBin dix (mPk 0) (mK (.int 0))) mNilP)) mNilP)) (gVar 1) mYes (mLC (CC [some 1,none]) (mItems (mVar 0)) (gVar 1) mYes (mBin dix (mPk 1) (mPk 0)))))
def U8:List PyData->Option Sl:=EJ 1 b_q41 1
theorem vP (B:Bl mg) (F:Fun K "laid_over" "laid_over" aO f fd):FnOk P w K mg base CX0 1 f fd ["table"] (spD K U8):=by
 have sc:=iF
 exact fnD F iF rfl rfl fun cdv A outer s H E hr=>
  (AC (CM (EL (N':= ["table","k"]) (R':=PR K) BP BQ [some 0,none] (CC [some 0,none]) D8 (CT B.range (AS (DE.dp (D7 B0 DU DR B.len (AS (DE.dp (BX (A1 0) (DE.dp A7))) B5))) B5)) (fun _=>(BO 1 (show List.Nodup (α:=Str) ["table","k"] by decide +kernel))) (fun _=>CG) (fun _=>(EL (N':= ["k","row"]) (R':=PR K) JB JJ [some 1,none] (CC [some 1,none]) D8 (FM (AH 0)) (fun _=>(BO 1 (show List.Nodup (α:=Str) ["k","row"] by decide +kernel))) (fun _=>CG) (fun _=>(BX (A1 1) (A1 0))))))))
def b_q37 : En -> Option Out :=
 (bY 4 1 (P4 P5 (mCons (mVar 0) mNil))
 (mSeq (mIf (mTest (mBin dLt (mCallP dLen (mConsP (mPk 5) mNilP)) (mCallP dLen (mConsP (mPk 0) mNilP)))) (mRet (mK c_NOUGHT)) mNext)
 (mSeq (mAsg 2 (mK (.int 1)))
 (mSeq (F6 (mItems (mVar 0)) (gVar 3) (mAsg 2 (mBin dRep (mPk 2) (mCall O7 (mCons (mVar 3) mNil)))))
 (mFrz 2 (mRet (mCall UU (mCons (mVar 6) (mCons (mVar 2) mNil)))))))))
def VE:List PyData->Option Sl:=EJ 4 b_q37 1
theorem wG (B:Bl mg) (D_q45:Def P w K mg base 5 "stairs_of" ["table"] (spO K C_S ["rows","leads","last"] P5)) (D_q35:Def P w K mg base 2 "common_bottom" ["row"] (spD K O7)) (D_q39:Def P w K mg base 2 "fraction" ["top","bottom"] (spD K UU)) (C_NOUGHT:e8 K mg "NOUGHT" c_NOUGHT) (K_S:Klass K C_S ["rows","leads","last"]) (F:Fun K "determinant" "determinant" aM f fd):FnOk P w K mg base CX0 6 f fd ["table"] (spD K VE):=by
 have sc:=dL
 exact fnD F dL rfl rfl fun cdv A outer s H E hr=>
  (oW 1 4 (mV D_q45 hr (A6 (AH 0) AF)) (fun p=>
  (A4 (EO (W2 (DE.dp (D7 B0 DU DR B.len (AS (JR 1 K_S) B5))) (DE.dp (D7 B0 DU DR B.len (AS (A1 0) B5)))) (AC (CM (fV C_NOUGHT))) CK)
  (A4 (AO 2 A7 sc.nd)
  (A4 (DJ AI (FM (AH 0)) (CA 3 sc.nd) (AC (AO 2 (DC (A1 2) (DE.dp (BF D_q35 hr (A6 (AH 3) AF)))) sc.nd)))
  (AC (EB 2 (CM (BF D_q39 hr (A6 (fW 2 K_S) (A6 (AH 2) AF)))))))))) sc.nd)
def b_q46 : En -> Option Out :=
 (mRet (mCallP dSum (mConsP (mLC (CC [none,none]) (gN (mCons (mVar 0) (mCons (mVar 1) mNil))) (gTupD [(gVar 0),(gVar 1)]) mYes (mBin dRep (mPk 0) (mPk 1))) mNilP)))
def UO:List PyData->Option Sl:=EJ 2 b_q46 2
theorem vD (B:Bl mg) (F:Fun K "sum_of_products" "sum_of_products" ZQ f fd):FnOk P w K mg base CX0 1 f fd ["one","other"] (spD K UO):=by
 have sc:=iT
 exact fnD F iT rfl rfl fun cdv A outer s H E hr=>
  (AC (CM (D7 (VR rfl) j6 bt_sum B.sum (AS (DE.dp (EL (N':= ["a","b"]) (R':=PR K) BP BQ [none,none] (CC [none,none]) D8 (j8 B.zip (A6 (AH 0) (A6 (AH 1) AF))) (fun _=>(YG (KY (BO 0 (show List.Nodup (α:=Str) ["a","b"] by decide +kernel)) (KY (BO 1 (show List.Nodup (α:=Str) ["a","b"] by decide +kernel)) UJ)))) (fun _=>CG) (fun _=>(DC (A1 0) (A1 1))))) B5))))
def b_q29 : En -> Option Out :=
 (mRet (mLC (CC [none]) (mItems (mVar 0)) (gVar 0) mYes (mTup (mCons (mVar 0) (mCons (mK (.int 1)) mNil)))))
def VV:List PyData->Option Sl:=EJ 1 b_q29 1
theorem u5 (B:Bl mg) (F:Fun K "as_fractions" "as_fractions" YI f fd):FnOk P w K mg base CX0 1 f fd ["numbers"] (spD K VV):=by
 have sc:=iD
 exact fnD F iD rfl rfl fun cdv A outer s H E hr=>
  (AC (CM (EL (N':= ["number"]) (R':=PR K) BP BQ [none] (CC [none]) D8 (FM (AH 0)) (fun _=>(BO 0 (show List.Nodup (α:=Str) ["number"] by decide +kernel))) (fun _=>CG) (fun _=>(LW (A6 (AH 0) (A6 A7 AF)))))))
def b_q33 : En -> Option Out :=
 (mSeq (mAsg 1 (mCall U8 (mCons (mVar 0) mNil)))
 (mFrz 1 (mRet (mLC (CC [some 1,none]) (mItems (mVar 1)) (gVar 1) mYes (mCall VV (mCons (mLC (CC [some 1,none]) (mItems (mVar 0)) (gVar 1) mYes (mCall UO (mCons (mVar 0) (mCons (mVar 1) mNil)))) mNil))))))
def UH:List PyData->Option Sl:=EJ 2 b_q33 1
theorem uM (B:Bl mg) (D_q41:Def P w K mg base 1 "laid_over" ["table"] (spD K U8)) (D_q29:Def P w K mg base 1 "as_fractions" ["numbers"] (spD K VV)) (D_q46:Def P w K mg base 1 "sum_of_products" ["one","other"] (spD K UO)) (F:Fun K "column_products" "column_products" YK f fd):FnOk P w K mg base CX0 2 f fd ["rows"] (spD K UH):=by
 have sc:=gO
 exact fnD F gO rfl rfl fun cdv A outer s H E hr=>
  (A4 (AO 1 (BF D_q41 hr (A6 (AH 0) AF)) sc.nd)
  (AC (EB 1 (CM (EL (N':= ["columns","one"]) (R':=PR K) BP BQ [some 1,none] (CC [some 1,none]) D8 (FM (AH 1)) (fun _=>(BO 1 (show List.Nodup (α:=Str) ["columns","one"] by decide +kernel))) (fun _=>CG) (fun _=>(BF D_q29 hr (A6 (EL (N':= ["one","other"]) (R':=PR K) JB JJ [some 1,none] (CC [some 1,none]) D8 (FM (AH 0)) (fun _=>(BO 1 (show List.Nodup (α:=Str) ["one","other"] by decide +kernel))) (fun _=>CG) (fun _=>(BF D_q46 hr (A6 (AH 0) (A6 (AH 1) AF))))) AF))))))))
def b_q52 : En -> Option Out :=
 (mRet (mBin dix (mCall VE (mCons (mCall UH (mCons (mVar 0) mNil)) mNil)) (mK (.int 0))))
def NW:List PyData->Option Sl:=EJ 1 b_q52 1
theorem sP (B:Bl mg) (D_q37:Def P w K mg base 6 "determinant" ["table"] (spD K VE)) (D_q33:Def P w K mg base 2 "column_products" ["rows"] (spD K UH)) (F:Fun K "worth_of" "worth_of" YB f fd):FnOk P w K mg base CX0 7 f fd ["rows"] (spD K NW):=by
 have sc:=fA
 exact fnD F fA rfl rfl fun cdv A outer s H E hr=>
  (AC (CM (BX (DE.dp (BF D_q37 hr (A6 (BF D_q33 hr (A6 (AH 0) AF)) AF))) (DE.dp A7))))
def b_q51 : En -> Option Out :=
 (mRet (mCall NW (mCons (mCall PJ (mCons (mVar 0) (mCons (mVar 1) (mCons (mVar 2) mNil)))) mNil)))
def PV:List PyData->Option Sl:=EJ 3 b_q51 3
theorem sK (B:Bl mg) (D_q52:Def P w K mg base 7 "worth_of" ["rows"] (spD K NW)) (D_q47:Def P w K mg base 5 "table_of" ["levels","plan","model"] (spD K PJ)) (F:Fun K "worth" "worth" aE f fd):FnOk P w K mg base CX0 8 f fd ["levels","plan","model"] (spD K PV):=by
 have sc:=kJ
 exact fnD F kJ rfl rfl fun cdv A outer s H E hr=>
  (AC (CM (BF D_q52 hr (A6 (BF D_q47 hr (A6 (AH 0) (A6 (AH 1) (A6 (AH 2) AF)))) AF))))
def b_q31 : En -> Option Out :=
 (mSeq (mAsg 2 (mLst (mCons (mLst mNil) mNil)))
 (mSeq (F6 (JW (mConsP (mK (.int 1)) (mConsP (mBin dAdd (mPk 1) (mK (.int 1))) mNilP))) (gVar 3) (mFrz 2 (mAsg 2 (mCall UR (mCons (mVar 2) (mCons (mBin dAdd (mBin dSub (mPk 0) (mPk 1)) (mPk 3)) mNil))))))
 (mRet (mPk 2))))
def V4:List PyData->Option Sl:=EJ 4 b_q31 2
theorem tE (B:Bl mg) (D_q42:Def P w K mg base 1 "longer_lists" ["lists","things"] (spD K UR)) (F:Fun K "choices_of" "choices_of" aU f fd):FnOk P w K mg base CX0 2 f fd ["count","many"] (spD K V4):=by
 have sc:=gU
 exact fnD F gU rfl rfl fun cdv A outer s H E hr=>
  (A4 (AO 2 (C8 (A6 (C8 AF) AF)) sc.nd)
  (A4 (DJ AI (KW B.range (AS (DE.dp A7) (AS (DE.dp (BE (A1 1) (DE.dp A7))) B5))) (CA 3 sc.nd) (AC (EB 2 (AO 2 (BF D_q42 hr (A6 (AH 2) (A6 (BE (DE.dp (FZ (A1 0) (A1 1))) (A1 3)) AF))) sc.nd))))
  (AC (E7 2))))
def b_q30 : En -> Option Out :=
 (mSeq (mAsg 4 (mCall PJ (mCons (mVar 0) (mCons (mVar 1) (mCons (mVar 2) mNil)))))
 (mSeq (mAsg 5 (mCall V4 (mCons (mCallP dLen (mConsP (mPk 1) mNilP)) (mCons (mVar 3) mNil))))
 (mSeq (mFrz 4 (mAsg 6 (MN 4 (mCall NW (mCons (mLC (CC [some 1,none]) (C6 (mVar 0)) (gVar 1) mYes (mBin dix (mPk 0) (mPk 1))) mNil)) (mPk 5))))
 (mSeq (mFrz 6 (mAsg 7 (mLC (CC [some 1,none]) (C6 (mVar 6)) (gVar 1) mYes (mBin dix (mPk 0) (mPk 1)))))
 (LU 7 (mFrz 7 (mRet (mTup (mCons (mVar 7) (mCons (mCall PV (mCons (mVar 0) (mCons (mVar 7) (mCons (mVar 2) mNil)))) mNil))))))))))
def U3:List PyData->Option Sl:=cB 8 b_q30 4
theorem uX (B:Bl mg) (D_q47:Def P w K mg base 5 "table_of" ["levels","plan","model"] (spD K PJ)) (D_q31:Def P w K mg base 2 "choices_of" ["count","many"] (spD K V4)) (D_q52:Def P w K mg base 7 "worth_of" ["rows"] (spD K NW)) (D_q51:Def P w K mg base 8 "worth" ["levels","plan","model"] (spD K PV)) {cL PL:Addr} (hcd:fd.code = .ref cL) (CL:PySem.W.CodeHd base cL PL) (hpL:PL ∈ J6 K) (bm:BM base mg) (F:Fun K "best" "best" QS f fd):FnOk P w K mg base CX0 11 f fd ["levels","trials","model","many"] (spA K U3):=by
 have sc:=fE
 exact zB F hcd fE rfl rfl fun A outer s H E hr=>
  (NR (OL 4 (BF D_q47 hr (A6 (AH 0) (A6 (AH 1) (A6 (AH 2) AF)))) sc.nd)
  (NR (OL 5 (BF D_q31 hr (A6 (D7 B0 DU DR B.len (AS (A1 1) B5)) (A6 (AH 3) AF))) sc.nd)
  (NR (YU 4 (OL 6 (WV (y:= "rows") rfl CL hpL bm hr B.max (P1 rfl) (A1 5) (fun _ _ hr=>(BF D_q52 hr (A6 (EL (N':= ["rows","place"]) (R':=PR K) VC VF [some 1,none] (CC [some 1,none]) D8 (EF (AH 0)) (fun _=>(BO 1 (show List.Nodup (α:=Str) ["rows","place"] by decide +kernel))) (fun _=>CG) (fun _=>(BX (A1 0) (A1 1)))) AF)))) sc.nd))
  (gG (YU 6 (iG (N':= ["trials","place"]) (R':=PR K) BP BQ 7 [some 1,none] (CC [some 1,none]) D8 sc.nd (EF (AH 6)) (fun _=>(BO 1 (show List.Nodup (α:=Str) ["trials","place"] by decide +kernel))) (fun _=>CG) (fun _=>(BX (A1 0) (A1 1)))))
  (nD 7 (lD 7 (A6 (BF D_q51 hr (A6 (AH 0) (A6 (AH 7) (A6 (AH 2) AF)))) AF)))))))
def b_q26 : En -> Option Out :=
 (mRet (mAndV (mIsi "int" (mPk 0)) (mNotV (mIsi "bool" (mPk 0)))))
def V5:List PyData->Option Sl:=EJ 1 b_q26 1
theorem uJ (B:Bl mg) (F:Fun K "_law_whole" "_law_whole" ZS f fd):FnOk P w K mg base CX0 1 f fd ["_law_found"] (spD K V5):=by
 have sc:=jI
 exact fnD F jI rfl rfl fun cdv A outer s H E hr=>
  (AC (CM (eV (S5 j9 B.int B.isinstance (A1 0)) (YA (vV (S5 kY B.bool B.isinstance (A1 0)))))))
def b_q22 : En -> Option Out :=
 (mSeq (mAsg 2 (mBin FB (mBin dRep (mBin dAdd (mBin dAdd (mBin FB (mPk 0) (mK (.int 2147483647))) (mBin dRep (mBin dRep (mK (.int 40503)) (mPk 1)) (mPk 1))) (mBin dRep (mK (.int 17)) (mPk 1))) (mK (.int 48271))) (mK (.int 2147483647))))
 (mRet (mBin FB (mBin dRep (mPk 2) (mBin dAdd (mBin dAdd (mBin FB (mPk 2) (mK (.int 65537))) (mBin dRep (mK (.int 3)) (mPk 1))) (mK (.int 1)))) (mK (.int 2147483629)))))
def JY:List PyData->Option Sl:=EJ 3 b_q22 2
theorem rV (B:Bl mg) (F:Fun K "_law_mixed" "_law_mixed" YX f fd):FnOk P w K mg base CX0 1 f fd ["_law_cell","_law_k"] (spD K JY):=by
 have sc:=j7
 exact fnD F j7 rfl rfl fun cdv A outer s H E hr=>
  (A4 (AO 2 (EW (DE.dp (DC (DE.dp (BE (DE.dp (BE (DE.dp (EW (A1 0) (DE.dp A7))) (DE.dp (DC (DE.dp (DC (DE.dp A7) (A1 1))) (A1 1))))) (DE.dp (DC (DE.dp A7) (A1 1))))) (DE.dp A7))) (DE.dp A7)) sc.nd)
  (AC (CM (EW (DE.dp (DC (A1 2) (DE.dp (BE (DE.dp (BE (DE.dp (EW (A1 2) (DE.dp A7))) (DE.dp (DC (DE.dp A7) (A1 1))))) (DE.dp A7))))) (DE.dp A7)))))
def b_q21 : En -> Option Out :=
 (mSeq (mAsg 2 (mBin dAdd (mK (.int 1)) (mBin FB (mPk 0) (mK (.int 4)))))
 (mSeq (mAsg 3 (mLst mNil))
 (mSeq (mAsg 4 (mBin EC (mPk 0) (mK (.int 8))))
 (mSeq (F6 (EZ (mConsP (mPk 2) mNilP)) (gVar 5) (mSeq (mAsg 6 (mBin dAdd (mK (.int 2)) (mBin FB (mCall JY (mCons (mVar 0) (mCons (mBin dAdd (mK (.int 200)) (mPk 5)) mNil))) (mK (.int 3)))))
 (mSeq (mIf (mTest (mBin deq (mBin FB (mCall JY (mCons (mVar 0) (mCons (mK (.int 220)) mNil))) (mK (.int 3))) (mK (.int 0)))) (mAsg 6 (mK (.int 2))) mNext)
 (mSeq (mIf (mTest (mBin deq (mBin FB (mBin EC (mPk 0) (mK (.int 4))) (mK (.int 2))) (mK (.int 1)))) (mSeq (mAsg 6 (mBin dAdd (mK (.int 2)) (mBin FB (mPk 4) (mK (.int 3)))))
 (mAsg 4 (mBin EC (mPk 4) (mK (.int 3))))) mNext)
 (mSeq (mAsg 7 (mK (.int 1)))
 (mSeq (RF 3 (gVar 8) (mAsg 7 (mBin dRep (mPk 7) (mPk 8))))
 (mSeq (mIf (mTest (mBin dGt (mBin dRep (mPk 7) (mPk 6)) (mPk 1))) (mAsg 6 (mK (.int 2))) mNext)
 (mIf (mTest (mBin dLe (mBin dRep (mPk 7) (mPk 6)) (mPk 1))) (mFrz 6 (mApp 3 (mVar 6))) mNext))))))))
 (mRet (mPk 3))))))
def VN:List PyData->Option Sl:=EJ 9 b_q21 2
theorem sA (B:Bl mg) (D_q22:Def P w K mg base 1 "_law_mixed" ["_law_cell","_law_k"] (spD K JY)) (F:Fun K "_law_levels" "_law_levels" ZI f fd):FnOk P w K mg base CX0 2 f fd ["_law_cell","_law_most"] (spD K VN):=by
 have sc:=kL
 exact fnD F kL rfl rfl fun cdv A outer s H E hr=>
  (A4 (AO 2 (BE (DE.dp A7) (DE.dp (EW (A1 0) (DE.dp A7)))) sc.nd)
  (A4 (AO 3 (C8 AF) sc.nd)
  (A4 (AO 4 (F0 (A1 0) (DE.dp A7)) sc.nd)
  (A4 (DJ AI (CT B.range (AS (A1 2) B5)) (CA 5 sc.nd) (A4 (AO 6 (BE (DE.dp A7) (DE.dp (EW (DE.dp (BF D_q22 hr (A6 (AH 0) (A6 (BE (DE.dp A7) (A1 5)) AF)))) (DE.dp A7)))) sc.nd)
  (A4 (EO (G7 hr.units (DE.dp (EW (DE.dp (BF D_q22 hr (A6 (AH 0) (A6 A7 AF)))) (DE.dp A7))) (DE.dp A7)) (AC (AO 6 A7 sc.nd)) CK)
  (A4 (EO (G7 hr.units (DE.dp (EW (DE.dp (F0 (A1 0) (DE.dp A7))) (DE.dp A7))) (DE.dp A7)) (A4 (AO 6 (BE (DE.dp A7) (DE.dp (EW (A1 4) (DE.dp A7)))) sc.nd)
  (AC (AO 4 (F0 (A1 4) (DE.dp A7)) sc.nd))) CK)
  (A4 (AO 7 A7 sc.nd)
  (A4 (oM 3 rfl AI (fun _ _=>(CA 8 sc.nd)) (fun _ _=>(AC (AO 7 (DC (A1 7) (A1 8)) sc.nd))))
  (A4 (EO (y4 (DE.dp (DC (A1 7) (A1 6))) (A1 1)) (AC (AO 6 A7 sc.nd)) CK)
  (AC (EO (pV (DE.dp (DC (A1 7) (A1 6))) (A1 1)) (AC (EB 6 (JQ 3 (AH 6)))) CK)))))))))
  (AC (E7 3))))))
def b_q20 : En -> Option Out :=
 (mSeq (mAsg 3 (mLst mNil))
 (mSeq (mAsg 4 (mK (.int 0)))
 (mSeq (mAsg 5 (mBin EC (mPk 0) (mK (.int 162))))
 (mSeq (F6 (EZ (mConsP (mK (.int 6)) mNilP)) (gVar 6) (mSeq (mAsg 7 (mCall JY (mCons (mVar 0) (mCons (mBin dAdd (mK (.int 230)) (mPk 6)) mNil))))
 (mSeq (mAsg 8 (mCallP dTuple (mConsP (mLC (CC [some 7,none]) (EZ (mConsP (mCallP dLen (mConsP (mPk 1) mNilP)) mNilP)) (gVar 1) (mTest (mBin deq (mBin FB (mBin EC (mPk 0) (mBin dAdd (mK (.int 2)) (mPk 1))) (mK (.int 3))) (mK (.int 0)))) (mVar 1)) mNilP)))
 (mSeq (mIf (mTest (mBin deq (mBin FB (mPk 0) (mK (.int 2))) (mK (.int 1)))) (mSeq (mAsg 8 (mCallP dTuple (mConsP (mLC (CC [some 5,none]) (EZ (mConsP (mCallP dLen (mConsP (mPk 1) mNilP)) mNilP)) (gVar 1) (mTest (mBin deq (mBin FB (mBin EC (mPk 0) (mBin dix (mLst (mCons (mK (.int 1)) (mCons (mK (.int 2)) (mCons (mK (.int 4)) (mCons (mK (.int 8)) mNil))))) (mPk 1))) (mK (.int 2))) (mK (.int 1)))) (mVar 1)) mNilP)))
 (mAsg 5 (mBin EC (mPk 5) (mK (.int 16))))) mNext)
 (mSeq (mAsg 9 (mK (.int 1)))
 (mSeq (mFrz 8 (F6 (C6 (mVar 8)) (gVar 10) (mAsg 9 (mBin dRep (mPk 9) (mBin dSub (mBin dix (mPk 1) (mPk 10)) (mK (.int 1)))))))
 (mIf (mAnd (mTest (mBin (PQ true) (mPk 8) (mPk 3))) (mTest (mBin dLe (mBin dAdd (mPk 4) (mPk 9)) (mPk 2)))) (mSeq (mFrz 8 (mApp 3 (mVar 8)))
 (mAsg 4 (mBin dAdd (mPk 4) (mPk 9)))) mNext)))))))
 (mSeq (mIf (mTest (mBin deq (mCallP dLen (mConsP (mPk 3) mNilP)) (mK (.int 0)))) (mApp 3 (mTup mNil)) mNext)
 (mRet (mPk 3)))))))
def UE:List PyData->Option Sl:=EJ 11 b_q20 3
theorem uP (B:Bl mg) (D_q22:Def P w K mg base 1 "_law_mixed" ["_law_cell","_law_k"] (spD K JY)) (F:Fun K "_law_effects" "_law_effects" YO f fd):FnOk P w K mg base CX0 2 f fd ["_law_cell","_law_levels_here","_law_most"] (spD K UE):=by
 have sc:=e7
 exact fnD F e7 rfl rfl fun cdv A outer s H E hr=>
  (A4 (AO 3 (C8 AF) sc.nd)
  (A4 (AO 4 A7 sc.nd)
  (A4 (AO 5 (F0 (A1 0) (DE.dp A7)) sc.nd)
  (A4 (DJ AI (CT B.range (AS (DE.dp A7) B5)) (CA 6 sc.nd) (A4 (AO 7 (BF D_q22 hr (A6 (AH 0) (A6 (BE (DE.dp A7) (A1 6)) AF))) sc.nd)
  (A4 (AO 8 (MI HF MA JK B.tuple (AS (DE.dp (EL (N':= ["_law_number","_law_thing"]) (R':=PR K) BP BQ [some 7,none] (CC [some 7,none]) D8 (CT B.range (AS (DE.dp (D7 B0 DU DR B.len (AS (A1 1) B5))) B5)) (fun _=>(BO 1 (show List.Nodup (α:=Str) ["_law_number","_law_thing"] by decide +kernel))) (fun _=>(YM (G7 hr.units (DE.dp (EW (DE.dp (F0 (A1 0) (DE.dp (BE (DE.dp A7) (A1 1))))) (DE.dp A7))) (DE.dp A7)))) (fun _=>(AH 1)))) B5)) sc.nd)
  (A4 (EO (G7 hr.units (DE.dp (EW (A1 0) (DE.dp A7))) (DE.dp A7)) (A4 (AO 8 (MI HF MA JK B.tuple (AS (DE.dp (EL (N':= ["_law_left","_law_thing"]) (R':=PR K) BP BQ [some 5,none] (CC [some 5,none]) D8 (CT B.range (AS (DE.dp (D7 B0 DU DR B.len (AS (A1 1) B5))) B5)) (fun _=>(BO 1 (show List.Nodup (α:=Str) ["_law_left","_law_thing"] by decide +kernel))) (fun _=>(YM (G7 hr.units (DE.dp (EW (DE.dp (F0 (A1 0) (DE.dp (BX (DE.dp (C8 (A6 A7 (A6 A7 (A6 A7 (A6 A7 AF)))))) (A1 1))))) (DE.dp A7))) (DE.dp A7)))) (fun _=>(AH 1)))) B5)) sc.nd)
  (AC (AO 5 (F0 (A1 5) (DE.dp A7)) sc.nd))) CK)
  (A4 (AO 9 A7 sc.nd)
  (A4 (EB 8 (DJ AI (EF (AH 8)) (CA 10 sc.nd) (AC (AO 9 (DC (A1 9) (DE.dp (FZ (DE.dp (BX (A1 1) (A1 10))) (DE.dp A7)))) sc.nd))))
  (AC (EO (sJ (uB (NF hr.units (A1 8) (A1 3)) (mJ (pV (DE.dp (BE (A1 4) (A1 9))) (A1 2))))) (A4 (EB 8 (JQ 3 (AH 8)))
  (AC (AO 4 (BE (A1 4) (A1 9)) sc.nd))) CK))))))))
  (A4 (EO (G7 hr.units (DE.dp (D7 B0 DU DR B.len (AS (A1 3) B5))) (DE.dp A7)) (AC (JQ 3 (LW AF))) CK)
  (AC (E7 3)))))))
def b_q18 : En -> Option Out :=
 (mSeq (mIf (mTest (mBin dLt (mPk 1) (mPk 0))) (mRet (mK (.int 1))) mNext)
 (mRet (mBin dRep (mBin dSub (mK (.int 0)) (mPk 0)) (mCallP dInt (mConsP (mBin deq (mPk 1) (mPk 0)) mNilP)))))
def W8:List PyData->Option Sl:=EJ 2 b_q18 2
theorem vM (B:Bl mg) (F:Fun K "_law_contrast" "_law_contrast" aW f fd):FnOk P w K mg base CX0 1 f fd ["_law_k","_law_step"] (spD K W8):=by
 have sc:=kP
 exact fnD F kP rfl rfl fun cdv A outer s H E hr=>
  (A4 (EO (W2 (A1 1) (A1 0)) (AC (CM A7)) CK)
  (AC (CM (DC (DE.dp (FZ (DE.dp A7) (A1 0))) (DE.dp (MI bP sN j9 B.int (AS (DE.dp (kF hr.units (A1 1) (A1 0))) B5)))))))
def b_q17 : En -> Option Out :=
 (mSeq (mAsg 2 (mLst mNil))
 (mSeq (F6 (C6 (mVar 1)) (gVar 3) (mSeq (mAsg 4 (mLst (mCons (mTup mNil) mNil)))
 (mSeq (F6 (C6 (mVar 3)) (gVar 5) (mSeq (mAsg 6 (mLst mNil))
 (mSeq (mFrz 4 (F6 (C6 (mVar 4)) (gVar 7) (mAsg 6 (mBin dAdd (mPk 6) (mLC (CC [some 7,none]) (JW (mConsP (mK (.int 1)) (mConsP (mBin dix (mPk 0) (mPk 5)) mNilP))) (gVar 1) mYes (mBin dAdd (mPk 0) (mTup (mCons (mVar 1) mNil))))))))
 (mFrz 6 (mAsg 4 (mVar 6))))))
 (mFrz 4 (mAsg 2 (mBin dAdd (mPk 2) (mLC (CC [some 3,none]) (C6 (mVar 4)) (gVar 1) mYes (mTup (mCons (mVar 0) (mCons (mVar 1) mNil))))))))))
 (mRet (mPk 2))))
def QL:List PyData->Option Sl:=EJ 8 b_q17 2
theorem vE (B:Bl mg) (F:Fun K "_law_columns" "_law_columns" Z1 f fd):FnOk P w K mg base CX0 1 f fd ["_law_levels_here","_law_model"] (spD K QL):=by
 have sc:=g0
 exact fnD F g0 rfl rfl fun cdv A outer s H E hr=>
  (A4 (AO 2 (C8 AF) sc.nd)
  (A4 (DJ AI (EF (AH 1)) (CA 3 sc.nd) (A4 (AO 4 (C8 (A6 (LW AF) AF)) sc.nd)
  (A4 (DJ AI (EF (AH 3)) (CA 5 sc.nd) (A4 (AO 6 (C8 AF) sc.nd)
  (A4 (EB 4 (DJ AI (EF (AH 4)) (CA 7 sc.nd) (AC (AO 6 (BE (A1 6) (DE.dp (EL (N':= ["_law_one","_law_k"]) (R':=PR K) BP BQ [some 7,none] (CC [some 7,none]) D8 (KW B.range (AS (DE.dp A7) (AS (DE.dp (BX (A1 0) (A1 5))) B5))) (fun _=>(BO 1 (show List.Nodup (α:=Str) ["_law_one","_law_k"] by decide +kernel))) (fun _=>CG) (fun _=>(BE (A1 0) (DE.dp (LW (A6 (AH 1) AF)))))))) sc.nd))))
  (AC (EB 6 (AO 4 (AH 6) sc.nd))))))
  (AC (EB 4 (AO 2 (BE (A1 2) (DE.dp (EL (N':= ["_law_effect","_law_one"]) (R':=PR K) BP BQ [some 3,none] (CC [some 3,none]) D8 (EF (AH 4)) (fun _=>(BO 1 (show List.Nodup (α:=Str) ["_law_effect","_law_one"] by decide +kernel))) (fun _=>CG) (fun _=>(LW (A6 (AH 0) (A6 (AH 1) AF))))))) sc.nd))))))
  (AC (E7 2))))
def b_q25 : En -> Option Out :=
 (mSeq (mAsg 3 (mLst mNil))
 (mSeq (F6 (C6 (mVar 1)) (gVar 4) (mSeq (mAsg 5 (mLst mNil))
 (mSeq (F6 (C6 (mCall QL (mCons (mVar 0) (mCons (mVar 2) mNil)))) (gTupD [(gVar 6),(gVar 7)]) (mSeq (mAsg 8 (mK (.int 1)))
 (mSeq (F6 (Y7 (mCons (mVar 6) (mCons (mVar 7) mNil))) (gTupD [(gVar 9),(gVar 10)]) (mAsg 8 (mBin dRep (mPk 8) (mCall W8 (mCons (mVar 10) (mCons (mBin dix (mPk 4) (mPk 9)) mNil))))))
 (mFrz 8 (mApp 5 (mVar 8))))))
 (mFrz 5 (mApp 3 (mVar 5))))))
 (mRet (mPk 3))))
def QZ:List PyData->Option Sl:=EJ 11 b_q25 3
theorem rS (B:Bl mg) (D_q17:Def P w K mg base 1 "_law_columns" ["_law_levels_here","_law_model"] (spD K QL)) (D_q18:Def P w K mg base 1 "_law_contrast" ["_law_k","_law_step"] (spD K W8)) (F:Fun K "_law_table" "_law_table" ZU f fd):FnOk P w K mg base CX0 2 f fd ["_law_levels_here","_law_plan_here","_law_model"] (spD K QZ):=by
 have sc:=dW
 exact fnD F dW rfl rfl fun cdv A outer s H E hr=>
  (A4 (AO 3 (C8 AF) sc.nd)
  (A4 (DJ AI (EF (AH 1)) (CA 4 sc.nd) (A4 (AO 5 (C8 AF) sc.nd)
  (A4 (DJ AI (EF (BF D_q17 hr (A6 (AH 0) (A6 (AH 2) AF)))) (WW (JL (CA 6 sc.nd) (JL (CA 7 sc.nd) S9))) (A4 (AO 8 A7 sc.nd)
  (A4 (DJ AI (ZO B.zip (A6 (AH 6) (A6 (AH 7) AF))) (WW (JL (CA 9 sc.nd) (JL (CA 10 sc.nd) S9))) (AC (AO 8 (DC (A1 8) (DE.dp (BF D_q18 hr (A6 (AH 10) (A6 (BX (A1 4) (A1 9)) AF))))) sc.nd)))
  (AC (EB 8 (JQ 5 (AH 8)))))))
  (AC (EB 5 (JQ 3 (AH 5)))))))
  (AC (E7 3))))
def b_q23 : En -> Option Out :=
 (mSeq (mAsg 2 (mLst mNil))
 (mSeq (F6 (C6 (mVar 0)) (gVar 3) (mSeq (mAsg 4 (mLC (CC [some 3,some 1,none]) (EZ (mConsP (mCallP dLen (mConsP (mPk 1) mNilP)) mNilP)) (gVar 2) mYes (mBin FB (mCall JY (mCons (mVar 0) (mCons (mBin dAdd (mK (.int 240)) (mPk 2)) mNil))) (mBin dix (mPk 1) (mPk 2)))))
 (mSeq (mAsg 5 (mBin EC (mPk 3) (mK (.int 2))))
 (mSeq (F6 (EZ (mConsP (mCallP dLen (mConsP (mPk 1) mNilP)) mNilP)) (gVar 6) (mIf (mTest (mBin deq (mBin FB (mPk 3) (mK (.int 2))) (mK (.int 1)))) (mSeq (mSet 4 (mPk 6) (mBin FB (mPk 5) (mBin dix (mPk 1) (mPk 6))))
 (mAsg 5 (mBin EC (mPk 5) (mBin dix (mPk 1) (mPk 6))))) mNext))
 (mApp 2 (mCallP dTuple (mConsP (mPk 4) mNilP)))))))
 (mRet (mPk 2))))
def RK:List PyData->Option Sl:=EJ 7 b_q23 2
theorem w5 (B:Bl mg) (D_q22:Def P w K mg base 1 "_law_mixed" ["_law_cell","_law_k"] (spD K JY)) (F:Fun K "_law_plan" "_law_plan" ZW f fd):FnOk P w K mg base CX0 2 f fd ["_law_cells","_law_levels_here"] (spD K RK):=by
 have sc:=fL
 exact fnD F fL rfl rfl fun cdv A outer s H E hr=>
  (A4 (AO 2 (C8 AF) sc.nd)
  (A4 (DJ AI (EF (AH 0)) (CA 3 sc.nd) (A4 (T9 (N':= ["_law_cell","_law_levels_here","_law_k"]) (R':=PR K) BP BQ 4 [some 3,some 1,none] (CC [some 3,some 1,none]) D8 sc.nd (CT B.range (AS (DE.dp (D7 B0 DU DR B.len (AS (A1 1) B5))) B5)) (fun _=>(BO 2 (show List.Nodup (α:=Str) ["_law_cell","_law_levels_here","_law_k"] by decide +kernel))) (fun _=>CG) (fun _=>(EW (DE.dp (BF D_q22 hr (A6 (AH 0) (A6 (BE (DE.dp A7) (A1 2)) AF)))) (DE.dp (BX (A1 1) (A1 2))))))
  (A4 (AO 5 (F0 (A1 3) (DE.dp A7)) sc.nd)
  (A4 (DJ AI (CT B.range (AS (DE.dp (D7 B0 DU DR B.len (AS (A1 1) B5))) B5)) (CA 6 sc.nd) (AC (EO (G7 hr.units (DE.dp (EW (A1 3) (DE.dp A7))) (DE.dp A7)) (A4 (mY 4 (EW (A1 5) (DE.dp (BX (A1 1) (A1 6)))) (A1 6))
  (AC (AO 5 (F0 (A1 5) (DE.dp (BX (A1 1) (A1 6)))) sc.nd))) CK)))
  (AC (JQ 2 (MI HF MA JK B.tuple (AS (A1 4) B5))))))))
  (AC (E7 2))))
def n5:List PyData->Option Sl:=fun _=>none
theorem xE (B:Bl mg) (F:Fun K "_law_determinant" "_law_determinant" uH f fd):FnOk P w K mg base CX0 1 f fd ["_law_rows"] (spD K n5):=hJ
def b_q3 : En -> Option Out :=
 (mSeq (mIf (mTest (mBin deq (mCallP dLen (mConsP (mPk 0) mNilP)) (mK (.int 0)))) (mRet (mK (.int 1))) mNext)
 (mSeq (mAsg 1 (mK (.int 0)))
 (mSeq (F6 (EZ (mConsP (mCallP dLen (mConsP (mPk 0) mNilP)) mNilP)) (gVar 2) (mSeq (mAsg 3 (mK (.int 0)))
 (mSeq (mIf (mTest (mBin dne (mBin dix (mBin dix (mPk 0) (mK (.int 0))) (mPk 2)) (mK (.int 0)))) (mAsg 3 (mCall n5 (mCons (mLC (CC [some 2,none]) (mItems (mSl (mPk 0) (mPart (mK (.int 1))) mNoPart)) (gVar 1) mYes (mBin dAdd (mSl (mPk 1) mNoPart (mPart (mPk 0))) (mSl (mPk 1) (mPart (mBin dAdd (mPk 0) (mK (.int 1)))) mNoPart))) mNil))) mNext)
 (mAsg 1 (mBin dAdd (mPk 1) (mBin dRep (mBin dRep (mBin dSub (mK (.int 1)) (mBin dRep (mK (.int 2)) (mBin FB (mPk 2) (mK (.int 2))))) (mBin dix (mBin dix (mPk 0) (mK (.int 0))) (mPk 2))) (mPk 3)))))))
 (mRet (mPk 1)))))
def i6:List PyData->Option Sl:=EJ 4 b_q3 1
theorem xI (B:Bl mg) (D_q1:Def P w K mg base 1 "_law_determinant" ["_law_rows"] (spD K n5)) (F:Fun K "_law_determinant" "_law_determinant" lY f fd):FnOk P w K mg base CX0 2 f fd ["_law_rows"] (spD K i6):=by
 have sc:=qW
 exact fnD F qW rfl rfl fun cdv A outer s H E hr=>
  (A4 (EO (G7 hr.units (DE.dp (D7 B0 DU DR B.len (AS (A1 0) B5))) (DE.dp A7)) (AC (CM A7)) CK)
  (A4 (AO 1 A7 sc.nd)
  (A4 (DJ AI (CT B.range (AS (DE.dp (D7 B0 DU DR B.len (AS (A1 0) B5))) B5)) (CA 2 sc.nd) (A4 (AO 3 A7 sc.nd)
  (A4 (EO (LI hr.units (DE.dp (BX (DE.dp (BX (A1 0) (DE.dp A7))) (A1 2))) (DE.dp A7)) (AC (AO 3 (BF D_q1 hr (A6 (EL (N':= ["_law_j","_law_row"]) (R':=PR K) BP BQ [some 2,none] (CC [some 2,none]) D8 (FM (FI (A1 0) (DV (DE.dp A7)) E1)) (fun _=>(BO 1 (show List.Nodup (α:=Str) ["_law_j","_law_row"] by decide +kernel))) (fun _=>CG) (fun _=>(BE (DE.dp (FI (A1 1) E1 (DV (A1 0)))) (DE.dp (FI (A1 1) (DV (DE.dp (BE (A1 0) (DE.dp A7)))) E1))))) AF)) sc.nd)) CK)
  (AC (AO 1 (BE (A1 1) (DE.dp (DC (DE.dp (DC (DE.dp (FZ (DE.dp A7) (DE.dp (DC (DE.dp A7) (DE.dp (EW (A1 2) (DE.dp A7))))))) (DE.dp (BX (DE.dp (BX (A1 0) (DE.dp A7))) (A1 2))))) (A1 3)))) sc.nd)))))
  (AC (E7 1)))))
def b_q5 : En -> Option Out :=
 (mSeq (mIf (mTest (mBin deq (mCallP dLen (mConsP (mPk 0) mNilP)) (mK (.int 0)))) (mRet (mK (.int 1))) mNext)
 (mSeq (mAsg 1 (mK (.int 0)))
 (mSeq (F6 (EZ (mConsP (mCallP dLen (mConsP (mPk 0) mNilP)) mNilP)) (gVar 2) (mSeq (mAsg 3 (mK (.int 0)))
 (mSeq (mIf (mTest (mBin dne (mBin dix (mBin dix (mPk 0) (mK (.int 0))) (mPk 2)) (mK (.int 0)))) (mAsg 3 (mCall i6 (mCons (mLC (CC [some 2,none]) (mItems (mSl (mPk 0) (mPart (mK (.int 1))) mNoPart)) (gVar 1) mYes (mBin dAdd (mSl (mPk 1) mNoPart (mPart (mPk 0))) (mSl (mPk 1) (mPart (mBin dAdd (mPk 0) (mK (.int 1)))) mNoPart))) mNil))) mNext)
 (mAsg 1 (mBin dAdd (mPk 1) (mBin dRep (mBin dRep (mBin dSub (mK (.int 1)) (mBin dRep (mK (.int 2)) (mBin FB (mPk 2) (mK (.int 2))))) (mBin dix (mBin dix (mPk 0) (mK (.int 0))) (mPk 2))) (mPk 3)))))))
 (mRet (mPk 1)))))
def kE:List PyData->Option Sl:=EJ 4 b_q5 1
theorem yF (B:Bl mg) (D_q3:Def P w K mg base 2 "_law_determinant" ["_law_rows"] (spD K i6)) (F:Fun K "_law_determinant" "_law_determinant" lM f fd):FnOk P w K mg base CX0 3 f fd ["_law_rows"] (spD K kE):=by
 have sc:=qN
 exact fnD F qN rfl rfl fun cdv A outer s H E hr=>
  (A4 (EO (G7 hr.units (DE.dp (D7 B0 DU DR B.len (AS (A1 0) B5))) (DE.dp A7)) (AC (CM A7)) CK)
  (A4 (AO 1 A7 sc.nd)
  (A4 (DJ AI (CT B.range (AS (DE.dp (D7 B0 DU DR B.len (AS (A1 0) B5))) B5)) (CA 2 sc.nd) (A4 (AO 3 A7 sc.nd)
  (A4 (EO (LI hr.units (DE.dp (BX (DE.dp (BX (A1 0) (DE.dp A7))) (A1 2))) (DE.dp A7)) (AC (AO 3 (BF D_q3 hr (A6 (EL (N':= ["_law_j","_law_row"]) (R':=PR K) BP BQ [some 2,none] (CC [some 2,none]) D8 (FM (FI (A1 0) (DV (DE.dp A7)) E1)) (fun _=>(BO 1 (show List.Nodup (α:=Str) ["_law_j","_law_row"] by decide +kernel))) (fun _=>CG) (fun _=>(BE (DE.dp (FI (A1 1) E1 (DV (A1 0)))) (DE.dp (FI (A1 1) (DV (DE.dp (BE (A1 0) (DE.dp A7)))) E1))))) AF)) sc.nd)) CK)
  (AC (AO 1 (BE (A1 1) (DE.dp (DC (DE.dp (DC (DE.dp (FZ (DE.dp A7) (DE.dp (DC (DE.dp A7) (DE.dp (EW (A1 2) (DE.dp A7))))))) (DE.dp (BX (DE.dp (BX (A1 0) (DE.dp A7))) (A1 2))))) (A1 3)))) sc.nd)))))
  (AC (E7 1)))))
def b_q7 : En -> Option Out :=
 (mSeq (mIf (mTest (mBin deq (mCallP dLen (mConsP (mPk 0) mNilP)) (mK (.int 0)))) (mRet (mK (.int 1))) mNext)
 (mSeq (mAsg 1 (mK (.int 0)))
 (mSeq (F6 (EZ (mConsP (mCallP dLen (mConsP (mPk 0) mNilP)) mNilP)) (gVar 2) (mSeq (mAsg 3 (mK (.int 0)))
 (mSeq (mIf (mTest (mBin dne (mBin dix (mBin dix (mPk 0) (mK (.int 0))) (mPk 2)) (mK (.int 0)))) (mAsg 3 (mCall kE (mCons (mLC (CC [some 2,none]) (mItems (mSl (mPk 0) (mPart (mK (.int 1))) mNoPart)) (gVar 1) mYes (mBin dAdd (mSl (mPk 1) mNoPart (mPart (mPk 0))) (mSl (mPk 1) (mPart (mBin dAdd (mPk 0) (mK (.int 1)))) mNoPart))) mNil))) mNext)
 (mAsg 1 (mBin dAdd (mPk 1) (mBin dRep (mBin dRep (mBin dSub (mK (.int 1)) (mBin dRep (mK (.int 2)) (mBin FB (mPk 2) (mK (.int 2))))) (mBin dix (mBin dix (mPk 0) (mK (.int 0))) (mPk 2))) (mPk 3)))))))
 (mRet (mPk 1)))))
def gP:List PyData->Option Sl:=EJ 4 b_q7 1
theorem wZ (B:Bl mg) (D_q5:Def P w K mg base 3 "_law_determinant" ["_law_rows"] (spD K kE)) (F:Fun K "_law_determinant" "_law_determinant" pE f fd):FnOk P w K mg base CX0 4 f fd ["_law_rows"] (spD K gP):=by
 have sc:=qL
 exact fnD F qL rfl rfl fun cdv A outer s H E hr=>
  (A4 (EO (G7 hr.units (DE.dp (D7 B0 DU DR B.len (AS (A1 0) B5))) (DE.dp A7)) (AC (CM A7)) CK)
  (A4 (AO 1 A7 sc.nd)
  (A4 (DJ AI (CT B.range (AS (DE.dp (D7 B0 DU DR B.len (AS (A1 0) B5))) B5)) (CA 2 sc.nd) (A4 (AO 3 A7 sc.nd)
  (A4 (EO (LI hr.units (DE.dp (BX (DE.dp (BX (A1 0) (DE.dp A7))) (A1 2))) (DE.dp A7)) (AC (AO 3 (BF D_q5 hr (A6 (EL (N':= ["_law_j","_law_row"]) (R':=PR K) BP BQ [some 2,none] (CC [some 2,none]) D8 (FM (FI (A1 0) (DV (DE.dp A7)) E1)) (fun _=>(BO 1 (show List.Nodup (α:=Str) ["_law_j","_law_row"] by decide +kernel))) (fun _=>CG) (fun _=>(BE (DE.dp (FI (A1 1) E1 (DV (A1 0)))) (DE.dp (FI (A1 1) (DV (DE.dp (BE (A1 0) (DE.dp A7)))) E1))))) AF)) sc.nd)) CK)
  (AC (AO 1 (BE (A1 1) (DE.dp (DC (DE.dp (DC (DE.dp (FZ (DE.dp A7) (DE.dp (DC (DE.dp A7) (DE.dp (EW (A1 2) (DE.dp A7))))))) (DE.dp (BX (DE.dp (BX (A1 0) (DE.dp A7))) (A1 2))))) (A1 3)))) sc.nd)))))
  (AC (E7 1)))))
def b_q9 : En -> Option Out :=
 (mSeq (mIf (mTest (mBin deq (mCallP dLen (mConsP (mPk 0) mNilP)) (mK (.int 0)))) (mRet (mK (.int 1))) mNext)
 (mSeq (mAsg 1 (mK (.int 0)))
 (mSeq (F6 (EZ (mConsP (mCallP dLen (mConsP (mPk 0) mNilP)) mNilP)) (gVar 2) (mSeq (mAsg 3 (mK (.int 0)))
 (mSeq (mIf (mTest (mBin dne (mBin dix (mBin dix (mPk 0) (mK (.int 0))) (mPk 2)) (mK (.int 0)))) (mAsg 3 (mCall gP (mCons (mLC (CC [some 2,none]) (mItems (mSl (mPk 0) (mPart (mK (.int 1))) mNoPart)) (gVar 1) mYes (mBin dAdd (mSl (mPk 1) mNoPart (mPart (mPk 0))) (mSl (mPk 1) (mPart (mBin dAdd (mPk 0) (mK (.int 1)))) mNoPart))) mNil))) mNext)
 (mAsg 1 (mBin dAdd (mPk 1) (mBin dRep (mBin dRep (mBin dSub (mK (.int 1)) (mBin dRep (mK (.int 2)) (mBin FB (mPk 2) (mK (.int 2))))) (mBin dix (mBin dix (mPk 0) (mK (.int 0))) (mPk 2))) (mPk 3)))))))
 (mRet (mPk 1)))))
def eO:List PyData->Option Sl:=EJ 4 b_q9 1
theorem xX (B:Bl mg) (D_q7:Def P w K mg base 4 "_law_determinant" ["_law_rows"] (spD K gP)) (F:Fun K "_law_determinant" "_law_determinant" lW f fd):FnOk P w K mg base CX0 5 f fd ["_law_rows"] (spD K eO):=by
 have sc:=qT
 exact fnD F qT rfl rfl fun cdv A outer s H E hr=>
  (A4 (EO (G7 hr.units (DE.dp (D7 B0 DU DR B.len (AS (A1 0) B5))) (DE.dp A7)) (AC (CM A7)) CK)
  (A4 (AO 1 A7 sc.nd)
  (A4 (DJ AI (CT B.range (AS (DE.dp (D7 B0 DU DR B.len (AS (A1 0) B5))) B5)) (CA 2 sc.nd) (A4 (AO 3 A7 sc.nd)
  (A4 (EO (LI hr.units (DE.dp (BX (DE.dp (BX (A1 0) (DE.dp A7))) (A1 2))) (DE.dp A7)) (AC (AO 3 (BF D_q7 hr (A6 (EL (N':= ["_law_j","_law_row"]) (R':=PR K) BP BQ [some 2,none] (CC [some 2,none]) D8 (FM (FI (A1 0) (DV (DE.dp A7)) E1)) (fun _=>(BO 1 (show List.Nodup (α:=Str) ["_law_j","_law_row"] by decide +kernel))) (fun _=>CG) (fun _=>(BE (DE.dp (FI (A1 1) E1 (DV (A1 0)))) (DE.dp (FI (A1 1) (DV (DE.dp (BE (A1 0) (DE.dp A7)))) E1))))) AF)) sc.nd)) CK)
  (AC (AO 1 (BE (A1 1) (DE.dp (DC (DE.dp (DC (DE.dp (FZ (DE.dp A7) (DE.dp (DC (DE.dp A7) (DE.dp (EW (A1 2) (DE.dp A7))))))) (DE.dp (BX (DE.dp (BX (A1 0) (DE.dp A7))) (A1 2))))) (A1 3)))) sc.nd)))))
  (AC (E7 1)))))
def b_q19 : En -> Option Out :=
 (mSeq (mIf (mTest (mBin deq (mCallP dLen (mConsP (mPk 0) mNilP)) (mK (.int 0)))) (mRet (mK (.int 1))) mNext)
 (mSeq (mAsg 1 (mK (.int 0)))
 (mSeq (F6 (EZ (mConsP (mCallP dLen (mConsP (mPk 0) mNilP)) mNilP)) (gVar 2) (mSeq (mAsg 3 (mK (.int 0)))
 (mSeq (mIf (mTest (mBin dne (mBin dix (mBin dix (mPk 0) (mK (.int 0))) (mPk 2)) (mK (.int 0)))) (mAsg 3 (mCall eO (mCons (mLC (CC [some 2,none]) (mItems (mSl (mPk 0) (mPart (mK (.int 1))) mNoPart)) (gVar 1) mYes (mBin dAdd (mSl (mPk 1) mNoPart (mPart (mPk 0))) (mSl (mPk 1) (mPart (mBin dAdd (mPk 0) (mK (.int 1)))) mNoPart))) mNil))) mNext)
 (mAsg 1 (mBin dAdd (mPk 1) (mBin dRep (mBin dRep (mBin dSub (mK (.int 1)) (mBin dRep (mK (.int 2)) (mBin FB (mPk 2) (mK (.int 2))))) (mBin dix (mBin dix (mPk 0) (mK (.int 0))) (mPk 2))) (mPk 3)))))))
 (mRet (mPk 1)))))
def VW:List PyData->Option Sl:=EJ 4 b_q19 1
theorem u8 (B:Bl mg) (D_q9:Def P w K mg base 5 "_law_determinant" ["_law_rows"] (spD K eO)) (F:Fun K "_law_determinant" "_law_determinant" Z5 f fd):FnOk P w K mg base CX0 6 f fd ["_law_rows"] (spD K VW):=by
 have sc:=j4
 exact fnD F j4 rfl rfl fun cdv A outer s H E hr=>
  (A4 (EO (G7 hr.units (DE.dp (D7 B0 DU DR B.len (AS (A1 0) B5))) (DE.dp A7)) (AC (CM A7)) CK)
  (A4 (AO 1 A7 sc.nd)
  (A4 (DJ AI (CT B.range (AS (DE.dp (D7 B0 DU DR B.len (AS (A1 0) B5))) B5)) (CA 2 sc.nd) (A4 (AO 3 A7 sc.nd)
  (A4 (EO (LI hr.units (DE.dp (BX (DE.dp (BX (A1 0) (DE.dp A7))) (A1 2))) (DE.dp A7)) (AC (AO 3 (BF D_q9 hr (A6 (EL (N':= ["_law_j","_law_row"]) (R':=PR K) BP BQ [some 2,none] (CC [some 2,none]) D8 (FM (FI (A1 0) (DV (DE.dp A7)) E1)) (fun _=>(BO 1 (show List.Nodup (α:=Str) ["_law_j","_law_row"] by decide +kernel))) (fun _=>CG) (fun _=>(BE (DE.dp (FI (A1 1) E1 (DV (A1 0)))) (DE.dp (FI (A1 1) (DV (DE.dp (BE (A1 0) (DE.dp A7)))) E1))))) AF)) sc.nd)) CK)
  (AC (AO 1 (BE (A1 1) (DE.dp (DC (DE.dp (DC (DE.dp (FZ (DE.dp A7) (DE.dp (DC (DE.dp A7) (DE.dp (EW (A1 2) (DE.dp A7))))))) (DE.dp (BX (DE.dp (BX (A1 0) (DE.dp A7))) (A1 2))))) (A1 3)))) sc.nd)))))
  (AC (E7 1)))))
def b_q27 : En -> Option Out :=
 (mSeq (mAsg 3 (mCall QZ (mCons (mVar 0) (mCons (mVar 1) (mCons (mVar 2) mNil)))))
 (mSeq (mAsg 4 (mLst mNil))
 (mSeq (F6 (EZ (mConsP (mCallP dLen (mConsP (mBin dix (mPk 3) (mK (.int 0))) mNilP)) mNilP)) (gVar 5) (mFrz 3 (mApp 4 (mLC (CC [some 3,some 5,none]) (EZ (mConsP (mCallP dLen (mConsP (mBin dix (mPk 3) (mK (.int 0))) mNilP)) mNilP)) (gVar 2) mYes (mCallP dSum (mConsP (mLC (CC [some 1,some 2,none]) (C6 (mVar 0)) (gVar 2) mYes (mBin dRep (mBin dix (mPk 2) (mPk 0)) (mBin dix (mPk 2) (mPk 1)))) mNilP))))))
 (mFrz 4 (mRet (mCall VW (mCons (mVar 4) mNil)))))))
def M4:List PyData->Option Sl:=EJ 6 b_q27 3
theorem rL (B:Bl mg) (D_q25:Def P w K mg base 2 "_law_table" ["_law_levels_here","_law_plan_here","_law_model"] (spD K QZ)) (D_q19:Def P w K mg base 6 "_law_determinant" ["_law_rows"] (spD K VW)) (F:Fun K "_law_worth" "_law_worth" Z0 f fd):FnOk P w K mg base CX0 7 f fd ["_law_levels_here","_law_plan_here","_law_model"] (spD K M4):=by
 have sc:=fZ
 exact fnD F fZ rfl rfl fun cdv A outer s H E hr=>
  (A4 (AO 3 (BF D_q25 hr (A6 (AH 0) (A6 (AH 1) (A6 (AH 2) AF)))) sc.nd)
  (A4 (AO 4 (C8 AF) sc.nd)
  (A4 (DJ AI (CT B.range (AS (DE.dp (D7 B0 DU DR B.len (AS (DE.dp (BX (A1 3) (DE.dp A7))) B5))) B5)) (CA 5 sc.nd) (AC (EB 3 (JQ 4 (EL (N':= ["_law_table_here","_law_i","_law_j"]) (R':=PR K) BP BQ [some 3,some 5,none] (CC [some 3,some 5,none]) D8 (CT B.range (AS (DE.dp (D7 B0 DU DR B.len (AS (DE.dp (BX (A1 3) (DE.dp A7))) B5))) B5)) (fun _=>(BO 2 (show List.Nodup (α:=Str) ["_law_table_here","_law_i","_law_j"] by decide +kernel))) (fun _=>CG) (fun _=>(D7 (VR rfl) j6 bt_sum B.sum (AS (DE.dp (EL (N':= ["_law_i","_law_j","_law_row"]) (R':=PR K) JB JJ [some 1,some 2,none] (CC [some 1,some 2,none]) D8 (EF (AH 0)) (fun _=>(BO 2 (show List.Nodup (α:=Str) ["_law_i","_law_j","_law_row"] by decide +kernel))) (fun _=>CG) (fun _=>(DC (DE.dp (BX (A1 2) (A1 0))) (DE.dp (BX (A1 2) (A1 1))))))) B5))))))))
  (AC (EB 4 (CM (BF D_q19 hr (A6 (AH 4) AF))))))))
def lE:List PyData->Option Sl:=fun _=>none
theorem xT (B:Bl mg) (F:Fun K "_law_chosen" "_law_chosen" uA f fd):FnOk P w K mg base CX0 1 f fd ["_law_some","_law_t"] (spD K lE):=hJ
def b_q2 : En -> Option Out :=
 (mSeq (mIf (mTest (mBin deq (mPk 1) (mK (.int 0)))) (mRet (mLst (mCons (mLst mNil) mNil))) mNext)
 (mSeq (mAsg 2 (mLst mNil))
 (mSeq (F6 (EZ (mConsP (mCallP dLen (mConsP (mPk 0) mNilP)) mNilP)) (gVar 3) (mAsg 2 (mBin dAdd (mPk 2) (mLC (CC [some 0,some 3,none]) (C6 (mCall lE (mCons (mSl (mPk 0) (mPart (mBin dAdd (mPk 3) (mK (.int 1)))) mNoPart) (mCons (mBin dSub (mPk 1) (mK (.int 1))) mNil)))) (gVar 2) mYes (mBin dAdd (mLst (mCons (mBin dix (mPk 0) (mPk 1)) mNil)) (mPk 2))))))
 (mRet (mPk 2)))))
def dO:List PyData->Option Sl:=EJ 4 b_q2 2
theorem x8 (B:Bl mg) (D_q0:Def P w K mg base 1 "_law_chosen" ["_law_some","_law_t"] (spD K lE)) (F:Fun K "_law_chosen" "_law_chosen" p7 f fd):FnOk P w K mg base CX0 2 f fd ["_law_some","_law_t"] (spD K dO):=by
 have sc:=qI
 exact fnD F qI rfl rfl fun cdv A outer s H E hr=>
  (A4 (EO (G7 hr.units (A1 1) (DE.dp A7)) (AC (CM (C8 (A6 (C8 AF) AF)))) CK)
  (A4 (AO 2 (C8 AF) sc.nd)
  (A4 (DJ AI (CT B.range (AS (DE.dp (D7 B0 DU DR B.len (AS (A1 0) B5))) B5)) (CA 3 sc.nd) (AC (AO 2 (BE (A1 2) (DE.dp (EL (N':= ["_law_some","_law_k","_law_rest"]) (R':=PR K) BP BQ [some 0,some 3,none] (CC [some 0,some 3,none]) D8 (EF (BF D_q0 hr (A6 (FI (A1 0) (DV (DE.dp (BE (A1 3) (DE.dp A7)))) E1) (A6 (FZ (A1 1) (DE.dp A7)) AF)))) (fun _=>(BO 2 (show List.Nodup (α:=Str) ["_law_some","_law_k","_law_rest"] by decide +kernel))) (fun _=>CG) (fun _=>(BE (DE.dp (C8 (A6 (BX (A1 0) (A1 1)) AF))) (A1 2)))))) sc.nd)))
  (AC (E7 2)))))
def b_q4 : En -> Option Out :=
 (mSeq (mIf (mTest (mBin deq (mPk 1) (mK (.int 0)))) (mRet (mLst (mCons (mLst mNil) mNil))) mNext)
 (mSeq (mAsg 2 (mLst mNil))
 (mSeq (F6 (EZ (mConsP (mCallP dLen (mConsP (mPk 0) mNilP)) mNilP)) (gVar 3) (mAsg 2 (mBin dAdd (mPk 2) (mLC (CC [some 0,some 3,none]) (C6 (mCall dO (mCons (mSl (mPk 0) (mPart (mBin dAdd (mPk 3) (mK (.int 1)))) mNoPart) (mCons (mBin dSub (mPk 1) (mK (.int 1))) mNil)))) (gVar 2) mYes (mBin dAdd (mLst (mCons (mBin dix (mPk 0) (mPk 1)) mNil)) (mPk 2))))))
 (mRet (mPk 2)))))
def kM:List PyData->Option Sl:=EJ 4 b_q4 2
theorem yL (B:Bl mg) (D_q2:Def P w K mg base 2 "_law_chosen" ["_law_some","_law_t"] (spD K dO)) (F:Fun K "_law_chosen" "_law_chosen" nJ f fd):FnOk P w K mg base CX0 3 f fd ["_law_some","_law_t"] (spD K kM):=by
 have sc:=qF
 exact fnD F qF rfl rfl fun cdv A outer s H E hr=>
  (A4 (EO (G7 hr.units (A1 1) (DE.dp A7)) (AC (CM (C8 (A6 (C8 AF) AF)))) CK)
  (A4 (AO 2 (C8 AF) sc.nd)
  (A4 (DJ AI (CT B.range (AS (DE.dp (D7 B0 DU DR B.len (AS (A1 0) B5))) B5)) (CA 3 sc.nd) (AC (AO 2 (BE (A1 2) (DE.dp (EL (N':= ["_law_some","_law_k","_law_rest"]) (R':=PR K) BP BQ [some 0,some 3,none] (CC [some 0,some 3,none]) D8 (EF (BF D_q2 hr (A6 (FI (A1 0) (DV (DE.dp (BE (A1 3) (DE.dp A7)))) E1) (A6 (FZ (A1 1) (DE.dp A7)) AF)))) (fun _=>(BO 2 (show List.Nodup (α:=Str) ["_law_some","_law_k","_law_rest"] by decide +kernel))) (fun _=>CG) (fun _=>(BE (DE.dp (C8 (A6 (BX (A1 0) (A1 1)) AF))) (A1 2)))))) sc.nd)))
  (AC (E7 2)))))
def b_q6 : En -> Option Out :=
 (mSeq (mIf (mTest (mBin deq (mPk 1) (mK (.int 0)))) (mRet (mLst (mCons (mLst mNil) mNil))) mNext)
 (mSeq (mAsg 2 (mLst mNil))
 (mSeq (F6 (EZ (mConsP (mCallP dLen (mConsP (mPk 0) mNilP)) mNilP)) (gVar 3) (mAsg 2 (mBin dAdd (mPk 2) (mLC (CC [some 0,some 3,none]) (C6 (mCall kM (mCons (mSl (mPk 0) (mPart (mBin dAdd (mPk 3) (mK (.int 1)))) mNoPart) (mCons (mBin dSub (mPk 1) (mK (.int 1))) mNil)))) (gVar 2) mYes (mBin dAdd (mLst (mCons (mBin dix (mPk 0) (mPk 1)) mNil)) (mPk 2))))))
 (mRet (mPk 2)))))
def jV:List PyData->Option Sl:=EJ 4 b_q6 2
theorem xR (B:Bl mg) (D_q4:Def P w K mg base 3 "_law_chosen" ["_law_some","_law_t"] (spD K kM)) (F:Fun K "_law_chosen" "_law_chosen" oN f fd):FnOk P w K mg base CX0 4 f fd ["_law_some","_law_t"] (spD K jV):=by
 have sc:=q5
 exact fnD F q5 rfl rfl fun cdv A outer s H E hr=>
  (A4 (EO (G7 hr.units (A1 1) (DE.dp A7)) (AC (CM (C8 (A6 (C8 AF) AF)))) CK)
  (A4 (AO 2 (C8 AF) sc.nd)
  (A4 (DJ AI (CT B.range (AS (DE.dp (D7 B0 DU DR B.len (AS (A1 0) B5))) B5)) (CA 3 sc.nd) (AC (AO 2 (BE (A1 2) (DE.dp (EL (N':= ["_law_some","_law_k","_law_rest"]) (R':=PR K) BP BQ [some 0,some 3,none] (CC [some 0,some 3,none]) D8 (EF (BF D_q4 hr (A6 (FI (A1 0) (DV (DE.dp (BE (A1 3) (DE.dp A7)))) E1) (A6 (FZ (A1 1) (DE.dp A7)) AF)))) (fun _=>(BO 2 (show List.Nodup (α:=Str) ["_law_some","_law_k","_law_rest"] by decide +kernel))) (fun _=>CG) (fun _=>(BE (DE.dp (C8 (A6 (BX (A1 0) (A1 1)) AF))) (A1 2)))))) sc.nd)))
  (AC (E7 2)))))
def b_q8 : En -> Option Out :=
 (mSeq (mIf (mTest (mBin deq (mPk 1) (mK (.int 0)))) (mRet (mLst (mCons (mLst mNil) mNil))) mNext)
 (mSeq (mAsg 2 (mLst mNil))
 (mSeq (F6 (EZ (mConsP (mCallP dLen (mConsP (mPk 0) mNilP)) mNilP)) (gVar 3) (mAsg 2 (mBin dAdd (mPk 2) (mLC (CC [some 0,some 3,none]) (C6 (mCall jV (mCons (mSl (mPk 0) (mPart (mBin dAdd (mPk 3) (mK (.int 1)))) mNoPart) (mCons (mBin dSub (mPk 1) (mK (.int 1))) mNil)))) (gVar 2) mYes (mBin dAdd (mLst (mCons (mBin dix (mPk 0) (mPk 1)) mNil)) (mPk 2))))))
 (mRet (mPk 2)))))
def jB:List PyData->Option Sl:=EJ 4 b_q8 2
theorem xF (B:Bl mg) (D_q6:Def P w K mg base 4 "_law_chosen" ["_law_some","_law_t"] (spD K jV)) (F:Fun K "_law_chosen" "_law_chosen" oE f fd):FnOk P w K mg base CX0 5 f fd ["_law_some","_law_t"] (spD K jB):=by
 have sc:=qG
 exact fnD F qG rfl rfl fun cdv A outer s H E hr=>
  (A4 (EO (G7 hr.units (A1 1) (DE.dp A7)) (AC (CM (C8 (A6 (C8 AF) AF)))) CK)
  (A4 (AO 2 (C8 AF) sc.nd)
  (A4 (DJ AI (CT B.range (AS (DE.dp (D7 B0 DU DR B.len (AS (A1 0) B5))) B5)) (CA 3 sc.nd) (AC (AO 2 (BE (A1 2) (DE.dp (EL (N':= ["_law_some","_law_k","_law_rest"]) (R':=PR K) BP BQ [some 0,some 3,none] (CC [some 0,some 3,none]) D8 (EF (BF D_q6 hr (A6 (FI (A1 0) (DV (DE.dp (BE (A1 3) (DE.dp A7)))) E1) (A6 (FZ (A1 1) (DE.dp A7)) AF)))) (fun _=>(BO 2 (show List.Nodup (α:=Str) ["_law_some","_law_k","_law_rest"] by decide +kernel))) (fun _=>CG) (fun _=>(BE (DE.dp (C8 (A6 (BX (A1 0) (A1 1)) AF))) (A1 2)))))) sc.nd)))
  (AC (E7 2)))))
def b_q10 : En -> Option Out :=
 (mSeq (mIf (mTest (mBin deq (mPk 1) (mK (.int 0)))) (mRet (mLst (mCons (mLst mNil) mNil))) mNext)
 (mSeq (mAsg 2 (mLst mNil))
 (mSeq (F6 (EZ (mConsP (mCallP dLen (mConsP (mPk 0) mNilP)) mNilP)) (gVar 3) (mAsg 2 (mBin dAdd (mPk 2) (mLC (CC [some 0,some 3,none]) (C6 (mCall jB (mCons (mSl (mPk 0) (mPart (mBin dAdd (mPk 3) (mK (.int 1)))) mNoPart) (mCons (mBin dSub (mPk 1) (mK (.int 1))) mNil)))) (gVar 2) mYes (mBin dAdd (mLst (mCons (mBin dix (mPk 0) (mPk 1)) mNil)) (mPk 2))))))
 (mRet (mPk 2)))))
def VT:List PyData->Option Sl:=EJ 4 b_q10 2
theorem tZ (B:Bl mg) (D_q8:Def P w K mg base 5 "_law_chosen" ["_law_some","_law_t"] (spD K jB)) (F:Fun K "_law_chosen" "_law_chosen" aQ f fd):FnOk P w K mg base CX0 6 f fd ["_law_some","_law_t"] (spD K VT):=by
 have sc:=iP
 exact fnD F iP rfl rfl fun cdv A outer s H E hr=>
  (A4 (EO (G7 hr.units (A1 1) (DE.dp A7)) (AC (CM (C8 (A6 (C8 AF) AF)))) CK)
  (A4 (AO 2 (C8 AF) sc.nd)
  (A4 (DJ AI (CT B.range (AS (DE.dp (D7 B0 DU DR B.len (AS (A1 0) B5))) B5)) (CA 3 sc.nd) (AC (AO 2 (BE (A1 2) (DE.dp (EL (N':= ["_law_some","_law_k","_law_rest"]) (R':=PR K) BP BQ [some 0,some 3,none] (CC [some 0,some 3,none]) D8 (EF (BF D_q8 hr (A6 (FI (A1 0) (DV (DE.dp (BE (A1 3) (DE.dp A7)))) E1) (A6 (FZ (A1 1) (DE.dp A7)) AF)))) (fun _=>(BO 2 (show List.Nodup (α:=Str) ["_law_some","_law_k","_law_rest"] by decide +kernel))) (fun _=>CG) (fun _=>(BE (DE.dp (C8 (A6 (BX (A1 0) (A1 1)) AF))) (A1 2)))))) sc.nd)))
  (AC (E7 2)))))
def b_q11 : En -> Option Out :=
 (mSeq (mIf (mTest (mBin deq (mPk 1) (mK (.int 0)))) (mRet (mLst (mCons (mLst mNil) mNil))) mNext)
 (mSeq (mAsg 2 (mLst mNil))
 (mSeq (F6 (EZ (mConsP (mCallP dLen (mConsP (mPk 0) mNilP)) mNilP)) (gVar 3) (mAsg 2 (mBin dAdd (mPk 2) (mLC (CC [some 0,some 3,none]) (C6 (mCall VT (mCons (mSl (mPk 0) (mPart (mBin dAdd (mPk 3) (mK (.int 1)))) mNoPart) (mCons (mBin dSub (mPk 1) (mK (.int 1))) mNil)))) (gVar 2) mYes (mBin dAdd (mLst (mCons (mBin dix (mPk 0) (mPk 1)) mNil)) (mPk 2))))))
 (mRet (mPk 2)))))
def VD:List PyData->Option Sl:=EJ 4 b_q11 2
theorem uU (B:Bl mg) (D_q10:Def P w K mg base 6 "_law_chosen" ["_law_some","_law_t"] (spD K VT)) (F:Fun K "_law_chosen" "_law_chosen" aJ f fd):FnOk P w K mg base CX0 7 f fd ["_law_some","_law_t"] (spD K VD):=by
 have sc:=jF
 exact fnD F jF rfl rfl fun cdv A outer s H E hr=>
  (A4 (EO (G7 hr.units (A1 1) (DE.dp A7)) (AC (CM (C8 (A6 (C8 AF) AF)))) CK)
  (A4 (AO 2 (C8 AF) sc.nd)
  (A4 (DJ AI (CT B.range (AS (DE.dp (D7 B0 DU DR B.len (AS (A1 0) B5))) B5)) (CA 3 sc.nd) (AC (AO 2 (BE (A1 2) (DE.dp (EL (N':= ["_law_some","_law_k","_law_rest"]) (R':=PR K) BP BQ [some 0,some 3,none] (CC [some 0,some 3,none]) D8 (EF (BF D_q10 hr (A6 (FI (A1 0) (DV (DE.dp (BE (A1 3) (DE.dp A7)))) E1) (A6 (FZ (A1 1) (DE.dp A7)) AF)))) (fun _=>(BO 2 (show List.Nodup (α:=Str) ["_law_some","_law_k","_law_rest"] by decide +kernel))) (fun _=>CG) (fun _=>(BE (DE.dp (C8 (A6 (BX (A1 0) (A1 1)) AF))) (A1 2)))))) sc.nd)))
  (AC (E7 2)))))
def b_q16 : En -> Option Out :=
 (mSeq (mIf (mTest (mBin deq (mPk 1) (mK (.int 0)))) (mRet (mLst (mCons (mLst mNil) mNil))) mNext)
 (mSeq (mAsg 2 (mLst mNil))
 (mSeq (F6 (EZ (mConsP (mCallP dLen (mConsP (mPk 0) mNilP)) mNilP)) (gVar 3) (mAsg 2 (mBin dAdd (mPk 2) (mLC (CC [some 0,some 3,none]) (C6 (mCall VD (mCons (mSl (mPk 0) (mPart (mBin dAdd (mPk 3) (mK (.int 1)))) mNoPart) (mCons (mBin dSub (mPk 1) (mK (.int 1))) mNil)))) (gVar 2) mYes (mBin dAdd (mLst (mCons (mBin dix (mPk 0) (mPk 1)) mNil)) (mPk 2))))))
 (mRet (mPk 2)))))
def UY:List PyData->Option Sl:=EJ 4 b_q16 2
theorem vU (B:Bl mg) (D_q11:Def P w K mg base 7 "_law_chosen" ["_law_some","_law_t"] (spD K VD)) (F:Fun K "_law_chosen" "_law_chosen" Y8 f fd):FnOk P w K mg base CX0 8 f fd ["_law_some","_law_t"] (spD K UY):=by
 have sc:=jN
 exact fnD F jN rfl rfl fun cdv A outer s H E hr=>
  (A4 (EO (G7 hr.units (A1 1) (DE.dp A7)) (AC (CM (C8 (A6 (C8 AF) AF)))) CK)
  (A4 (AO 2 (C8 AF) sc.nd)
  (A4 (DJ AI (CT B.range (AS (DE.dp (D7 B0 DU DR B.len (AS (A1 0) B5))) B5)) (CA 3 sc.nd) (AC (AO 2 (BE (A1 2) (DE.dp (EL (N':= ["_law_some","_law_k","_law_rest"]) (R':=PR K) BP BQ [some 0,some 3,none] (CC [some 0,some 3,none]) D8 (EF (BF D_q11 hr (A6 (FI (A1 0) (DV (DE.dp (BE (A1 3) (DE.dp A7)))) E1) (A6 (FZ (A1 1) (DE.dp A7)) AF)))) (fun _=>(BO 2 (show List.Nodup (α:=Str) ["_law_some","_law_k","_law_rest"] by decide +kernel))) (fun _=>CG) (fun _=>(BE (DE.dp (C8 (A6 (BX (A1 0) (A1 1)) AF))) (A1 2)))))) sc.nd)))
  (AC (E7 2)))))
def b_q24 : En -> Option Out :=
 (mSeq (mAsg 4 (mLst (mCons (mCallP dList (mConsP (mPk 0) mNilP)) (mCons (mCallP dList (mConsP (mPk 1) mNilP)) (mCons (mCallP dList (mConsP (mPk 2) mNilP)) mNil)))))
 (NH 5 (mCall U3 (mCons (mBin dix (mPk 4) (mK (.int 0))) (mCons (mBin dix (mPk 4) (mK (.int 1))) (mCons (mBin dix (mPk 4) (mK (.int 2))) (mCons (mVar 3) mNil)))))
 (X5 (mOr (mNot (mTest (mIsi "tuple" (mPk 5)))) (mOr (mTest (mBin dne (mCallP dLen (mConsP (mPk 5) mNilP)) (mK (.int 2)))) (mTest (mBin dne (mPk 4) (mLst (mCons (mVar 0) (mCons (mVar 1) (mCons (mVar 2) mNil)))))))) (mRet (mK (.bool false)))
 (R7 5 (mAsg 6 (mCall UY (mCons (mVar 1) (mCons (mVar 3) mNil))))
 (X5 (mOr (mNot (mTest (mIsi "list" (mBin dix (mPk 5) (mK (.int 0)))))) (mOr (mTest (mBin (PQ true) (mBin dix (mPk 5) (mK (.int 0))) (mPk 6))) (mNot (mTest (mCall V5 (mCons (mBin dix (mPk 5) (mK (.int 1))) mNil)))))) (mRet (mK (.bool false)))
 (X5 (mTest (mBin dne (mBin dix (mPk 5) (mK (.int 1))) (mCall M4 (mCons (mVar 0) (mCons (mBin dix (mPk 5) (mK (.int 0))) (mCons (mVar 2) mNil)))))) (mRet (mK (.bool false)))
 (R3 5
 (mSeq (mFrz 6 (mAsg 7 (mCallP dMaxLi (mConsP (mLC (CC [some 0,some 2,none]) (C6 (mVar 6)) (gVar 2) mYes (mCall M4 (mCons (mVar 0) (mCons (mVar 2) (mCons (mVar 1) mNil))))) mNilP))))
 (mRet (mAndV (mBin deq (mBin dix (mPk 5) (mK (.int 1))) (mPk 7)) (mBin deq (mBin dix (mPk 4) (mK (.int 1))) (mPk 1))))))))))))
def UV:List PyData->Option Sl:=EJ 8 b_q24 4
theorem tX (B:Bl mg) (D_q30:Def P w K mg base 11 "best" ["levels","trials","model","many"] (spA K U3)) (D_q16:Def P w K mg base 8 "_law_chosen" ["_law_some","_law_t"] (spD K UY)) (D_q26:Def P w K mg base 1 "_law_whole" ["_law_found"] (spD K V5)) (D_q27:Def P w K mg base 7 "_law_worth" ["_law_levels_here","_law_plan_here","_law_model"] (spD K M4)) (F:Fun K "_law_right" "_law_right" aC f fd):FnOk P w K mg base CX0 12 f fd ["_law_levels_here","_law_trials","_law_model","_law_many"] (spD K UV):=by
 have sc:=jQ
 exact fnD F jQ rfl rfl fun cdv A outer s H E hr=>
  (A4 (AO 4 (C8 (A6 (MI HU OG MQ B.list (AS (A1 0) B5)) (A6 (MI HU OG MQ B.list (AS (A1 1) B5)) (A6 (MI HU OG MQ B.list (AS (A1 2) B5)) AF)))) sc.nd)
  (dH 5 sc.nd D_q30 hr (A6 (BX (A1 4) (DE.dp A7)) (A6 (BX (A1 4) (DE.dp A7)) (A6 (BX (A1 4) (DE.dp A7)) (A6 (AH 3) AF))))
  (X3 (sJ (aB (SC (TM (DE.dp (S5 JK B.tuple B.isinstance (A1 5))))) (aB (LI hr.units (DE.dp (D7 B0 DU DR B.len (AS (A1 5) B5))) (DE.dp A7)) (gC (LI hr.units (A1 4) (DE.dp (C8 (A6 (AH 0) (A6 (AH 1) (A6 (AH 2) AF)))))))))) (AC (CM M8))
  (i8 (OL 6 (BF D_q16 hr (A6 (AH 1) (A6 (AH 3) AF))) sc.nd)
  (X3 (sJ (aB (SC (TM (DE.dp (S5 MQ B.list B.isinstance (DE.dp (BX (A1 5) (DE.dp A7))))))) (aB (NF hr.units (DE.dp (BX (A1 5) (DE.dp A7))) (A1 6)) (gC (SC (TM (DE.dp (BF D_q26 hr (A6 (BX (A1 5) (DE.dp A7)) AF))))))))) (AC (CM M8))
  (X3 (LI hr.units (DE.dp (BX (A1 5) (DE.dp A7))) (DE.dp (BF D_q27 hr (A6 (AH 0) (A6 (BX (A1 5) (DE.dp A7)) (A6 (AH 2) AF)))))) (AC (CM M8))
  (oC 5
  (A4 (EB 6 (AO 7 (D7 (X1 rfl) dJ kQ B.max (AS (DE.dp (EL (N':= ["_law_levels_here","_law_model","_law_plan_here"]) (R':=PR K) BP BQ [some 0,some 2,none] (CC [some 0,some 2,none]) D8 (EF (AH 6)) (fun _=>(BO 2 (show List.Nodup (α:=Str) ["_law_levels_here","_law_model","_law_plan_here"] by decide +kernel))) (fun _=>CG) (fun _=>(BF D_q27 hr (A6 (AH 0) (A6 (AH 2) (A6 (AH 1) AF))))))) B5)) sc.nd))
  (AC (CM (eV (kF hr.units (DE.dp (BX (A1 5) (DE.dp A7))) (A1 7)) (YA (kF hr.units (DE.dp (BX (A1 4) (DE.dp A7))) (A1 1))))))))))))))
def b_law : En -> Option Out :=
 (mSeq (mAsg 1 (mBin dAdd (mSl (mPk 0) mNoPart (mPart (mK (.int 10)))) (mLst (mCons (mK (.int 0)) mNil))))
 (mSeq (mAsg 2 (mK (.int 0)))
 (mSeq (IX (mTest (mBin dLt (mPk 2) (mCallP dLen (mConsP (mPk 1) mNilP)))) (mSeq (mAsg 3 (mBin dix (mPk 1) (mPk 2)))
 (mSeq (mFrz 3 (mAsg 4 (mCall VN (mCons (mVar 3) (mCons (mK (.int 100)) mNil)))))
 (mSeq (mFrz 4 (mAsg 5 (mCall UE (mCons (mBin EC (mPk 3) (mK (.int 4))) (mCons (mVar 4) (mCons (mK (.int 3)) mNil))))))
 (mSeq (mAsg 6 (mBin dAdd (mK (.int 1)) (mBin FB (mBin EC (mPk 3) (mK (.int 32))) (mK (.int 5)))))
 (mSeq (mAsg 7 (mLst mNil))
 (mSeq (mFrz 4 (mFrz 3 (F6 (C6 (mCall RK (mCons (mBin dAdd (mSl (mPk 1) (mPart (mBin dAdd (mPk 2) (mK (.int 1)))) (mPart (mBin dAdd (mBin dAdd (mPk 2) (mK (.int 1))) (mPk 6)))) (mLst (mCons (mVar 3) mNil))) (mCons (mVar 4) mNil)))) (gVar 8) (mIf (mTest (mBin (PQ true) (mPk 8) (mPk 7))) (mApp 7 (mVar 8)) mNext))))
 (mSeq (mFrz 7 (mFrz 5 (mFrz 4 (mIf (mNot (mTest (mCall UV (mCons (mVar 4) (mCons (mVar 7) (mCons (mVar 5) (mCons (mBin dAdd (mK (.int 1)) (mBin FB (mBin EC (mPk 3) (mK (.int 160))) (mCallP dLen (mConsP (mPk 7) mNilP)))) mNil))))))) (mRet (mK (.bool false))) mNext))))
 (mAsg 2 (mBin dAdd (mBin dAdd (mPk 2) (mK (.int 1))) (mPk 6)))))))))))
 (mRet (mK (.bool true))))))
def qY:List PyData->Option Sl:=EJ 9 b_law 1
theorem wR (B:Bl mg) (D_q21:Def P w K mg base 2 "_law_levels" ["_law_cell","_law_most"] (spD K VN)) (D_q20:Def P w K mg base 2 "_law_effects" ["_law_cell","_law_levels_here","_law_most"] (spD K UE)) (D_q23:Def P w K mg base 2 "_law_plan" ["_law_cells","_law_levels_here"] (spD K RK)) (D_q24:Def P w K mg base 12 "_law_right" ["_law_levels_here","_law_trials","_law_model","_law_many"] (spD K UV)) (F:Fun K "law" "law" PB f fd):FnOk P w K mg base CX0 13 f fd ["_law_script"] (spD K qY):=by
 have sc:=kN
 exact fnD F kN rfl rfl fun cdv A outer s H E hr=>
  (A4 (AO 1 (BE (DE.dp (FI (A1 0) E1 (DV (DE.dp A7)))) (DE.dp (C8 (A6 A7 AF)))) sc.nd)
  (A4 (AO 2 A7 sc.nd)
  (A4 (UQ AI (W2 (A1 2) (DE.dp (D7 B0 DU DR B.len (AS (A1 1) B5)))) (A4 (AO 3 (BX (A1 1) (A1 2)) sc.nd)
  (A4 (EB 3 (AO 4 (BF D_q21 hr (A6 (AH 3) (A6 A7 AF))) sc.nd))
  (A4 (EB 4 (AO 5 (BF D_q20 hr (A6 (F0 (A1 3) (DE.dp A7)) (A6 (AH 4) (A6 A7 AF)))) sc.nd))
  (A4 (AO 6 (BE (DE.dp A7) (DE.dp (EW (DE.dp (F0 (A1 3) (DE.dp A7))) (DE.dp A7)))) sc.nd)
  (A4 (AO 7 (C8 AF) sc.nd)
  (A4 (EB 4 (EB 3 (DJ AI (EF (BF D_q23 hr (A6 (BE (DE.dp (FI (A1 1) (DV (DE.dp (BE (A1 2) (DE.dp A7)))) (DV (DE.dp (BE (DE.dp (BE (A1 2) (DE.dp A7))) (A1 6)))))) (DE.dp (C8 (A6 (AH 3) AF)))) (A6 (AH 4) AF)))) (CA 8 sc.nd) (AC (EO (NF hr.units (A1 8) (A1 7)) (AC (JQ 7 (AH 8))) CK)))))
  (A4 (EB 7 (EB 5 (EB 4 (EO (SC (TM (DE.dp (BF D_q24 hr (A6 (AH 4) (A6 (AH 7) (A6 (AH 5) (A6 (BE (DE.dp A7) (DE.dp (EW (DE.dp (F0 (A1 3) (DE.dp A7))) (DE.dp (D7 B0 DU DR B.len (AS (A1 7) B5)))))) AF)))))))) (AC (CM M8)) CK))))
  (AC (AO 2 (BE (DE.dp (BE (A1 2) (DE.dp A7))) (A1 6)) sc.nd))))))))))
  (AC (CM M8)))))
end
local macro_rules | `(tactic| walk_at "ev") => `(tactic| simp only [mSeq, mIf, mTest, mBin, mUn, mK, mPk, mVar, mAsg, mRet, mRetN, mCall, mCons, mNil, mCallP, mConsP, mNilP, mTup, mLst, mOr, mAnd, mNot, mNotV, mAndV, mOrV, mIfE, mNext, mBrk, mCt, mDrop, mApp, mSet, mFrz, frz1, mPar, mAsgT, gVar, gTupD, gsAll, mItems, mItemsT, mSl, mPart, mNoPart, mDat, Sl.dat, mYes, mIsi, tyD, isiD, iop, icmp, iun, dAddI, dSub, dAdd, dLt, dLe, dGt, dGe, deq, dne, disN, disNN, isNone, dix, dLen, dAbs, dList, dTuple, dInt, dSl, BJ, G6, CJ, LA, BN, BB, G1, G2, BS, List.length_nil, eqD_int, IW, aZ, DH, CU, r9, GW, dE, yX, reduceIte, reduceCtorEq, Bool.not_true, Bool.not_false, decide_true, decide_false])
theorem iR(a b:Int):NZ [.int a, .int b]=some (.val (.int (Int.gcd a b))):=by
 refine GC (ρ:= [some (.val (.int a)),some (.val (.int b)),none]) rfl rfl ?_;unfold b_q40
 obtain ⟨ρ',h1,⟨x,y,r,rfl,hg⟩,h3⟩:=cX (c:=mTest (mBin dne (mPk 1) (mK (.int 0)))) (b:=(mSeq (mAsg 2 (mBin FB (mPk 0) (mPk 1))) (mSeq (mAsg 0 (mVar 1)) (mFrz 2 (mAsg 1 (mVar 2))))))
  (ρ:= [some (.val (.int a)),some (.val (.int b)),none]) (fun ρ=>∃x y r,ρ = [some (.val (.int x)),some (.val (.int y)),r]/\Int.gcd x y=Int.gcd a b)
  (fun ρ=>match ρ with | [_,some (.val (.int y)),_]=>y.natAbs | _=>0) ⟨a,b,none,rfl,rfl⟩ (by
   rintro ρ ⟨x,y,r,rfl,hg⟩
   by_cases hy:y=0
   . left
     walk_at "ev"
     simp [hy]
   . right;refine ⟨by walk_at "ev";simp [hy],_,by walk_at "ev";rw [QB hy];walk_at "ev";rfl,⟨_,_,_,rfl,(gX x y).trans hg⟩,oJ hy⟩)
 refine GU h1 (IT ?_)
 have hy:y=0:=by
  revert h3
  walk_at "ev"
  simp
 subst hy
 walk_at "ev"
 congr 3
 rw [<-hg,Int.gcd_zero_right]
 split <;> omega
theorem fJ{a b:Int}(hb:b≠0)(hB:Bt 9000 b):UU [.int a, .int b]=some (.val (NP (fr a b))):=by
 refine GC (ρ:= [some (.val (.int a)),some (.val (.int b)),none]) rfl rfl ?_;unfold b_q39;have hs:=VZ (a:=a) hb;have hS:=xS (a:=a) hb hB;refine GU (F3 (CF (by walk_at "ev") (iR a b))) ?_;refine GU (ρ':= [some (.val (.int a)),some (.val (.int b)),some (.val (.int (sg a b)))]) ?_ ?_
 . walk_at "ev"
   unfold sg
   by_cases h:b<0 <;> simp [h]
 . refine IT ?_
   walk_at "ev"
   rw [WZ ⟨hs,hS⟩,WZ ⟨hs,hS⟩]
   walk_at "ev"
   rfl
open Ba in
def EA(m:Nat)(r:Nat->Int):PyData:= .list ((List.range m).map fun j=> .int (r j))
def C4(n m:Nat)(R:Ba.Mx):List PyData:=(List.range n).map fun i=>EA m (R i)
def ldD(k:Nat)(L:Nat->Nat):List PyData:=(List.range k).map fun t=> .int (L t)
def LP(n m:Nat)(R:Ba.Mx)(k:Nat)(L:Nat->Nat)(last:Int):En:= [some (.own (C4 n m R)),some (.own (ldD k L)),some (.val (.int last))]
theorem JD{α:Type}{f:Nat->α}{n i:Nat}(h:i<n):atI ((List.range n).map f) (i:Int)=some (f i):=L2.atI_nat (by rw [B8,CH h];rfl)
theorem OI{n m i:Nat}{R:Ba.Mx}(h:i<n):atI (C4 n m R) (i:Int)=some (EA m (R i)):=JD h
theorem KU{n m:Nat}{R:Ba.Mx}:(C4 n m R).length=n:=by simp [C4]
theorem TJ{k:Nat}{L:Nat->Nat}:(ldD k L).length=k:=by simp [ldD]
theorem cD{α:Type}{f:Nat->α}{n k:Nat}{x:α}:((List.range n).map f).set k x=(List.range n).map fun i=>if i=k then x else f i:=by
 refine TZ fun i=> ?_;rw [List.getElem?_set,B8,B8]
 by_cases hi:i<n
 . rw [CH hi]
   by_cases e:k=i
   . subst e;simp [hi]
   . simp [e,HZ e]
 . rw [D3 (l:=List.range n) (by simpa using hi)]
   split
   . rename_i e;subst e;simp [hi]
   . rfl
theorem ZK{n m k:Nat}{R:Ba.Mx}{r:Nat->Int}:(C4 n m R).set k (EA m r)=C4 n m (Ba.setR R k r):=by
 unfold C4;rw [cD];refine List.map_congr_left fun i _=> ?_;unfold Ba.setR
 split <;> rfl
def stP(n m k c:Nat)(R:Ba.Mx)(L:Nat->Nat)(last:Int)(z:Option Sl):En:= [none,some (.val (.int k)),some (.val (.int c)),z,some (.own (C4 n m R)),some (.own (ldD k L)),some (.val (.int last))]
theorem W6{n m k c:Nat}{R:Ba.Mx}{L:Nat->Nat}{last:Int}(hk:k<=n)(hn:n<=1000):JW (mConsP (mPk 1) (mConsP (mCallP dLen (mConsP (mPk 4) mNilP)) mNilP)) (stP n m k c R L last none)=some (FA k (n - k)):=by
 refine SO ?_ (by omega) hn;unfold stP
 walk_at "ev"
 rw [KU]
theorem XS{n m k c i:Nat}{R:Ba.Mx}{L:Nat->Nat}{last:Int}(hi:i<n)(hc:c<m):(mTest (mBin dne (mBin dix (mBin dix (mPk 4) (mPk 3)) (mPk 2)) (mK (.int 0)))) (stP n m k c R L last (some (.val (.int (i:Int)))))=some (!decide (R i c=0)):=by
 unfold stP
 walk_at "ev"
 rw [OI hi];simp only [EA,G6,BJ,Sl.dat,JD hc,eqD_int]
theorem bM {n m k c : Nat} {R : Ba.Mx} {L : Nat -> Nat} {last : Int} (hk : k <= n) (hc : c < m) (hn : n <= 1000) :
 (∃p,k<=p/\p<n/\R p c≠0/\O1 (LP n m R k L last) [.int k, .int c]=some (LP n m R k L last, .int p)) \/
 ((∀i,k<=i->i<n->R i c=0)/\O1 (LP n m R k L last) [.int k, .int c]=some (LP n m R k L last, .none)):=by
 have key:=cS (fg:=gVar 3) (gb:=mIf (mTest (mBin dne (mBin dix (mBin dix (mPk 4) (mPk 3)) (mPk 2)) (mK (.int 0)))) (mRet (mPk 3)) mNext) (lo:=k) (n:=n - k) (ρ:=stP n m k c R L last none)
  (fun i ρ=>(∃z,ρ=stP n m k c R L last z)/\∀t,t<i->R (k+t) c=0) (fun o=>∃p z,k<=p/\p<n/\R p c≠0/\o = .rt (.val (.int (p:Nat))) (stP n m k c R L last z)) ⟨⟨none,rfl⟩,fun t h=>absurd h (by omega)⟩ (by
   rintro i ρ hi ⟨⟨z,rfl⟩,hz⟩;refine ⟨stP n m k c R L last (some (.val (.int ((k:Int)+(i:Nat))))),rfl,?_⟩;have e:(k:Int)+(i:Nat)=((k+i:Nat):Int):=by omega
   rw [e];have test:=XS (k:=k) (i:=k+i) (R:=R) (L:=L) (last:=last) (show k+i<n by omega) hc
   by_cases h:R (k+i) c=0
   . left;refine ⟨stP n m k c R L last (some (.val (.int ((k+i:Nat):Int)))),LJ (b:=false) (by rw [test];simp [h]) (by rfl),⟨_,rfl⟩,fun t ht=> ?_⟩
     by_cases e2:t=i
     . subst e2;exact h
     . exact hz t (by omega)
   . right;exact ⟨.val (.int ((k+i:Nat):Int)),stP n m k c R L last (some (.val (.int ((k+i:Nat):Int)))),LJ (b:=true) (by rw [test];simp [h]) (by rfl),k+i,_,by omega,by omega,h,rfl⟩)
 rcases key with ⟨ρ',h1,⟨z,rfl⟩,h2⟩ | ⟨o,h1,p,z,hp,hpn,hr,rfl⟩
 . right;refine ⟨fun i h3 h4=>by have:=h2 (i - k) (by omega);rwa [show k+(i - k)=i by omega] at this,?_⟩;exact OK (ρ:=stP n m k c R L last none) (ρ':=stP n m k c R L last z) rfl rfl rfl (FT (N8 (W6 hk hn) h1) (kB rfl))
 . left;refine ⟨p,hp,hpn,hr,?_⟩;exact OK (ρ:=stP n m k c R L last none) (ρ':=stP n m k c R L last z) rfl rfl rfl (XW (N8 (W6 hk hn) h1))
theorem SM{n m i:Nat}{R:Ba.Mx}(h:i<n):dix (.own (C4 n m R)) (.val (.int (i:Int)))=some (.val (EA m (R i))):=by
 show (atI (C4 n m R) (i:Int)).map Sl.val=_;rw [OI h];rfl
theorem L1{m j:Nat}{r:Nat->Int}(h:j<m):dix (.val (EA m r)) (.val (.int (j:Int)))=some (.val (.int (r j))):=by
 show (atI ((List.range m).map fun j=>PyData.int (r j)) (j:Int)).map Sl.val=_;rw [JD h];rfl
theorem aF{n k:Nat}(h:k<n):ixN n (k:Int)=some k:=by
 unfold ixN;rw [if_pos (by omega),if_pos (by omega)];simp
theorem gL {n m k p t : Nat} {R : Ba.Mx} {L : Nat -> Nat} {last : Int} (hk : k < n) (hp : p < n) (hm : m <= 1000) :
 RM (LP n m R t L last) [.int k, .int p]=some (LP n m (if p=k then R else Ba.exch R k p) t L last, .none):=by
 by_cases e:p=k
 . subst e;rw [if_pos rfl];refine OK (ρ:= [none,some (.val (.int (p:Nat))),some (.val (.int (p:Nat))),none,some (.own (C4 n m R)),some (.own (ldD t L)),some (.val (.int last))]) (ρ':= [none,some (.val (.int (p:Nat))),some (.val (.int (p:Nat))),none,some (.own (C4 n m R)),some (.own (ldD t L)),some (.val (.int last))]) rfl rfl rfl ?_;unfold b_q13;refine XW (LJ (b:=true) ?_ rfl)
   walk_at "ev"
 . rw [if_neg e];refine SV (ρ:= [none,some (.val (.int (k:Nat))),some (.val (.int (p:Nat))),none,some (.own (C4 n m R)),some (.own (ldD t L)),some (.val (.int last))]) (ρ':= [none,some (.val (.int (k:Nat))),some (.val (.int (p:Nat))),some (.val (EA m fun j=> - R k j)),some (.own (C4 n m (Ba.exch R k p))),some (.own (ldD t L)),some (.val (.int last))]) rfl rfl rfl ?_;unfold b_q13;refine FT (LJ (b:=false) ?_ rfl) ?_
   . walk_at "ev"
     have:¬((p:Int)=(k:Int)):=by omega
     simp [this]
   refine FT (F3 (F2 (ds:=(List.range m).map fun j=> .int (R k j)) (es:=(List.range m).map fun j=> .int (- R k j)) ?_ ?_ ?_)) ?_
   . simp only [mItems,mBin,mPk,BN,BB,CJ,BJ,SM hk];rfl
   . rw [A9,AV];have:1000<sizeLine:=by decide
     omega
   . refine CI fun j _=> ?_;rfl
   refine FT (ρ':= [none,some (.val (.int (k:Nat))),some (.val (.int (p:Nat))),some (.own ((List.range m).map fun j=> .int (- R k j))),some (.own (C4 n m (Ba.setR R k (R p)))),some (.own (ldD t L)),some (.val (.int last))]) ?_ ?_
   . simp only [mSet,mBin,mPk,G2,G1,BN,BB,CJ,BJ,SM hp,KU,aF hk,G6,Sl.dat,ZK]
   . simp only [mFrz,frz1,mSet,mVar,mPk,G2,G1,BN,BB,CJ,BJ,KU,aF hp,G6,Sl.dat];show some (Out.nx [none,some (.val (.int (k:Nat))),some (.val (.int (p:Nat))),some (.val (EA m fun j=> - R k j)),some (.own ((C4 n m (Ba.setR R k (R p))).set p (EA m fun j=> - R k j))),some (.own (ldD t L)),some (.val (.int last))])=_;rw [ZK];rfl
theorem RJ{m:Nat}{f g:Nat->PyData}:KA ((List.range m).map f) ((List.range m).map g)=(List.range m).map fun j=> .tuple [f j,g j]:=by
 unfold KA;refine List.ext_getElem? fun i=> ?_;rw [List.getElem?_zipWith,List.getElem?_map,List.getElem?_map,List.getElem?_map]
 cases h:(List.range m)[i]? <;> rfl
theorem W1 {m c : Nat} {r l : Nat -> Int} {last : Int} (hc : c < m) (hm : m <= 1000) (hr : ∀ j, j < m -> Bt 4000 (r j)) (hl : ∀ j, j < m -> Bt 4000 (l j)) (h0 : last ≠ 0) (hB : Bt 9000 last) :
 UD [EA m r,EA m l, .int c, .int last]=some (.own ((List.range m).map fun j=> .int ((l c*r j - r c*l j).fdiv last))):=by
 have M:∀ {i j:Int},Bt 4000 i->Bt 4000 j->Q1 i j:=fun h k=> .inr (PY h k rfl);refine GC (ρ:= [some (.val (EA m r)),some (.val (EA m l)),some (.val (.int (c:Nat))),some (.val (.int last)),none,none]) rfl rfl ?_;unfold b_q32;refine GU (F3 (r:= .val (.int (l c))) ?_) ?_
 . simp only [mBin,mPk,BN,BB,CJ,BJ,L1 hc]
 refine GU (F3 (r:= .val (.int (r c))) ?_) ?_
 . simp only [mBin,mPk,G2,G1,BN,BB,CJ,BJ,L1 hc]
 refine IT (F2 (ds:=(List.range m).map fun j=> .tuple [.int (r j), .int (l j)]) ?_ ?_ ?_)
 . rw [<-RJ];rfl
 . rw [A9,AV];have:1000<sizeLine:=by decide
   omega
 . refine CI fun j hj=> ?_;have hj:=List.mem_range.mp hj;show elM _ _ _ [some (.val (.int (l c))),some (.val (.int (r c))),some (.val (.int last)),none,none] _=_;unfold elM
   walk_at "ev"
   rw [ID (M (hl c hc) (hr j hj)),ID (M (hr c hc) (hl j hj))]
   walk_at "ev"
   rw [WZ ⟨h0,hB⟩]
   walk_at "ev"
theorem P3{f:Nat->PyData}{n k:Nat}(h:k<=n):GZ ((List.range n).map f) (some (k:Int)) none=(List.range (n - k)).map fun i=>f (k+i):=by
 unfold GZ;rw [HT.sIx_none,HT.sIx_nat,List.length_map,List.length_range,Nat.min_eq_left h];refine List.ext_getElem? fun i=> ?_;rw [List.getElem?_take,List.getElem?_drop,List.getElem?_map,List.getElem?_map]
 by_cases hi:i<n - k
 . rw [CQ hi,CH hi,CH (show k+i<n by omega)];rfl
 . rw [C9 hi,D3 (l:=List.range (n - k)) (by simpa using hi)];rfl
theorem VY{f:Nat->PyData}{n k:Nat}(h:k<=n):GZ ((List.range n).map f) none (some (k:Int))=(List.range k).map f:=by
 unfold GZ;rw [HT.sIx_none,HT.sIx_nat,List.length_map,List.length_range,Nat.min_eq_left h,List.drop_zero,Nat.sub_zero];refine List.ext_getElem? fun i=> ?_;rw [List.getElem?_take,List.getElem?_map,List.getElem?_map]
 by_cases hi:i<k
 . rw [CQ hi,CH hi,CH (show i<n by omega)]
 . rw [C9 hi,D3 (l:=List.range k) (by simpa using hi)];rfl
theorem QM{f g:Nat->PyData}{n k:Nat}(h:k<=n):(List.range k).map f++(List.range (n - k)).map (fun i=>g (k+i))=(List.range n).map fun i=>if i<k then f i else g i:=by
 refine TZ fun i=> ?_;rw [B8]
 by_cases hi:i<k
 . rw [AG (by simpa using hi),B8,CH hi,CH (show i<n by omega)];simp [hi]
 . rw [AB (by simpa using hi),B8,A9,AV]
   by_cases h2:i<n
   . rw [CH h2,CH (show i - k<n - k by omega)];simp only [G6,C9 hi,show k+(i - k)=i by omega]
   . rw [D3 (l:=List.range (n - k)) (by simp;omega),D3 (l:=List.range n) (by simp;omega)];rfl
theorem lG{k c:Nat}{L:Nat->Nat}:ldD k L ++ [.int (c:Int)]=ldD (k+1) (fun t=>if t=k then c else L t):=by
 unfold ldD;rw [List.range_succ,List.map_append];congr 1
 . refine F8 fun t ht=> ?_;have:=BZ.mp ht;show _=PyData.int ((if t=k then c else L t:Nat):Int);rw [C9 (by omega)]
 . simp
theorem pU{x:Int}{Y n:Nat}(h:x.natAbs<=(32*Y) ^ n)(hY:(32*Y) ^ n<2 ^ 4000):Bt 4000 x:=DZ h hY
def LD(R:Ba.Mx)(k c:Nat)(last:Int):Ba.Mx:=fun i j=>if i<k+1 then R i j else (Ba.clr R k c i j).fdiv last
theorem gM {n m Y k c : Nat} {A R B : Ba.Mx} {L : Nat -> Nat} {last : Int} (I : Ba.BI n m A R k L last c B) (hc : c < m) (hn : n <= 32) (hm : m <= 1000) (hY1 : 1 <= Y) (hY : (32 * Y) ^ n < 2 ^ 4000) (hA : ∀ i, i < n -> ∀ j, j < m -> (A i j).natAbs <= Y) :
 ∃R' k' L' last' B',Ba.BI n m A R' k' L' last' (c+1) B'/\Q2 (LP n m R k L last) [.int c]=some (LP n m R' k' L' last', .none):=by
 have sl:3000<sizeLine:=by decide
 rcases bM (L:=L) (last:=last) (R:=R) I.kn hc (show n<=1000 by omega) with ⟨p,hkp,hpn,hR,pl⟩ | ⟨hz,pl⟩
 . have hk:k<n:=by omega
   obtain ⟨R1,hR1,B1,I1,hl⟩:∃R1,R1=(if p=k then R else Ba.exch R k p)/\∃B1,Ba.BI n m A R1 k L last c B1/\R1 k c≠0:=by
    by_cases e:p=k
    . subst e;exact ⟨R,by rw [CQ rfl],B,I,hR⟩
    . exact ⟨Ba.exch R k p,by rw [C9 e],_,I.exch (by omega) hpn,by rw [Ba.exch_r (HZ e)];exact hR⟩
   have ex:=gL (t:=k) (R:=R) (L:=L) (last:=last) hk hpn hm;rw [<-hR1] at ex
   obtain ⟨bR,bl⟩:=I1.bound hn hY1 hA;have BR:∀i,i<n->∀j,j<m->Bt 4000 (R1 i j):=fun i hi j hj=>pU (bR i hi j hj) hY;have Bl:Bt 9000 last:=(pU bl hY).mono (by decide)
   have st2:Ba.BI n m A (LD R1 k c last) (k+1) (fun t=>if t=k then c else L t) (R1 k c) (c+1) B1:=by
    refine I1.step hc hk hl (fun i hi j hj=> ?_) (fun i h1 h2 j hj=> ?_)
    . unfold LD;rw [if_pos (by omega)]
    . unfold LD;rw [if_neg (by omega)];have:=(I1.exact hc hk hl h1 h2).2 j hj;rw [this];rw [Int.mul_fdiv_cancel_left _ I1.nz]
   refine ⟨LD R1 k c last,k+1,fun t=>if t=k then c else L t,R1 k c,B1,st2,?_⟩
   have mat2:(List.range (k+1)).map (fun i=>EA m (R1 i))++(List.range (n - (k+1))).map (fun i=>EA m fun j=>(Ba.clr R1 k c (k+1+i) j).fdiv last)=C4 n m (LD R1 k c last):=by
    rw [QM (g:=fun i=>EA m fun j=>(Ba.clr R1 k c i j).fdiv last) (show k+1<=n by omega)];unfold C4;refine List.map_congr_left fun i _=> ?_
    by_cases hi:i<k+1
    . rw [if_pos hi];unfold LD EA;simp only [if_pos hi]
    . rw [if_neg hi];unfold LD EA;simp only [if_neg hi]
   refine SV (ρ:= [none,some (.val (.int (c:Nat))),none,none,none,none,some (.own (C4 n m R)),some (.own (ldD k L)),some (.val (.int last))])
    (ρ':= [none,some (.val (.int (c:Nat))),some (.val (.int (k:Nat))),some (.val (.int (p:Nat))),some (.val (EA m (R1 k))),some (.own ((List.range (n - (k+1))).map fun i=>EA m fun j=>(Ba.clr R1 k c (k+1+i) j).fdiv last)),some (.own (C4 n m (LD R1 k c last))),some (.own (ldD (k+1) (fun t=>if t=k then c else L t))),some (.val (.int (R1 k c)))]) rfl rfl rfl ?_
   unfold b_q15;refine FT (ρ':= [none,some (.val (.int (c:Nat))),some (.val (.int (k:Nat))),none,none,none,some (.own (C4 n m R)),some (.own (ldD k L)),some (.val (.int last))]) ?_ ?_
   . walk_at "ev"
     rw [TJ]
   refine FT (ρ':= [none,some (.val (.int (c:Nat))),some (.val (.int (k:Nat))),some (.val (.int (p:Nat))),none,none,some (.own (C4 n m R)),some (.own (ldD k L)),some (.val (.int last))]) ?_ ?_
   . show IQ 6 _ _ _ [none,some (.val (.int (c:Nat))),some (.val (.int (k:Nat))),none,none,none,some (.own (C4 n m R)),some (.own (ldD k L)),some (.val (.int last))]=_;unfold IQ
     walk_at "ev"
     show Option.bind (O1 (LP n m R k L last) [.int (k:Nat), .int (c:Nat)]) _=_;rw [pl];rfl
   refine FT (LJ (b:=false) (by walk_at "ev") rfl) ?_;refine FT (ρ':= [none,some (.val (.int (c:Nat))),some (.val (.int (k:Nat))),some (.val (.int (p:Nat))),none,none,some (.own (C4 n m R1)),some (.own (ldD k L)),some (.val (.int last))]) ?_ ?_
   . simp only [mFrz,frz1,List.getElem?_cons_zero,List.getElem?_cons_succ,Option.join_some];unfold IQ
     walk_at "ev"
     show Option.bind (RM (LP n m R k L last) [.int (k:Nat), .int (p:Nat)]) _=_;rw [ex];rfl
   refine FT (F3 (r:= .val (EA m (R1 k))) ?_) ?_
   . simp only [mBin,mPk,BN,BB,CJ,BJ,SM hk]
   refine FT (ρ':= [none,some (.val (.int (c:Nat))),some (.val (.int (k:Nat))),some (.val (.int (p:Nat))),some (.val (EA m (R1 k))),some (.own ((List.range (n - (k+1))).map fun i=>EA m fun j=>(Ba.clr R1 k c (k+1+i) j).fdiv last)),some (.own (C4 n m R1)),some (.own (ldD k L)),some (.val (.int last))]) ?_ ?_
   . show mAsg 5 _ [none,some (.val (.int (c:Nat))),some (.val (.int (k:Nat))),some (.val (.int (p:Nat))),some (.val (EA m (R1 k))),none,some (.own (C4 n m R1)),some (.own (ldD k L)),some (.val (.int last))]=_;refine F3 (F2 (ds:=(List.range (n - (k+1))).map fun i=>EA m (R1 (k+1+i))) ?_ ?_ ?_)
     . walk_at "ev"
       rw [show ((k:Int)+1)=((k+1:Nat):Int) from rfl];unfold C4;rw [P3 (f:=fun i=>EA m (R1 i)) (by omega)]
     . rw [A9,AV];omega
     . refine CI fun i hi=> ?_;have hi:=List.mem_range.mp hi;show elM _ _ _ [some (.val (EA m (R1 k))),some (.val (.int (c:Nat))),none,none,some (.own (C4 n m R1)),some (.own (ldD k L)),some (.val (.int last))] _=_;unfold elM
       walk_at "ev"
       rw [W1 hc hm (fun j hj=>BR _ (by omega) j hj) (fun j hj=>BR k hk j hj) I1.nz Bl];rfl
   refine FT (F3 (r:= .own (C4 n m (LD R1 k c last))) ?_) ?_
   . walk_at "ev"
     rw [show ((k:Int)+1)=((k+1:Nat):Int) from rfl];show (if ((GZ (C4 n m R1) none (some ((k+1:Nat):Int))).length+_)<=_ then some (Sl.own (GZ (C4 n m R1) none (some ((k+1:Nat):Int))++_)) else none)=_;have c2:GZ (C4 n m R1) none (some ((k+1:Nat):Int))=(List.range (k+1)).map fun i=>EA m (R1 i):=VY (by omega);rw [c2,mat2,CQ];rw [A9,A9,AV,AV];omega
   refine FT (ρ':= [none,some (.val (.int (c:Nat))),some (.val (.int (k:Nat))),some (.val (.int (p:Nat))),some (.val (EA m (R1 k))),some (.own ((List.range (n - (k+1))).map fun i=>EA m fun j=>(Ba.clr R1 k c (k+1+i) j).fdiv last)),some (.own (C4 n m (LD R1 k c last))),some (.own (ldD (k+1) (fun t=>if t=k then c else L t))),some (.val (.int last))]) ?_ ?_
   . walk_at "ev"
     rw [CQ (by rw [TJ];omega),lG]
   . refine F3 ?_;simp only [mBin,mPk,BN,BB,CJ,BJ,L1 hc]
 . refine ⟨R,k,L,last,B,I.none hc hz,?_⟩
   refine OK (ρ:= [none,some (.val (.int (c:Nat))),none,none,none,none,some (.own (C4 n m R)),some (.own (ldD k L)),some (.val (.int last))])
    (ρ':= [none,some (.val (.int (c:Nat))),some (.val (.int (k:Nat))),some (.val .none),none,none,some (.own (C4 n m R)),some (.own (ldD k L)),some (.val (.int last))]) rfl rfl rfl ?_
   unfold b_q15;refine FT (ρ':= [none,some (.val (.int (c:Nat))),some (.val (.int (k:Nat))),none,none,none,some (.own (C4 n m R)),some (.own (ldD k L)),some (.val (.int last))]) ?_ ?_
   . walk_at "ev"
     rw [TJ]
   refine FT (ρ':= [none,some (.val (.int (c:Nat))),some (.val (.int (k:Nat))),some (.val .none),none,none,some (.own (C4 n m R)),some (.own (ldD k L)),some (.val (.int last))]) ?_ ?_
   . show IQ 6 _ _ _ [none,some (.val (.int (c:Nat))),some (.val (.int (k:Nat))),none,none,none,some (.own (C4 n m R)),some (.own (ldD k L)),some (.val (.int last))]=_;unfold IQ
     walk_at "ev"
     show Option.bind (O1 (LP n m R k L last) [.int (k:Nat), .int (c:Nat)]) _=_;rw [pl];rfl
   exact XW (LJ (b:=true) (by walk_at "ev") rfl)
theorem e9 {n m Y : Nat} {A : Ba.Mx} (h1 : 1 <= n) (hn : n <= 32) (hm : m <= 1000) (hY1 : 1 <= Y) (hY : (32 * Y) ^ n < 2 ^ 4000) (hA : ∀ i, i < n -> ∀ j, j < m -> (A i j).natAbs <= Y) :
 ∃R k L last B,Ba.BI n m A R k L last m B/\PM [none,none,none] [.list (C4 n m A)]=some (LP n m R k L last, .none):=by
 obtain ⟨ρ',hf,z,R,k,L,last,B,rfl,I⟩:=WT (fg:=gVar 2) (gb:=IQ 3 Q2 (mCons (mVar 2) mNil) fun ρ _=>some (.nx ρ)) (lo:=0) (n:=m)
  (ρ:= [none,some (.val (.list (C4 n m A))),none,some (.own (C4 n m A)),some (.own (ldD 0 fun _=>0)),some (.val (.int 1))])
  (fun c ρ=>∃z R k L last B,ρ = [none,some (.val (.list (C4 n m A))),z,some (.own (C4 n m R)),some (.own (ldD k L)),some (.val (.int last))]/\Ba.BI n m A R k L last c B)
  ⟨none,A,0,fun _=>0,1,A,rfl,Ba.BI.start A⟩ (by
   rintro c ρ hc ⟨z,R,k,L,last,B,rfl,I⟩;obtain ⟨R',k',L',last',B',I',hs⟩:=gM I hc hn hm hY1 hY hA;refine ⟨_,rfl,[none,some (.val (.list (C4 n m A))),some (.val (.int (c:Nat))),some (.own (C4 n m R')),some (.own (ldD k' L')),some (.val (.int last'))], .inl ?_,_,R',k',L',last',B',rfl,I'⟩;rw [show (0:Int)+(c:Nat)=((c:Nat):Int) from Int.zero_add _];unfold IQ
   walk_at "ev"
   show Option.bind (Q2 (LP n m R k L last) [.int (c:Nat)]) _=_;rw [hs];rfl)
 refine ⟨R,k,L,last,B,I,?_⟩;refine SV (ρ:= [none,some (.val (.list (C4 n m A))),none,none,none,none]) (ρ':= [none,some (.val (.list (C4 n m A))),z,some (.own (C4 n m R)),some (.own (ldD k L)),some (.val (.int last))]) rfl rfl rfl ?_;unfold b_q12;refine FT (F3 (r:= .own (C4 n m A)) rfl) (FT (F3 (r:= .own []) rfl) (FT (F3 (r:= .val (.int 1)) rfl) (N8 (GQ (j:=m) ?_ hm) hf)));show mConsP (mCallP dLen (mConsP (mBin dix (mPk 1) (mK (.int 0))) mNilP)) mNilP [none,some (.val (.list (C4 n m A))),none,some (.own (C4 n m A)),some (.own []),some (.val (.int 1))]=_
 have e:dix (.val (.list (C4 n m A))) (.val (.int 0))=some (.val (EA m (A 0))):=by
  show (atI (C4 n m A) ((0:Nat):Int)).map Sl.val=_;rw [OI (by omega)];rfl
 simp only [mConsP,mNilP,mCallP,mBin,mPk,mK,BN,BB,CJ,BJ,e,dLen,Sl.dat,EA,A9,AV]
abbrev Tb:=Nat->Nat->Int×Int
def frD(m:Nat)(r:Nat->Int×Int):PyData:= .list ((List.range m).map fun j=>NP (r j))
def L5(n m:Nat)(t:Tb):PyData:= .list ((List.range n).map fun i=>frD m (t i))
def cbN(r:Nat->Int×Int):Nat->Int
 | 0=>1
 | j+1=>(cbN r j).fdiv (Int.gcd (cbN r j) (r j).2)*(r j).2
theorem OY{r:Nat->Int×Int}{D:Nat}:∀ {m:Nat},(∀j,j<m->0<(r j).2/\(r j).2.natAbs<=D)->0<cbN r m/\(cbN r m).natAbs<=D ^ m/\∀j,j<m->(r j).2 ∣ cbN r m
 | 0,_=>⟨show (0:Int)<1 by decide,by simp [cbN],fun j h=>absurd h (by omega)⟩
 | m+1,h=>by
  obtain ⟨h1,h2,h3⟩:=OY (m:=m) fun j hj=>h j (by omega);obtain ⟨h4,h5⟩:=h m (by omega);have hg:0<Int.gcd (cbN r m) (r m).2:=Int.gcd_pos_iff.mpr (.inl (by omega));have hd1:=Int.gcd_dvd_left (cbN r m) (r m).2;have hd2:=TW (cbN r m) (r m).2;have e0:cbN r (m+1)=(cbN r m).fdiv (Int.gcd (cbN r m) (r m).2)*(r m).2:=rfl;generalize Int.gcd (cbN r m) (r m).2=g at *
  generalize cbN r m=c at *
  obtain ⟨x,rfl⟩:=hd1;obtain ⟨y,hy⟩:=hd2;have gp:(0:Int)<(g:Int):=by omega
  have e:cbN r (m+1)=x*(r m).2:=by rw [e0,Int.mul_fdiv_cancel_left _ (by omega)]
  have xp:0<x:=by
   rcases (by omega:0<x\/x<=0) with p | p
   . exact p
   . have:=Int.mul_nonpos_of_nonneg_of_nonpos (N5 gp) p;omega
  have xle:x.natAbs<=((g:Int)*x).natAbs:=by
   rw [FF];exact rF _ (by omega)
  refine ⟨by rw [e];exact Int.mul_pos xp h4,?_,fun j hj=> ?_⟩
  . rw [e,FF,K9];exact EY (BH xle h2) h5
  . rw [e]
    by_cases q:j=m
    . subst q;exact Int.dvd_mul_left _ _
    . have a:=h3 j (by omega)
      have b:(g:Int)*x ∣ x*(r m).2:=by
       rw [hy];exact ⟨y,by rw [K7 (g:Int) x,HI]⟩
      exact Int.dvd_trans a b
def whN(m:Nat)(r:Nat->Int×Int)(j:Nat):Int:=(r j).1*(cbN r m).fdiv (r j).2
theorem fF(q:Int×Int):dix (.val (NP q)) (.val (.int 0))=some (.val (.int q.1)):=rfl
theorem dS(q:Int×Int):dix (.val (NP q)) (.val (.int 1))=some (.val (.int q.2)):=rfl
theorem eJ{m D:Nat}{r:Nat->Int×Int}(h:∀j,j<m->0<(r j).2/\(r j).2.natAbs<=D)(hD:D ^ m<2 ^ 4000)(hD1:1<=D)(hD2:D<2 ^ 4000):O7 [frD m r]=some (.val (.int (cbN r m))):=by
 obtain ⟨ρ',hf,z,rfl⟩:=ND (fg:=gVar 2) (gb:=(mFrz 1 (mAsg 1 (mBin dRep (mBin EC (mPk 1) (mCall NZ (mCons (mVar 1) (mCons (mBin dix (mPk 2) (mK (.int 1))) mNil)))) (mBin dix (mPk 2) (mK (.int 1)))))))
  (ds:=(List.range m).map fun j=>NP (r j)) (ρ:= [some (.val (frD m r)),some (.val (.int 1)),none]) (fun i ρ=>∃z,ρ = [some (.val (frD m r)),some (.val (.int (cbN r i))),z]) ⟨none,rfl⟩ (by
   rintro i d ρ hd ⟨z,rfl⟩;rw [B8] at hd
   by_cases hi:i<m
   . rw [CH hi] at hd
     cases hd
     obtain ⟨c1,c2,c3⟩:=OY (r:=r) (D:=D) (m:=i) fun j hj=>h j (by omega);obtain ⟨h4,h5⟩:=h i hi;have b1:Bt 4000 (cbN r i):=DZ (BH c2 (DY hD1 (by omega))) hD;have b2:Bt 4000 (r i).2:=DZ h5 hD2;have hg:0<Int.gcd (cbN r i) (r i).2:=Int.gcd_pos_iff.mpr (.inl (by omega))
     have b3:Bt 4000 ((Int.gcd (cbN r i) (r i).2:Nat):Int):=by
      refine b2.of_le ?_;have:=FH.mpr (TW (cbN r i) (r i).2);exact Nat.le_of_dvd (by omega) (by simpa using this)
     refine ⟨_,rfl,[some (.val (frD m r)),some (.val (.int (cbN r (i+1)))),some (.val (NP (r i)))], .inl ?_,_,rfl⟩;simp only [mFrz,frz1,mAsg,mBin,mPk,mVar,mK,mCall,mCons,mNil,G2,G1,BN,BB,CJ,BJ,dS,Sl.dat,iR];rw [WZ ⟨by omega,b3.mono (by decide)⟩];simp only [BJ];rw [ID (.inr (PY (n:=4000) (m:=4000) b1.fdiv b2 rfl))];rfl
   . rw [D3 (l:=List.range m) (by simpa using hi)] at hd;cases hd)
 rw [A9,AV] at hf
 refine GC (ρ:= [some (.val (frD m r)),none,none]) rfl rfl ?_;unfold b_q35;refine GU (F3 (r:= .val (.int 1)) rfl) (GU (N8 (ds:=(List.range m).map fun j=>NP (r j)) rfl hf) (IT rfl))
theorem tI{m D:Nat}{r:Nat->Int×Int}(h:∀j,j<m->0<(r j).2/\(r j).2.natAbs<=D)(hT:∀j,j<m->Bt 4000 (r j).1)(hm:m<=1000)(hD:D ^ m<2 ^ 4000)(hD1:1<=D)(hD2:D<2 ^ 4000):RD [frD m r]=some (.own ((List.range m).map fun j=> .int (whN m r j))):=by
 obtain ⟨c1,c2,c3⟩:=OY (r:=r) (D:=D) (m:=m) h;refine GC (ρ:= [some (.val (frD m r)),none]) rfl rfl ?_;unfold b_q50;refine GU (F3 (CF (ds:= [frD m r]) rfl (eJ h hD hD1 hD2))) (IT (F2 (ds:=(List.range m).map fun j=>NP (r j)) rfl ?_ ?_))
 . rw [A9,AV];have:1000<sizeLine:=by decide
   omega
 . refine CI fun j hj=> ?_;have hj:=List.mem_range.mp hj;show elM _ _ _ [some (.val (.int (cbN r m))),none] _=_;unfold elM;obtain ⟨h4,h5⟩:=h j hj;have b1:Bt 4000 (cbN r m):=Nat.lt_of_le_of_lt c2 hD;have b2:Bt 4000 (r j).2:=Nat.lt_of_le_of_lt h5 hD2;simp only [gVar,mYes,mBin,mPk,mK,List.set_cons_succ,List.set_cons_zero,List.getElem?_cons_zero,List.getElem?_cons_succ,Option.join_some,Option.bind_some,fF,dS];rw [WZ ⟨by omega,b2.mono (by decide)⟩];simp only [Option.bind_some];rw [ID (.inr (PY (n:=4000) (m:=4000) (hT j hj) b1.fdiv rfl))];rfl
theorem kI{a b:Int}(hb:0<b):(a.fdiv b).natAbs<=a.natAbs:=by
 rw [KC a (N5 hb)];exact kR a b
def W(m:Nat)(t:Tb):Ba.Mx:=fun i=>whN m (t i)
structure TabOk (n m D T:Nat) (t:Tb):Prop where
 n1:1<=n
 n32:n<=32
 m1000:m<=1000
 D1:1<=D
 T1:1<=T
 bot:∀i,i<n->∀j,j<m->0<(t i j).2/\(t i j).2.natAbs<=D
 top:∀i,i<n->∀j,j<m->(t i j).1.natAbs<=T
 size:(32*(T*D ^ m)) ^ n<2 ^ 4000
theorem TabOk.TD{n m D T:Nat}{t:Tb}(k:TabOk n m D T t):T*D ^ m<2 ^ 4000:=by
 refine DZ ?_ k.size;have p:1<=T*D ^ m:=Nat.mul_pos k.T1 (J9 k.D1)
 calc T*D ^ m<=32*(T*D ^ m):=by omega
  _=(32*(T*D ^ m)) ^ 1:=(Nat.pow_one _).symm
  _<=_:=DY (by omega) k.n1
theorem TabOk.Dm{n m D T:Nat}{t:Tb}(k:TabOk n m D T t):D ^ m<2 ^ 4000:=DZ (rF _ k.T1) k.TD
theorem TabOk.Tl{n m D T:Nat}{t:Tb}(k:TabOk n m D T t):T<2 ^ 4000:=DZ (pT _ (J9 k.D1)) k.TD
theorem TabOk.Dl{n m D T:Nat}{t:Tb}(k:TabOk n m D T t)(hm:1<=m):D<2 ^ 4000:=by
 refine DZ ?_ k.Dm
 calc D=D ^ 1:=(Nat.pow_one _).symm
  _<=_:=DY k.D1 hm
theorem TabOk.Wb{n m D T:Nat}{t:Tb}(k:TabOk n m D T t):∀i,i<n->∀j,j<m->(W m t i j).natAbs<=T*D ^ m:=by
 intro i hi j hj;obtain ⟨c1,c2,_⟩:=OY (r:=t i) (D:=D) (m:=m) fun j hj=>k.bot i hi j hj;show ((t i j).1*(cbN (t i) m).fdiv (t i j).2).natAbs<=_;rw [FF];exact EY (k.top i hi j hj) (BH (kI (k.bot i hi j hj).1) c2)
theorem tJ{n m D T:Nat}{t:Tb}(k:TabOk n m D T t)(hm1:1<=m):∃R l L last B,Ba.BI n m (W m t) R l L last m B/\P5 [L5 n m t]=some (LP n m R l L last):=by
 have hY1:1<=T*D ^ m:=Nat.mul_pos k.T1 (Nat.pow_pos k.D1);obtain ⟨R,l,L,last,B,I,hi⟩:=e9 (A:=W m t) k.n1 k.n32 k.m1000 hY1 k.size k.Wb;refine ⟨R,l,L,last,B,I,?_⟩;unfold P5 iQ;rw [if_pos (show [L5 n m t].length=1 from rfl)]
 have lc:(mLC (CC [none]) (mItems (mVar 0)) (gVar 0) mYes (mCall RD (mCons (mVar 0) mNil))) [some (.val (L5 n m t))]=some (.own (C4 n m (W m t))):=by
  refine F2 (ds:=(List.range n).map fun i=>frD m (t i)) rfl ?_ ?_
  . rw [A9,AV];have:1000<sizeLine:=by decide
    have:=k.n32;omega
  . refine CI fun i hi=> ?_;have hi:=List.mem_range.mp hi;show elM _ _ _ [none] _=_;unfold elM;simp only [gVar,mYes,mCall,mCons,mNil,mVar,List.set_cons_zero,List.getElem?_cons_zero,Option.join_some,Option.bind_some,Sl.dat,tI (k.bot i hi) (fun j hj=>Nat.lt_of_le_of_lt (k.top i hi j hj) k.Tl) k.m1000 k.Dm k.D1 (k.Dl hm1)];rfl
 show W9 3 PM _ [some (.val (L5 n m t))]=_;unfold W9;simp only [mCons,mNil,lc,Option.bind_some,Sl.dat];show Option.bind (PM [none,none,none] [.list (C4 n m (W m t))]) _=_;rw [hi];rfl
def prodN:Nat->(Nat->Int)->Int
 | 0,_=>1
 | n+1,f=>prodN n f*f n
theorem UF{f:Nat->Int}:∀ {n:Nat},(∀i,i<n->0<f i)->0<prodN n f
 | 0,_=>show (0:Int)<1 by decide
 | n+1,h=>Int.mul_pos (UF fun i hi=>h i (by omega)) (h n (by omega))
theorem U9{f:Nat->Int}{X:Nat}:∀ {n:Nat},(∀i,i<n->(f i).natAbs<=X)->(prodN n f).natAbs<=X ^ n
 | 0,_=>by simp [prodN]
 | n+1,h=>by
  rw [prodN,FF,K9];exact EY (U9 fun i hi=>h i (by omega)) (h n (by omega))
theorem jT{n s:Nat}{fo:En->Option En}{g:En->Option Out}{ρ φ:En}{r:Sl}(hl:ρ.length=n)(h:fo ρ=some φ)(k:Rts g (ρ.set s none++φ) r):Rts (bY n s fo g) ρ r:=by
 obtain ⟨ρ',k⟩:=k;refine ⟨List.replicate ρ.length none,?_⟩;unfold bY;rw [if_pos hl,h];simp only [Option.bind_some,k]
theorem pP{n D T:Nat}{t:Tb}(k:TabOk n n D T t)(hP:(D ^ n) ^ n<2 ^ 8000):∃q:Int×Int,VE [L5 n n t]=some (.val (NP q))/\0<q.2/\Int.gcd q.1 q.2=1/\q.1*prodN n (fun i=>cbN (t i) n)=Ba.det n (W n t)*q.2:=by
 obtain ⟨R,l,L,last,B,I,hs⟩:=tJ k k.n1
 have call:(P4 P5 (mCons (mVar 0) mNil)) [some (.val (L5 n n t)),none,none,none]=some (LP n n R l L last):=by
  simp only [P4,mCons,mNil,mVar,BN,CJ,BJ,Sl.dat,hs]
 have test:(mTest (mBin dLt (mCallP dLen (mConsP (mPk 5) mNilP)) (mCallP dLen (mConsP (mPk 0) mNilP)))) [some (.val (L5 n n t)),none,none,none,some (.own (C4 n n R)),some (.own (ldD l L)),some (.val (.int last))]=some (decide ((l:Int)<(n:Int))):=by
  simp only [mTest,mBin,mCallP,mConsP,mNilP,mPk,BN,BB,CJ,BJ,dLen,Sl.dat,L5,TJ,A9,AV,dLt,icmp]
 by_cases hl:l<n
 . refine ⟨(0,1),?_,by decide,by decide,?_⟩
   . refine GC (ρ:= [some (.val (L5 n n t)),none,none,none]) rfl rfl ?_;unfold b_q37;refine jT rfl call (i3 (wN (b:=true) ?_ (IT rfl)));show (mTest _) [some (.val (L5 n n t)),none,none,none,some (.own (C4 n n R)),some (.own (ldD l L)),some (.val (.int last))]=_;rw [test,decide_eq_true (by omega)]
   . rw [I.det_less hl];simp
 . have hln:l=n:=by have:=I.kn;omega
   subst hln;have hdet:=I.det_full;have cb:=fun i (hi:i<l)=>OY (r:=t i) (D:=D) (m:=l) fun j hj=>k.bot i hi j hj;have hPp:0<prodN l (fun i=>cbN (t i) l):=UF fun i hi=>(cb i hi).1;have hPb:∀j,j<=l->Bt 8000 (prodN j (fun i=>cbN (t i) l)):=fun j hj=>Nat.lt_of_le_of_lt (Nat.le_trans (U9 (X:=D ^ l) fun i hi=>(cb i (by omega)).2.1) (Nat.pow_le_pow_right (Nat.pow_pos k.D1) hj)) hP;refine ⟨fr (Ba.det l (W l t)) (prodN l (fun i=>cbN (t i) l)),?_,tD (by omega),w4 (by omega),e5 (by omega)⟩;refine GC (ρ:= [some (.val (L5 l l t)),none,none,none]) rfl rfl ?_;unfold b_q37;refine jT rfl call ?_;show Rts _ [some (.val (L5 l l t)),none,none,none,some (.own (C4 l l R)),some (.own (ldD l L)),some (.val (.int last))] _;refine GU (LJ (b:=false) (by rw [test,decide_eq_false (by omega)]) rfl) (GU (F3 (r:= .val (.int 1)) rfl) ?_)
   obtain ⟨ρ',hf,z,rfl⟩:=ND (fg:=gVar 3) (gb:=(mAsg 2 (mBin dRep (mPk 2) (mCall O7 (mCons (mVar 3) mNil)))))
    (ds:=(List.range l).map fun i=>frD l (t i)) (ρ:= [some (.val (L5 l l t)),none,some (.val (.int 1)),none,some (.own (C4 l l R)),some (.own (ldD l L)),some (.val (.int last))])
    (fun i ρ=>∃z,ρ = [some (.val (L5 l l t)),none,some (.val (.int (prodN i (fun i=>cbN (t i) l)))),z,some (.own (C4 l l R)),some (.own (ldD l L)),some (.val (.int last))]) ⟨none,rfl⟩ (by
     rintro i d ρ hd ⟨z,rfl⟩;rw [B8] at hd
     by_cases hi:i<l
     . rw [CH hi] at hd
       cases hd
       refine ⟨_,rfl,[some (.val (L5 l l t)),none,some (.val (.int (prodN (i+1) (fun i=>cbN (t i) l)))),some (.val (frD l (t i))),some (.own (C4 l l R)),some (.own (ldD l L)),some (.val (.int last))], .inl ?_,_,rfl⟩;have b1:=hPb i (by omega);have b2:Bt 4000 (cbN (t i) l):=DZ (cb i hi).2.1 k.Dm;simp only [mAsg,mBin,mPk,mVar,mCall,mCons,mNil,G2,G1,BN,BB,CJ,BJ,Sl.dat,eJ (k.bot i hi) k.Dm k.D1 (k.Dl k.n1)];rw [ID (.inr (PY (n:=8000) (m:=4000) b1 b2 rfl))];rfl
     . rw [D3 (l:=List.range l) (by simpa using hi)] at hd;cases hd)
   rw [A9,AV] at hf
   refine GU (N8 (ds:=(List.range l).map fun i=>frD l (t i)) rfl hf) (lO (IT (CF (ds:= [.int last, .int (prodN l (fun i=>cbN (t i) l))]) ?_ ?_)))
   . simp only [frz1,A9,AV,mCons,mNil,mVar,BN,BB,CJ,BJ,Sl.dat]
   . rw [hdet];exact fJ (by omega) ((hPb l (AA _)).mono (by decide))
theorem AT{op:Sl->Sl->Option Sl}{fa fb:En->Option Sl}{ρ:En}{a b:Sl}(ha:fa ρ=some a)(hb:fb ρ=some b):mBin op fa fb ρ=op a b:=by
 unfold mBin;rw [ha];show Option.bind (fb ρ) _=_;rw [hb];rfl
theorem GA{f:En->Option Sl}{ρ:En}{b:Bool}(h:f ρ=some (.val (.bool b))):mTest f ρ=some b:=by
 unfold mTest;rw [h];rfl
theorem ZX(i j:Int):deq (.val (.int i)) (.val (.int j))=some (.val (.bool (decide (i=j)))):=by
 show (eqD (.int i) (.int j)).map _=_;rw [eqD_int];rfl
theorem v9{i j:Nat}{k:Int}{fj f:En->Option Sl}{ρ:En}{r:Sl}{ds:List PyData}(h:f ρ=some r)(ho:(ρ[i]?).join=some (.own ds))(hj:fj ρ=some (.val (.int k)))(hx:ixN ds.length k=some j):mSet i fj f ρ=some (.nx (ρ.set i (some (.own (ds.set j r.dat))))):=by
 unfold mSet;rw [h];show (match (ρ[i]?).join with | some (.own ds)=>_ | _=>_)=_;rw [ho];show Option.bind (fj ρ) _=_;rw [hj];show (ixN ds.length k).map _=_;rw [hx];rfl
theorem JT{i:Nat}{f:En->Option Sl}{ρ:En}{r:Sl}{ds:List PyData}(h:f ρ=some r)(ho:(ρ[i]?).join=some (.own ds))(hl:ds.length<sizeLine):mApp i f ρ=some (.nx (ρ.set i (some (.own (ds ++ [r.dat]))))):=by
 unfold mApp;rw [ho];show Option.bind (f ρ) _=_;rw [h];show (if ds.length<sizeLine then _ else _)=_;rw [if_pos hl]
theorem EQ{F:List Sl->Option Sl}{f:En->Option (List Sl)}{ρ:En}{ss:List Sl}{r:Sl}(h:f ρ=some ss)(k:F ss=some r):mCallP F f ρ=some r:=by
 unfold mCallP;rw [h];exact k
theorem D0{f:En->Option Sl}{g:En->Option (List PyData)}{ρ:En}{a:Sl}{as:List PyData}(h:f ρ=some a)(k:g ρ=some as):mCons f g ρ=some (a.dat::as):=by
 unfold mCons;rw [h];show Option.bind (g ρ) _=_;rw [k];rfl
theorem E4{f:En->Option Sl}{g:En->Option (List Sl)}{ρ:En}{a:Sl}{as:List Sl}(h:f ρ=some a)(k:g ρ=some as):mConsP f g ρ=some (a::as):=by
 unfold mConsP;rw [h];show Option.bind (g ρ) _=_;rw [k];rfl
theorem FL:1000<sizeLine:=by decide
theorem XB{f:En->Option Sl}{ρ:En}{a:Sl}(h:f ρ=some a):mLst (mCons f mNil) ρ=some (.own [a.dat]):=by
 unfold mLst;rw [D0 h (show mNil ρ=some [] from rfl)];exact if_pos (e:=none) (show 1<=sizeLine by decide)
theorem IS{a b:Sl}{xs ys:List PyData}(ha:a.dat = .list xs)(hb:b.dat = .list ys)(h:xs.length+ys.length<=sizeLine):dAdd a b=some (.own (xs++ys)):=by
 unfold dAdd;rw [ha,hb];exact if_pos (h)
theorem G8{fg:PyData->En->Option En}{fe:En->Option Sl}{ρ0 ρ1:En}{d:PyData}{r:Sl}(h1:fg d ρ0=some ρ1)(h2:fe ρ1=some r):elM fg mYes fe ρ0 d=some (some r.dat):=by
 unfold elM;rw [h1];simp only [Option.bind_some,mYes,if_true,h2,Option.map_some]
theorem zI{j:Int}(h0:0<j)(h:j<=1000):Bt 9000 j:=by
 unfold Bt;have:2 ^ 10<=2 ^ 9000:=Nat.pow_le_pow_right (by decide) (by decide);have e:(2:Nat) ^ 10=1024:=by decide
 rw [e] at this
 refine B2 ?_ this;omega
theorem JZ{i j:Int}(h0:0<j)(h:j<=1000):EC (.val (.int i)) (.val (.int j))=some (.val (.int (i.fdiv j))):=WZ ⟨by omega,zI h0 h⟩
theorem PU{α:Type}{f:PyData->Option (Option PyData)}{en g:α->PyData}{b:α->Bool}:∀ {xs:List α},(∀x ∈ xs,f (en x)=some (if b x then some (g x) else none))->HK f (xs.map en)=some ((xs.filter b).map g)
 | [],_=>rfl
 | x::xs,h=>by
  rw [CU,HK,h x BU,PU fun y hy=>h y (B6 _ hy)]
  cases e:b x <;> simp [e]
theorem xG{fg:PyData->En->Option En}{ft:En->Option Bool}{fe:En->Option Sl}{ρ0 ρ1:En}{d:PyData}{r:Sl}{b:Bool}(h1:fg d ρ0=some ρ1)(h2:ft ρ1=some b)(h3:fe ρ1=some r):elM fg ft fe ρ0 d=some (if b then some r.dat else none):=by
 unfold elM;rw [h1,Option.bind_some,h2,Option.bind_some]
 cases b
 . rfl
 . rw [CQ rfl,h3];rfl
theorem kX{f g:En->Option Sl}{ρ:En}{r:Sl}(h:f ρ=some (.val (.bool true)))(k:g ρ=some r):mAndV f g ρ=some r:=by
 unfold mAndV;rw [GA h];exact k
theorem NN{i:Nat}{g:En->Option Out}{ρ:En}:mFrz i g ρ=g (frz1 i ρ):=rfl
theorem nK{f g:En->Option Sl}{ρ:En}{a b:Sl}(h1:f ρ=some a)(h2:g ρ=some b):mTup (mCons f (mCons g mNil)) ρ=some (.val (.tuple [a.dat,b.dat])):=by
 unfold mTup;rw [D0 h1 (D0 h2 (show mNil ρ=some [] from rfl))];exact if_pos (e:=none) (show 2<=sizeLine by decide)
theorem zL{f:En->Option Sl}{ρ:En}{a:Sl}(h1:f ρ=some a):mTup (mCons f mNil) ρ=some (.val (.tuple [a.dat])):=by
 unfold mTup;rw [D0 h1 (show mNil ρ=some [] from rfl)];exact if_pos (e:=none) (show 1<=sizeLine by decide)
theorem cmL{i j:Int}(h1 : -(2 ^ 64)<i)(h2:i<2 ^ 64):Q1 i j:= .inl (.inl ⟨h1,h2⟩)
theorem cmR{i j:Int}(h1 : -(2 ^ 64)<j)(h2:j<2 ^ 64):Q1 i j:= .inl (.inr ⟨h1,h2⟩)
theorem bZ(c:Int){k:Int}(h0:0<=k)(h1:k<1000000):∃v,JY [.int c, .int k]=some (.val (.int v))/\0<=v:=by
 let o1:=((c.fmod 2147483647+40503*k*k+17*k)*48271).fmod 2147483647
 refine ⟨(o1*(o1.fmod 65537+3*k+1)).fmod 2147483629,EK (ρ:= [some (.val (.int c)),some (.val (.int k)),none]) rfl rfl ?_,Int.fmod_nonneg_of_pos _ (by decide)⟩;unfold b_q22;have a1:=Int.fmod_nonneg_of_pos ((c.fmod 2147483647+40503*k*k+17*k)*48271) (show (0:Int)<2147483647 by decide);have a2:=Int.fmod_lt_of_pos ((c.fmod 2147483647+40503*k*k+17*k)*48271) (show (0:Int)<2147483647 by decide);refine BT (r:= .val (.int o1)) ?_ (DN (r:= .val (.int ((o1*(o1.fmod 65537+3*k+1)).fmod 2147483629))) ?_ rfl)
 . refine (AT (op:=FB) ((AT (op:=dRep) ((AT (op:=dAdd) ((AT (op:=dAdd) ((AT (op:=FB) rfl rfl).trans (QB (by decide))) ((AT (op:=dRep) ((AT (op:=dRep) rfl rfl).trans (ID (cmL (by decide) (by decide)))) rfl).trans (ID (cmR (by omega) (by omega))))).trans rfl) ((AT (op:=dRep) rfl rfl).trans (ID (cmL (by decide) (by decide))))).trans rfl) rfl).trans (ID (cmR (by decide) (by decide)))) rfl).trans (QB (by decide))
 . refine (AT (op:=FB) ((AT (op:=dRep) (a:= .val (.int o1)) rfl ((AT (op:=dAdd) ((AT (op:=dAdd) ((AT (op:=FB) rfl rfl).trans (QB (by decide))) ((AT (op:=dRep) rfl rfl).trans (ID (cmL (by decide) (by decide))))).trans rfl) rfl).trans rfl)).trans (ID (cmL (by show _<o1;omega) (by show o1<_;omega)))) rfl).trans (QB (by decide))
theorem MB{args:En->Option (List PyData)}{ρ:En}{c j:Int}(ha:args ρ=some [.int c, .int j])(h0:0<=j)(h1:j<1000000):∃v:Nat,mCall JY args ρ=some (.val (.int v)):=by
 obtain ⟨v,hv,v0⟩:=bZ c h0 h1;exact ⟨v.toNat,by rw [Q9 v0];exact CF ha hv⟩
theorem GN{fa fb:En->Option Sl}{ρ:En}{i m:Int}(ha:fa ρ=some (.val (.int i)))(hb:fb ρ=some (.val (.int m)))(hp:0<m):∃v:Nat,mBin FB fa fb ρ=some (.val (.int v))/\(v:Int)<m:=by
 refine ⟨(i.fmod m).toNat,?_,?_⟩
 . rw [Q9 (I9 _ hp)];exact (AT (op:=FB) ha hb).trans (QB (by omega))
 . rw [Q9 (I9 _ hp)];exact RU _ hp
theorem cH(a:Int):V5 [.int a]=some (.val (.bool true)):=by
 refine EK (ρ:= [some (.val (.int a))]) rfl rfl ?_;unfold b_q26;exact DN rfl rfl
abbrev enN:Nat->PyData:=fun n=> .int (n:Int)
def tupN(t:List Nat):PyData:= .tuple (nl t)
theorem GH{ρ:En}:mLst mNil ρ=some (.own []):=by
 exact CQ (e:=none) (show 0<=sizeLine by decide)
theorem j5{L:List Nat}(hL:∀c ∈ L,c<=1000):U5 [.list (nl L)]=some (.val (.int (Tr.prodN L:Nat))):=by
 refine EK (ρ:= [some (.val (.list (nl L))),none,none]) rfl rfl ?_;unfold b_q44;refine BT (r:= .val (.int 1)) rfl ?_;refine EE (P:=fun ρ=>∃z,ρ = [some (.val (.list (nl L))),some (.val (.int (Tr.prodN L:Nat))),z]) ?_ ?_
 . refine FK (en:=enN) (xs:=L) (fun k ρ=>∃z,ρ = [some (.val (.list (nl L))),some (.val (.int (Tr.prodN (L.take k):Nat))),z]) rfl ⟨_,rfl⟩ ?_ ?_
   . rintro k s ρ hs ⟨z,rfl⟩;have hs1:=hL s (AJ hs);refine ⟨_,rfl,FG (r:= .val (.int ((Tr.prodN (L.take k):Int)*(s:Int)))) ((AT (op:=dRep) rfl rfl).trans (ID (cmR (by omega) (by omega)))) ⟨some (.val (.int s)),?_⟩⟩;rw [EN,hs];show _=([some (.val (.list (nl L))),some (.val (.int (Tr.prodN (L.take k ++ [s]):Nat))),some (.val (.int s))]:En);rw [Tr.prodN_app,show Tr.prodN [s]=s by simp [Tr.prodN],NU];rfl
   . rintro ρ ⟨z,rfl⟩;rw [BV (AA _)];exact ⟨z,rfl⟩
 . rintro ρ ⟨z,rfl⟩;exact DN rfl rfl
theorem fP{c:Nat}(h:c<=1000):Bt 9000 (c:Int):=by
 unfold Bt;have:2 ^ 10<=2 ^ 9000:=Nat.pow_le_pow_right (by decide) (by decide);have e:(2:Nat) ^ 10=1024:=by decide
 rw [e] at this
 refine B2 ?_ this;omega
theorem bE{L:List Nat}(hL:∀c ∈ L,0<c/\c<=1000)(hl:L.length<=900)(x:Nat):UB [.list (nl L), .int x]=some (.val (tupN (Tr.tri L x))):=by
 have sl:=FL;refine EK (ρ:= [some (.val (.list (nl L))),some (.val (.int x)),none,none]) rfl rfl ?_;unfold b_q48;refine BT GH ?_;refine EE (P:=fun ρ=>∃z1 z3,ρ = [some (.val (.list (nl L))),z1,some (.own (nl (Tr.dg L.reverse x))),z3]) ?_ ?_
 . refine FK (en:=enN) (xs:=L.reverse) (fun k ρ=>∃(A:List Nat) (y:Nat) (z:Option Sl),ρ = [some (.val (.list (nl L))),some (.val (.int y)),some (.own (nl A)),z]/\A.length=k/\A++Tr.dg (L.reverse.drop k) y=Tr.dg L.reverse x) ?_ ⟨[],x,none,rfl,rfl,rfl⟩ ?_ ?_
   . show some (nl L).reverse=_;rw [nl,List.map_reverse]
   . rintro k c ρ hc ⟨A,y,z,rfl,hA,he⟩;have hc1:=hL c (List.mem_reverse.mp (AJ hc));obtain ⟨hk,ek⟩:=AX.mp hc;have hk':k<L.length:=by simpa using hk
     rw [FJ hk,ek] at he
     refine ⟨_,rfl,?_⟩;have nz:(c:Int)≠0:=by omega
     refine GM (JT (r:= .val (.int ((y % c:Nat):Int))) (ds:=nl A) ((AT (op:=FB) (a:= .val (.int y)) (b:= .val (.int c)) rfl rfl).trans ((QB nz).trans ?_)) rfl (by rw [IH];omega)) ?_
     . rw [Int.fmod_eq_emod_of_nonneg _ (by omega)];rfl
     refine FG (r:= .val (.int ((y / c:Nat):Int))) ((AT (op:=EC) (a:= .val (.int y)) (b:= .val (.int c)) rfl rfl).trans ((WZ ⟨nz,fP hc1.2⟩).trans ?_)) ⟨A ++ [y % c],y / c,some (.val (.int c)),?_,by simp [hA],?_⟩
     . rw [KC _ (by omega)];rfl
     . rw [NI];rfl
     . rw [<-he,TU];rfl
   . rintro ρ ⟨A,y,z,rfl,hA,he⟩;rw [E3 (AA _)] at he
     simp only [Tr.dg,DH] at he
     subst he;exact ⟨_,_,rfl⟩
 . rintro ρ ⟨z1,z3,rfl⟩;refine DN (r:= .val (tupN (Tr.tri L x))) (EQ (ss:= [.own (nl (Tr.dg L.reverse x))]) rfl ?_) rfl;show some (Sl.val (.tuple (nl (Tr.dg L.reverse x)).reverse))=_;rw [nl, <-List.map_reverse];rfl
theorem nC{L:List Nat}(hL:∀c ∈ L,0<c/\c<=1000)(hl:L.length<=900)(hp:Tr.prodN L<=900):UL [.list (nl L)]=some (.own ((Tr.allT L).map tupN)):=by
 have sl:=FL;refine EK (ρ:= [some (.val (.list (nl L)))]) rfl rfl ?_;unfold b_q28;refine DN (F2 (ds:=FA 0 (Tr.prodN L)) ?_ ?_ ?_) rfl
 . exact GQ (j:=Tr.prodN L) (E4 (as:= []) (CF (ds:= [.list (nl L)]) rfl (j5 fun c hc=>(hL c hc).2)) rfl) (by omega)
 . rw [show (FA 0 (Tr.prodN L)).length=Tr.prodN L by simp [FA]];omega
 . refine (KK (g:=fun i=>tupN (Tr.tri L i)) fun i hi=>G8 (r:= .val (tupN (Tr.tri L i))) rfl (CF (ds:= [.list (nl L), .int (i:Nat)]) ?_ (bE hL hl i))).trans ?_
   . show some [PyData.list (nl L), .int (0+(i:Nat))]=_;rw [K8]
   . rw [Tr.allT,EX];rfl
theorem KH(f:Nat->Int):∀n,List.sum ((List.range n).map f)=Ba.sumN n f
 | 0=>rfl
 | n+1=>by
  rw [bB,CP,List.sum_append,KH f n,Ba.sumN];simp
theorem dZ{f:Nat->Int}{n:Nat}:dSum [.own ((List.range n).map fun i=> .int (f i))]=some (.val (.int (Ba.sumN n f))):=by
 unfold dSum;simp only [Sl.dat];have e:((List.range n).map fun i=>PyData.int (f i))=((List.range n).map f).map PyData.int:=by rw [List.map_map];rfl
 rw [e,P7,G6,KH]
theorem sE{n m:Nat}{f:Nat->Nat->PyData}(hn:n<=200)(hm1:1<=m)(hm:m<=1000):U8 [.list ((List.range m).map fun c=> .list ((List.range n).map fun i=>f c i))]=some (.own ((List.range n).map fun i=> .list ((List.range m).map fun c=>f c i))):=by
 refine GC (ρ:= [some (.val (.list ((List.range m).map fun c=> .list ((List.range n).map fun i=>f c i))))]) rfl rfl ?_;unfold b_q41;have hs:1000<sizeLine:=by decide
 refine IT (F2 (ds:=FA 0 n) ?_ ?_ (KK fun i hi=> ?_))
 . refine GQ ?_ (by omega)
   have e:dix (.val (.list ((List.range m).map fun c=> .list ((List.range n).map fun i=>f c i)))) (.val (.int 0))=some (.val (.list ((List.range n).map fun i=>f 0 i))):=by
    unfold dix;simp only [Sl.dat];rw [show (0:Int)=((0:Nat):Int) from rfl,JD (show 0<m by omega)];rfl
   refine E4 (a:= .val (.int n)) (EQ (E4 (AT (a:= .val (.list ((List.range m).map fun c=> .list ((List.range n).map fun i=>f c i)))) (b:= .val (.int 0)) rfl rfl |>.trans e) rfl) ?_) rfl;simp only [dLen,Sl.dat,A9,AV]
 . simp only [FA,A9,AV];omega
 . show elM _ _ _ [some (.val (.list ((List.range m).map fun c=> .list ((List.range n).map fun i=>f c i)))),none] _=_
   have inner:(mLC (CC [some 1,none]) (mItems (mVar 0)) (gVar 1) mYes (mBin dix (mPk 1) (mPk 0))) [some (.val (.list ((List.range m).map fun c=> .list ((List.range n).map fun i=>f c i)))),some (.val (.int (0+(i:Nat))))]=some (.own ((List.range m).map fun c=>f c i)):=by
    refine F2 (ds:=(List.range m).map fun c=> .list ((List.range n).map fun i=>f c i)) rfl (by rw [A9,AV];omega) (CI fun c hc=> ?_);show elM _ _ _ [some (.val (.int (0+(i:Nat)))),none] _=_
    have e:dix (.val (.list ((List.range n).map fun i=>f c i))) (.val (.int (0+(i:Nat))))=some (.val (f c i)):=by
     unfold dix;simp only [Sl.dat];rw [Int.zero_add,JD hi];rfl
    unfold elM;simp only [gVar,mYes,mBin,mPk,List.set_cons_zero,List.set_cons_succ,List.getElem?_cons_zero,List.getElem?_cons_succ,Option.join_some,Option.bind_some,e,if_true,Option.map_some,Sl.dat]
   unfold elM;simp only [gVar,mYes,List.set_cons_zero,List.set_cons_succ,Option.bind_some,inner,if_true,Option.map_some,Sl.dat]
def tz(A:Ba.Mx):Tb:=fun i j=>(A i j,1)
theorem XL{a:Nat->Int}:∀m,cbN (fun j=>(a j,1)) m=1
 | 0=>rfl
 | m+1=>by
  rw [cbN,XL m];show Int.fdiv 1 ((Int.gcd 1 1:Nat):Int)*1=1;decide
theorem yY{m:Nat}{A:Ba.Mx}:W m (tz A)=A:=by
 funext i j;show A i j*(cbN (fun j=>(A i j,1)) m).fdiv 1=_;rw [XL];show A i j*1=_;rw [L6]
theorem rH{n m Y:Nat}{A:Ba.Mx}(h1:1<=n)(hn:n<=32)(hm:m<=1000)(hY1:1<=Y)(hA:∀i,i<n->∀j,j<m->(A i j).natAbs<=Y)(hY:(32*Y) ^ n<2 ^ 4000):TabOk n m 1 Y (tz A) :=
 ⟨h1,hn,hm,AA _,hY1,fun i hi j hj=>⟨by show (0:Int)<1;decide,by show (1:Int).natAbs<=1;decide⟩,hA,by rw [wX,Nat.mul_one];exact hY⟩
theorem nF{n:Nat}{a b:Nat->Int}(hn:n<=200)(ha:∀k,k<n->Bt 4000 (a k))(hb:∀k,k<n->Bt 4000 (b k)):UO [EA n a,EA n b]=some (.val (.int (Ba.sumN n fun k=>a k*b k))):=by
 have hs:=FL;refine EK (ρ:= [some (.val (EA n a)),some (.val (EA n b))]) rfl rfl ?_;unfold b_q46;refine DN (EQ (E4 (a:= .own ((List.range n).map fun k=> .int (a k*b k))) (F2 (ds:=(List.range n).map fun k=> .tuple [.int (a k), .int (b k)]) ?_ (by rw [List.length_map,List.length_range];omega) (CI fun k hk=> ?_)) rfl) dZ) rfl
 . unfold gN;rw [D0 (a:= .val (EA n a)) rfl (D0 (a:= .val (EA n b)) rfl rfl)];show some (KA ((List.range n).map fun k=> .int (a k)) ((List.range n).map fun k=> .int (b k)))=_;rw [RJ]
 . have hk:=BZ.mp hk;show elM _ _ _ [none,none] _=_;exact G8 (ρ1:= [some (.val (.int (a k))),some (.val (.int (b k)))]) (r:= .val (.int (a k*b k))) rfl ((AT (op:=dRep) (a:= .val (.int (a k))) (b:= .val (.int (b k))) rfl rfl).trans (ID (.inr (PY (n:=4000) (m:=4000) (ha k hk) (hb k hk) rfl))))
theorem p8{n:Nat}{a:Nat->Int}(hn:n<=200):VV [EA n a]=some (.own ((List.range n).map fun j=>NP (a j,1))):=by
 have hs:=FL;refine EK (ρ:= [some (.val (EA n a))]) rfl rfl ?_;unfold b_q29;refine DN (F2 (ds:=(List.range n).map fun j=> .int (a j)) rfl (by rw [List.length_map,List.length_range];omega) (CI fun j _=> ?_)) rfl;show elM _ _ _ [none] _=_;exact G8 (ρ1:= [some (.val (.int (a j)))]) (r:= .val (NP (a j,1))) rfl (nK (a:= .val (.int (a j))) (b:= .val (.int 1)) rfl rfl)
theorem vR{N m:Nat}{R:Ba.Mx}(h1:1<=N)(hN:N<=200)(hm:m<=200)(hR:∀k,k<N->∀j,j<m->Bt 4000 (R k j)):UH [.list (C4 N m R)]=some (.own ((List.range m).map fun i=>frD m (tz (Ba.gram N R) i))):=by
 have hs:=FL;have lo:=sE (n:=m) (m:=N) (f:=fun k j=> .int (R k j)) hm h1 (by omega);refine EK (ρ:= [some (.val (.list (C4 N m R))),none]) rfl rfl ?_;unfold b_q33;refine BT (CF (ds:= [.list (C4 N m R)]) rfl lo) (G4 ?_)
 let C1:Option Sl:=some (.val (.list ((List.range m).map fun j=> .list ((List.range N).map fun k=> .int (R k j)))))
 show Wp _ [some (.val (.list (C4 N m R))),C1] _;refine DN (F2 (ds:=(List.range m).map fun j=>EA N fun k=>R k j) rfl (by rw [A9,AV];omega) (CI fun i hi=> ?_)) rfl;have hi:=BZ.mp hi;show elM _ _ _ [C1,none] _=_;refine G8 (ρ1:= [C1,some (.val (EA N fun k=>R k i))]) (r:= .own ((List.range m).map fun j=>NP (Ba.gram N R i j,1))) rfl ?_;refine CF (ds:= [EA m (Ba.gram N R i)]) (D0 (a:= .own ((List.range m).map fun j=> .int (Ba.gram N R i j))) ?_ rfl) (p8 hm);refine F2 (ds:=(List.range m).map fun j=>EA N fun k=>R k j) rfl (by rw [A9,AV];omega) (CI fun j hj=> ?_);have hj:=BZ.mp hj;show elM _ _ _ [some (.val (EA N fun k=>R k i)),none] _=_;exact G8 (ρ1:= [some (.val (EA N fun k=>R k i)),some (.val (EA N fun k=>R k j))]) (r:= .val (.int (Ba.gram N R i j))) rfl (CF (ds:= [EA N fun k=>R k i,EA N fun k=>R k j]) rfl (nF hN (fun k hk=>hR k hk i hi) (fun k hk=>hR k hk j hj)))
theorem yE(l:List Int)(lo hi:Option Int):GZ (il l) lo hi=il (GZ l lo hi):=by
 unfold GZ il;rw [List.length_map, <-List.map_drop, <-List.map_take]
theorem YR(l:List Int)(a b:Nat):(GZ l (some (a:Int)) (some ((a+b:Nat):Int))).length<=b:=by
 unfold GZ;rw [HT.sIx_nat,HT.sIx_nat,List.length_take];omega
theorem XF{a b c d:Int}(hb:0<b)(hd:0<d)(g1:Int.gcd a b=1)(g2:Int.gcd c d=1)(e:a*d=c*b):(a,b)=(c,d):=by
 have d1:b ∣ d:=by
  have:b ∣ a*d:=⟨c,by rw [e];ac_rfl⟩;refine FH.mp (WA (m:=a.natAbs) (by rw [Nat.coprime_comm];exact g1) ?_);rw [<-FF];exact FH.mpr this
 have d2:d ∣ b:=by
  have:d ∣ c*b:=⟨a,by rw [<-e];ac_rfl⟩;refine FH.mp (WA (m:=c.natAbs) (by rw [Nat.coprime_comm];exact g2) ?_);rw [<-FF];exact FH.mpr this
 have ebd:b=d:=Int.dvd_antisymm (by omega) (by omega) d1 d2;subst ebd;have:a=c:=Int.eq_of_mul_eq_mul_right (by omega) e;rw [this]
theorem bt_sum{n p:Nat}{f:Nat->Int}(hn:n<=8)(h:∀i,i<n->Bt p (f i)):Bt (p+3) (Ba.sumN n f):=by
 have key:∀k,k<=n->(Ba.sumN k f).natAbs<=k*(2 ^ p - 1):=fun k=>by
  induction k with
  | zero=>exact fun _=>by simp [Ba.sumN]
  | succ k ih=>
   intro hk;show (Ba.sumN k f+f k).natAbs<=_;have h1:=ih (by omega);have h2:(f k).natAbs<2 ^ p:=h k (by omega);have h3:=zS (Ba.sumN k f) (f k);rw [Nat.add_mul,Nat.one_mul];omega
 have p1:0<2 ^ p:=J9 (by decide);have:=key n (AA _);have h2:n*(2 ^ p - 1)<=8*(2 ^ p - 1):=JA _ hn;show (Ba.sumN n f).natAbs<2 ^ (p+3);rw [Nat.pow_add];omega
theorem iC{n m i:Nat}{R:Ba.Mx}(h:i<n):dix (.val (.list (C4 n m R))) (.val (.int (i:Int)))=some (.val (EA m (R i))):=by
 unfold dix;simp only [Sl.dat,OI h,Option.map_some]
theorem sU(c:Int){most:Nat}(hm:most<=900):∃L:List Nat,VN [.int c, .int most]=some (.own (nl L))/\(∀s ∈ L,2<=s/\s<=7)/\L.length<=4/\Tr.prodN L<=max 1 most:=by
 have sl:=FL
 let C:Option Sl:=some (.val (.int c))
 let M:Option Sl:=some (.val (.int most))
 have key:Wp b_q21 [C,M,none,none,none,none,none,none,none] (fun o=>∃(L:List Nat) (ρ':En),o = .rt (.own (nl L)) ρ'/\(∀s ∈ L,2<=s/\s<=7)/\L.length<=4/\Tr.prodN L<=max 1 most):=by
  unfold b_q21;obtain ⟨v,ev,bv⟩:=GN (fa:=mPk 0) (fb:=mK (.int 4)) (ρ:= [C,M,none,none,none,none,none,none,none]) rfl rfl (by decide);refine BT (r:= .val (.int ((v+1:Nat):Int))) ((AT (op:=dAdd) (fa:=mK (.int 1)) rfl ev).trans ?_) (BT GH (BT (r:= .val (.int (c.fdiv 8))) ((AT (op:=EC) rfl rfl).trans (JZ (by decide) (by decide))) ?_))
  . show some (Sl.val (.int (1+(v:Int))))=_;rw [show 1+(v:Int)=((v+1:Nat):Int) by omega]
  let N2:Option Sl:=some (.val (.int ((v+1:Nat):Int)))
  refine EE (P:=fun ρ=>∃(L:List Nat) (l:Int) (z5 z6 z7 z8:Option Sl),ρ = [C,M,N2,some (.own (nl L)),some (.val (.int l)),z5,z6,z7,z8]/\(∀s ∈ L,2<=s/\s<=7)/\L.length<=4/\Tr.prodN L<=max 1 most) ?_ ?_
  . refine JC (n:=v+1) (fun k ρ=>∃(L:List Nat) (l:Int) (z5 z6 z7 z8:Option Sl),ρ = [C,M,N2,some (.own (nl L)),some (.val (.int l)),z5,z6,z7,z8]/\(∀s ∈ L,2<=s/\s<=7)/\L.length<=k/\Tr.prodN L<=max 1 most) (GQ (j:=v+1) rfl (by omega)) ⟨[],_,_,_,_,_,rfl,by simp,by simp,by simp [Tr.prodN];omega⟩ ?_ ?_
    . rintro k ρ hk ⟨L,l,z5,z6,z7,z8,rfl,h1,h2,h3⟩;refine ⟨_,rfl,?_⟩
      let K5:Option Sl:=some (.val (.int (k:Nat)))
      let LO:Option Sl:=some (.own (nl L))
      show Wp _ [C,M,N2,LO,some (.val (.int l)),K5,z6,z7,z8] _;obtain ⟨w,ew⟩:=MB (args:=(mCons (mVar 0) (mCons (mBin dAdd (mK (.int 200)) (mPk 5)) mNil))) (ρ:= [C,M,N2,LO,some (.val (.int l)),K5,z6,z7,z8]) (c:=c) (j:=200+(k:Nat)) rfl (by omega) (by omega);obtain ⟨x,ex,bx⟩:=GN ew (fb:=mK (.int 3)) rfl (by decide);refine BT (r:= .val (.int (2+(x:Int)))) ((AT (op:=dAdd) (fa:=mK (.int 2)) rfl ex).trans rfl) ?_;refine EE (P:=fun ρ=>∃y:Nat,ρ = [C,M,N2,LO,some (.val (.int l)),K5,some (.val (.int ((y+2:Nat):Int))),z7,z8]/\y<=5) ?_ ?_
      . obtain ⟨w2,ew2⟩:=MB (args:=(mCons (mVar 0) (mCons (mK (.int 220)) mNil))) (ρ:= [C,M,N2,LO,some (.val (.int l)),K5,some (.val (.int (2+(x:Int)))),z7,z8]) (c:=c) (j:=220) rfl (by decide) (by decide);obtain ⟨x2,ex2,_⟩:=GN ew2 (fb:=mK (.int 3)) rfl (by decide);refine MD (GR ex2 rfl) ?_
        cases decide ((x2:Int)=0)
        . refine HA ⟨x,?_,by omega⟩;rw [show ((x+2:Nat):Int)=2+(x:Int) by omega];rfl
        . exact FG (r:= .val (.int 2)) rfl ⟨0,rfl,by decide⟩
      rintro ρ ⟨y,rfl,hy⟩;refine EE (P:=fun ρ=>∃(y:Nat) (l:Int),ρ = [C,M,N2,LO,some (.val (.int l)),K5,some (.val (.int ((y+2:Nat):Int))),z7,z8]/\y<=5) ?_ ?_
      . obtain ⟨x2,ex2,_⟩:=GN (fa:=mBin EC (mPk 0) (mK (.int 4))) (fb:=mK (.int 2)) (ρ:= [C,M,N2,LO,some (.val (.int l)),K5,some (.val (.int ((y+2:Nat):Int))),z7,z8]) ((AT (op:=EC) rfl rfl).trans (JZ (by decide) (by decide))) rfl (by decide);refine MD (GR ex2 rfl) ?_
        cases decide ((x2:Int)=1)
        . exact HA ⟨y,l,rfl,hy⟩
        . obtain ⟨x3,ex3,bx3⟩:=GN (fa:=mPk 4) (fb:=mK (.int 3)) (ρ:= [C,M,N2,LO,some (.val (.int l)),K5,some (.val (.int ((y+2:Nat):Int))),z7,z8]) rfl rfl (by decide);refine BT (r:= .val (.int ((x3+2:Nat):Int))) ((AT (op:=dAdd) (fa:=mK (.int 2)) rfl ex3).trans ?_) (FG (r:= .val (.int (l.fdiv 3))) ((AT (op:=EC) rfl rfl).trans (JZ (by decide) (by decide))) ⟨x3,_,rfl,by omega⟩);show some (Sl.val (.int (2+(x3:Int))))=_;rw [show 2+(x3:Int)=((x3+2:Nat):Int) by omega]
      rintro ρ ⟨y,l,rfl,hy⟩;refine BT (r:= .val (.int 1)) rfl ?_;refine EE (P:=fun ρ=>∃z8,ρ = [C,M,N2,LO,some (.val (.int l)),K5,some (.val (.int ((y+2:Nat):Int))),some (.val (.int (Tr.prodN L:Nat))),z8]) ?_ ?_
      . refine pD (en:=enN) (xs:=L) (fun i ρ=>∃z8,ρ = [C,M,N2,LO,some (.val (.int l)),K5,some (.val (.int ((y+2:Nat):Int))),some (.val (.int (Tr.prodN (L.take i):Nat))),z8]) rfl ⟨_,rfl⟩ ?_ ?_
        . rintro i s ρ hs ⟨z8,rfl⟩;have hs1:=h1 s (AJ hs);refine ⟨_,rfl,FG (r:= .val (.int ((Tr.prodN (L.take i):Int)*(s:Int)))) ((AT (op:=dRep) rfl rfl).trans (ID (cmR (by omega) (by omega)))) ⟨some (.val (.int s)),?_⟩⟩;rw [EN,hs];show _=([C,M,N2,LO,some (.val (.int l)),K5,some (.val (.int ((y+2:Nat):Int))),some (.val (.int (Tr.prodN (L.take i ++ [s]):Nat))),some (.val (.int s))]:En);rw [Tr.prodN_app,show Tr.prodN [s]=s by simp [Tr.prodN],NU];rfl
        . rintro ρ ⟨z8,rfl⟩;rw [BV (AA _)];exact ⟨z8,rfl⟩
      rintro ρ ⟨q8,rfl⟩
      let PL:Option Sl:=some (.val (.int (Tr.prodN L:Nat)))
      have mu:∀y:Nat,y<=5->(mBin dRep (mPk 7) (mPk 6)) [C,M,N2,LO,some (.val (.int l)),K5,some (.val (.int ((y+2:Nat):Int))),PL,q8]=some (.val (.int ((Tr.prodN (L ++ [y+2]):Nat):Int))):=by
       intro y hy;refine ((AT (op:=dRep) rfl rfl).trans (ID (cmR (by omega) (by omega)))).trans ?_;rw [Tr.prodN_app,show Tr.prodN [y+2]=y+2 by simp [Tr.prodN],NU]
      refine EE (P:=fun ρ=>∃y:Nat,ρ = [C,M,N2,LO,some (.val (.int l)),K5,some (.val (.int ((y+2:Nat):Int))),PL,q8]/\y<=5) ?_ ?_
      . refine MD (b:=decide (((Tr.prodN (L ++ [y+2]):Nat):Int)>(most:Int))) (GA ((AT (op:=dGt) (mu y hy) rfl).trans rfl)) ?_
        cases decide (((Tr.prodN (L ++ [y+2]):Nat):Int)>(most:Int))
        . exact HA ⟨y,rfl,hy⟩
        . exact FG (r:= .val (.int 2)) rfl ⟨0,rfl,by decide⟩
      rintro ρ ⟨y,rfl,hy⟩;refine MD (b:=decide (((Tr.prodN (L ++ [y+2]):Nat):Int)<=(most:Int))) (GA ((AT (op:=dLe) (mu y hy) rfl).trans rfl)) ?_
      by_cases hle:((Tr.prodN (L ++ [y+2]):Nat):Int)<=(most:Int)
      . rw [D5 hle];refine G4 (MG (JT (r:= .val (.int ((y+2:Nat):Int))) (ds:=nl L) rfl rfl (by rw [IH];omega)) ⟨L ++ [y+2],l,K5,some (.val (.int ((y+2:Nat):Int))),PL,q8,?_,?_,by simp;omega,by omega⟩)
        . rw [NI];rfl
        . intro t ht;rcases CN.mp ht with ht | ht
          . exact h1 t ht
          . cases AD.mp ht
            omega
      . rw [BW hle];exact HA ⟨L,_,_,_,_,_,rfl,h1,by omega,h3⟩
    . rintro ρ ⟨L,l,z5,z6,z7,z8,rfl,h1,h2,h3⟩;exact ⟨L,l,z5,z6,z7,z8,rfl,h1,by omega,h3⟩
  . rintro ρ ⟨L,l,z5,z6,z7,z8,rfl,h1,h2,h3⟩;exact DN rfl ⟨L,_,rfl,h1,h2,h3⟩
 obtain ⟨o,h1,L,ρ',rfl,h2⟩:=key;exact ⟨L,GC (ρ:= [C,M,none,none,none,none,none,none,none]) rfl rfl ⟨ρ',h1⟩,h2⟩
def lv1(L:List Nat)(t:Nat):Nat:=L.getD t 0 - 1
theorem iY:∀a b:List Nat,PyData.eqvAll (nl a) (nl b)=decide (a=b)
 | [],[]=>by simp [nl,PyData.eqvAll]
 | [],_::_=>by simp [nl,PyData.eqvAll]
 | _::_,[]=>by simp [nl,PyData.eqvAll]
 | x::a,y::b=>by
  have:=iY a b;simp only [nl] at this
  simp only [nl,CU,PyData.eqvAll,this,PyData.eqv]
  by_cases h:x=y
  . subst h;simp
  . have:¬((x:Int)=(y:Int)):=by omega
    simp [h,this]
theorem oX(a b:List Nat):PyData.eqv (tupN a) (tupN b)=decide (a=b):=by
 unfold tupN;simp only [PyData.eqv];exact iY a b
theorem T0(l:List Nat):(tupN l).canLay0=true:=M9 (en:=fun n:Nat=>PyData.int (n:Int)) (fun _=>rfl) l
theorem Y2(l:List Nat):(tupN l).depth<=3:=by
 have:=MF (en:=fun n:Nat=>PyData.int (n:Int)) (k:=1) (fun x=>by simp [PyData.depth]) l;simp only [tupN,PyData.depth,nl];omega
theorem QW(e:List Nat)(M:List (List Nat)):inD true (tupN e) (M.map tupN)=some (.val (.bool (decide (e ∉ M)))):=by
 have dt:=Y2 e;unfold inD;rw [if_pos ⟨T0 e,by simp [T0],by omega⟩];congr 3
 simp only [GW,List.any_map]
 have:(M.any ((fun d=>PyData.eqv d (tupN e)) ∘ tupN))=decide (e ∈ M):=by
  induction M with
  | nil=>simp
  | cons m M ih=>
   rw [kU,ih];show (PyData.eqv (tupN m) (tupN e) || _)=_;rw [oX]
   by_cases h:m=e
   . subst h;simp
   . have h':e≠m:=fun z=>h z.symm;simp [h,h']
 rw [this];simp
def GX(L:List Nat)(most:Nat)(e:List Nat):Prop:=e.Pairwise (· < ·)/\(∀t ∈ e,t<L.length)/\Tr.prodN (e.map (lv1 L))<=most
theorem rO{L:List Nat}{t:Nat}(h:t<L.length):(nl L)[t]? = some (.int ((lv1 L t+1:Nat):Int))\/L.getD t 0=0:=by
 by_cases h0:L.getD t 0=0
 . exact .inr h0
 . left;unfold nl;rw [List.getElem?_map,List.getElem?_eq_getElem h];have e:L.getD t 0=L[t]:=by simp [List.getD,List.getElem?_eq_getElem h]
   rw [e] at h0
   have:lv1 L t+1=L[t]:=by unfold lv1;rw [e];omega
   rw [this];rfl
theorem LF{L:List Nat}(hL:∀s ∈ L,2<=s/\s<=7){t:Nat}(h:t<L.length):(nl L)[t]? = some (.int ((lv1 L t+1:Nat):Int))/\1<=lv1 L t/\lv1 L t<=6:=by
 have e:L.getD t 0=L[t]:=by simp [List.getD,B4 h]
 have hs:=hL L[t] (List.getElem_mem h);refine ⟨?_,by unfold lv1;rw [e];omega,by unfold lv1;rw [e];omega⟩;rcases rO h with h1 | h1
 . exact h1
 . rw [e] at h1
   omega
def tot(L:List Nat)(M:List (List Nat)):Nat:=(M.map fun e=>Tr.prodN (e.map (lv1 L))).sum
theorem fH(L:List Nat)(M:List (List Nat))(e:List Nat):tot L (M ++ [e])=tot L M+Tr.prodN (e.map (lv1 L)):=by simp [tot]
theorem mM (c : Int) {L : List Nat} (hL : ∀ s ∈ L, 2 <= s /\ s <= 7) (hl : L.length <= 4) {most : Nat} (m1 : 1 <= most) (hm : most <= 100) :
 ∃M:List (List Nat),UE [.int c, .list (nl L), .int most]=some (.own (M.map tupN))/\(∀e ∈ M,GX L most e)/\M.Nodup/\M.length<=7/\tot L M<=most/\1<=M.length:=by
 have sl:=FL
 let C:Option Sl:=some (.val (.int c))
 let LV:Option Sl:=some (.val (.list (nl L)))
 let MO:Option Sl:=some (.val (.int most))
 have key:Wp b_q20 [C,LV,MO,none,none,none,none,none,none,none,none] (fun o=>∃(M:List (List Nat)) (ρ':En),o = .rt (.own (M.map tupN)) ρ'/\(∀e ∈ M,GX L most e)/\M.Nodup/\M.length<=7/\tot L M<=most/\1<=M.length):=by
  unfold b_q20;refine BT GH (BT (r:= .val (.int 0)) rfl (BT (r:= .val (.int (c.fdiv 162))) ((AT (op:=EC) rfl rfl).trans (JZ (by decide) (by decide))) ?_));refine EE (P:=fun ρ=>∃(M:List (List Nat)) (sz:Nat) (lf:Int) (z6 z7 z8 z9 z10:Option Sl),ρ = [C,LV,MO,some (.own (M.map tupN)),some (.val (.int sz)),some (.val (.int lf)),z6,z7,z8,z9,z10]/\(∀e ∈ M,GX L most e)/\M.Nodup/\M.length<=6/\sz=tot L M/\sz<=most) ?_ ?_
  . refine JC (n:=6) (fun k ρ=>∃(M:List (List Nat)) (sz:Nat) (lf:Int) (z6 z7 z8 z9 z10:Option Sl),ρ = [C,LV,MO,some (.own (M.map tupN)),some (.val (.int sz)),some (.val (.int lf)),z6,z7,z8,z9,z10]/\(∀e ∈ M,GX L most e)/\M.Nodup/\M.length<=k/\sz=tot L M/\sz<=most) (GQ (j:=6) rfl (by decide)) ⟨[],0,_,_,_,_,_,_,rfl,by simp,by simp,by simp,rfl,by omega⟩ ?_ (fun ρ h=>h);rintro k ρ hk ⟨M,sz,lf,z6,z7,z8,z9,z10,rfl,h1,h2,h3⟩;refine ⟨_,rfl,?_⟩
    let MM:Option Sl:=some (.own (M.map tupN))
    let SZ:Option Sl:=some (.val (.int sz))
    let K6:Option Sl:=some (.val (.int (k:Nat)))
    show Wp _ [C,LV,MO,MM,SZ,some (.val (.int lf)),K6,z7,z8,z9,z10] _;obtain ⟨w,ew⟩:=MB (args:=(mCons (mVar 0) (mCons (mBin dAdd (mK (.int 230)) (mPk 6)) mNil))) (ρ:= [C,LV,MO,MM,SZ,some (.val (.int lf)),K6,z7,z8,z9,z10]) (c:=c) (j:=230+(k:Nat)) rfl (by omega) (by omega);refine BT ew ?_
    let W7:Option Sl:=some (.val (.int w))
    have rl:∀z8 z9 lf,(EZ (mConsP (mCallP dLen (mConsP (mPk 1) mNilP)) mNilP)) [C,LV,MO,MM,SZ,some (.val (.int lf)),K6,W7,z8,z9,z10]=some ((List.range L.length).map fun i=> .int (0+(i:Nat))):=fun z8 z9 lf=>GQ (j:=L.length) (E4 (a:= .val (.int ((L.length:Nat):Int))) (as:= []) (EQ (ss:= [.val (.list (nl L))]) rfl (by show some (Sl.val (.int ((nl L).length:Nat)))=_;rw [IH])) rfl) (by omega)
    have cmp:∀(ft:En->Option Bool) (s0:Sl) (b:Nat->Bool),(∀i,i<L.length->ft [some s0,some (.val (.int (0+(i:Nat))))]=some (b i))->HK (elM (gVar 1) ft (mVar 1) [some s0,none]) ((List.range L.length).map fun i=> .int (0+(i:Nat)))=some (nl ((List.range L.length).filter b)):=by
     intro ft s0 b hb;refine (PU (b:=b) (g:=enN) fun i hi=>xG (r:= .val (.int (i:Nat))) rfl (hb i (BZ.mp hi)) ?_).trans rfl;show some (Sl.val (.int (0+(i:Nat))))=_;rw [K8]
    let b1:Nat->Bool:=fun i=>decide (((w:Int).fdiv (2+(0+(i:Nat)))).fmod 3=0)
    refine BT (r:= .val (tupN ((List.range L.length).filter b1))) (EQ (E4 (as:= []) (F2 (rl _ _ _) (by simp;omega) (cmp _ _ b1 fun i hi=> ?_)) rfl) rfl) ?_
    . exact GR ((AT (op:=FB) ((AT (op:=EC) rfl ((AT (op:=dAdd) rfl rfl).trans rfl)).trans (JZ (by omega) (by omega))) rfl).trans (QB (by decide))) rfl
    refine EE (P:=fun ρ=>∃(b:Nat->Bool) (lf:Int),ρ = [C,LV,MO,MM,SZ,some (.val (.int lf)),K6,W7,some (.val (tupN ((List.range L.length).filter b))),z9,z10]) ?_ ?_
    . obtain ⟨x2,ex2,_⟩:=GN (fa:=mPk 0) (fb:=mK (.int 2)) (ρ:= [C,LV,MO,MM,SZ,some (.val (.int lf)),K6,W7,some (.val (tupN ((List.range L.length).filter b1))),z9,z10]) rfl rfl (by decide);refine MD (GR ex2 rfl) ?_
      cases decide ((x2:Int)=1)
      . exact HA ⟨b1,lf,rfl⟩
      . let b2:Nat->Bool:=fun i=>decide ((lf.fdiv (2 ^ i:Nat)).fmod 2=1)
        refine BT (r:= .val (tupN ((List.range L.length).filter b2))) (EQ (E4 (as:= []) (F2 (rl _ _ _) (by simp;omega) (cmp _ _ b2 fun i hi=> ?_)) rfl) rfl) (FG (r:= .val (.int (lf.fdiv 16))) ((AT (op:=EC) rfl rfl).trans (JZ (by decide) (by decide))) ⟨b2,_,rfl⟩)
        have l4:∀ρ:En,(mLst (mCons (mK (.int 1)) (mCons (mK (.int 2)) (mCons (mK (.int 4)) (mCons (mK (.int 8)) mNil))))) ρ=some (.own [.int 1, .int 2, .int 4, .int 8]):=fun ρ=>by
         exact CQ (e:=none) (show 4<=sizeLine by omega)
        have x4 : [PyData.int 1, .int 2, .int 4, .int 8][i]? = some (.int ((2 ^ i:Nat):Int)):=by
         match i,(show i<4 by omega) with
         | 0,_=>rfl
         | 1,_=>rfl
         | 2,_=>rfl
         | 3,_=>rfl
        have p4:2 ^ i<=8:=by
         match i,(show i<4 by omega) with
         | 0,_=>decide
         | 1,_=>decide
         | 2,_=>decide
         | 3,_=>decide
        have p0:0<2 ^ i:=J9 (by decide);refine GR ((AT (op:=FB) ((AT (op:=EC) (a:= .val (.int lf)) rfl ((AT (op:=dix) (l4 _) (b:= .val (.int (i:Nat))) ?_).trans (FE (.inl rfl) x4))).trans (JZ (by omega) (by omega))) rfl).trans (QB (by decide))) rfl;show some (Sl.val (.int (0+(i:Nat))))=_;rw [K8]
    rintro ρ ⟨b,lf,rfl⟩
    let e:=(List.range L.length).filter b
    have he:∀t ∈ e,t<L.length:=fun t ht=>BZ.mp (aX.mp ht).1;have hp:e.Pairwise (· < ·):=List.Pairwise.filter _ rG
    let E8:Option Sl:=some (.val (tupN e))
    refine BT (r:= .val (.int 1)) rfl ?_;refine EE (P:=fun ρ=>∃z10,ρ = [C,LV,MO,MM,SZ,some (.val (.int lf)),K6,W7,E8,some (.val (.int (Tr.prodN (e.map (lv1 L)):Nat))),z10]) ?_ ?_
    . refine G4 (FK (en:=enN) (xs:=e) (fun i ρ=>∃z10,ρ = [C,LV,MO,MM,SZ,some (.val (.int lf)),K6,W7,E8,some (.val (.int (Tr.prodN ((e.take i).map (lv1 L)):Nat))),z10]) rfl ⟨_,rfl⟩ ?_ ?_)
      . rintro i t ρ ht ⟨z10,rfl⟩;obtain ⟨g1,g2,g3⟩:=LF hL (he t (AJ ht));refine ⟨_,rfl,FG (r:= .val (.int ((Tr.prodN ((e.take i).map (lv1 L)):Int)*(lv1 L t:Nat)))) ((AT (op:=dRep) (a:= .val (.int ((Tr.prodN ((e.take i).map (lv1 L)):Nat):Int))) rfl (b:= .val (.int (lv1 L t:Nat))) ((AT (op:=dSub) ((AT (op:=dix) (a:= .val (.list (nl L))) (b:= .val (.int (t:Nat))) rfl rfl).trans (FE (.inl rfl) g1)) rfl).trans ?_)).trans (ID (cmR (by omega) (by omega)))) ⟨some (.val (.int t)),?_⟩⟩
        . show some (Sl.val (.int (((lv1 L t+1:Nat):Int) - 1)))=_;rw [show ((lv1 L t+1:Nat):Int) - 1=(lv1 L t:Nat) by omega]
        . rw [EN,ht];show _=([C,LV,MO,MM,SZ,some (.val (.int lf)),K6,W7,E8,some (.val (.int (Tr.prodN ((e.take i ++ [t]).map (lv1 L)):Nat))),some (.val (.int t))]:En);rw [CP,Tr.prodN_app,show Tr.prodN ([t].map (lv1 L))=lv1 L t by simp [Tr.prodN],NU];rfl
      . rintro ρ ⟨z10,rfl⟩;rw [BV (AA _)];exact ⟨z10,rfl⟩
    rintro ρ ⟨y,rfl⟩;have tn:(mTest (mBin (PQ true) (mPk 8) (mPk 3))) [C,LV,MO,MM,SZ,some (.val (.int lf)),K6,W7,E8,some (.val (.int (Tr.prodN (e.map (lv1 L)):Nat))),y]=some (decide (e ∉ M)):=GA ((AT (op:=PQ true) (a:= .val (tupN e)) (b:= .own (M.map tupN)) rfl rfl).trans (QW e M));refine MD (sT tn (GA (b:=decide ((sz:Int)+(Tr.prodN (e.map (lv1 L)):Nat)<=(most:Int))) rfl)) ?_
    by_cases hc:e ∉ M/\(sz:Int)+(Tr.prodN (e.map (lv1 L)):Nat)<=(most:Int)
    . rw [D5 hc.1,D5 hc.2];refine GM (f:=mFrz 8 _) (JT (ρ:= [C,LV,MO,MM,SZ,some (.val (.int lf)),K6,W7,E8,some (.val (.int (Tr.prodN (e.map (lv1 L)):Nat))),y]) (r:= .val (tupN e)) (ds:=M.map tupN) rfl rfl (by rw [A9];omega)) (FG (r:= .val (.int ((sz+Tr.prodN (e.map (lv1 L)):Nat):Int))) ?_ ⟨M ++ [e],sz+Tr.prodN (e.map (lv1 L)),lf,K6,W7,E8,some (.val (.int (Tr.prodN (e.map (lv1 L)):Nat))),y,?_,?_,?_,by simp;omega,by rw [fH, <-h3.2.1],by have:=hc.2;omega⟩)
      . show some (Sl.val (.int ((sz:Int)+(Tr.prodN (e.map (lv1 L)):Nat))))=_;rw [<-Int.natCast_add]
      . rw [CP];rfl
      . intro t ht;rcases CN.mp ht with ht | ht
        . exact h1 t ht
        . cases AD.mp ht
          exact ⟨hp,he,by have:=hc.2;omega⟩
      . rw [List.nodup_append];refine ⟨h2,by simp,fun a ha b hb=> ?_⟩
        cases AD.mp hb
        intro z;subst z;exact hc.1 ha
    . have : (decide (e ∉ M) && decide ((sz : Int) + (Tr.prodN (e.map (lv1 L)) : Nat) <= (most : Int))) = false := by
       by_cases h:e ∉ M
       . rw [BW (p:=(sz:Int)+(Tr.prodN (e.map (lv1 L)):Nat)<=(most:Int)) fun z=>hc ⟨h,z⟩,Bool.and_false]
       . rw [BW h,Bool.false_and]
      rw [this];exact HA ⟨M,sz,lf,_,_,_,_,_,rfl,h1,h2,by omega,h3.2.1,h3.2.2⟩
  . rintro ρ ⟨M,sz,lf,z6,z7,z8,z9,z10,rfl,h1,h2,h3⟩;refine EE (P:=fun ρ=>∃(M:List (List Nat)) (sz:Nat) (lf:Int) (z6 z7 z8 z9 z10:Option Sl),ρ = [C,LV,MO,some (.own (M.map tupN)),some (.val (.int sz)),some (.val (.int lf)),z6,z7,z8,z9,z10]/\(∀e ∈ M,GX L most e)/\M.Nodup/\M.length<=7/\tot L M<=most/\1<=M.length) ?_ ?_
    . cases M with
      | nil=>
       refine KO ((GR (i:=0) (j:=0) rfl rfl).trans (by simp)) (MG (JT (r:= .val (tupN [])) (ds:= []) ?_ rfl (by show 0<sizeLine;omega)) ⟨[[]],sz,lf,z6,z7,z8,z9,z10,rfl,?_,by simp,by simp,by simpa [tot,Tr.prodN] using m1,by simp⟩)
       . exact CQ (e:=none) (show 0<=sizeLine by decide)
       . intro e he
         cases AD.mp he
         exact ⟨.nil,by simp,by simpa [Tr.prodN] using m1⟩
      | cons m M=>
       refine WG ((GR (i:=((List.map tupN (m::M)).length:Nat)) (j:=0) rfl rfl).trans ?_) (HA ⟨m::M,sz,lf,_,_,_,_,_,rfl,h1,h2,by omega,by omega,by simp⟩);rw [BW (by simp;omega)]
    . rintro ρ ⟨M,sz,lf,z6,z7,z8,z9,z10,rfl,h1,h2,h3⟩;exact DN rfl ⟨M,_,rfl,h1,h2,h3⟩
 obtain ⟨o,h1,M,ρ',rfl,h2⟩:=key;exact ⟨M,GC (ρ:= [C,LV,MO,none,none,none,none,none,none,none,none]) rfl rfl ⟨ρ',h1⟩,h2⟩
def NE(e t:List Nat):PyData:= .tuple [tupN e,tupN t]
def bk(L e:List Nat):List (List Nat):=(Tr.allT (e.map (lv1 L))).map fun t=>t.map (· + 1)
def FS(L:List Nat)(M:List (List Nat)):List PyData:=M.flatMap fun e=>(bk L e).map (NE e)
theorem SG(L e:List Nat):(bk L e).length=Tr.prodN (e.map (lv1 L)):=by simp [bk,Tr.allT]
theorem lQ(L e:List Nat)(t:Nat)(h:0<lv1 L t):bk L (e ++ [t])=(bk L e).flatMap fun u=>(List.range (lv1 L t)).map fun s=>u ++ [s+1]:=by
 unfold bk;rw [List.map_append];show (Tr.allT (e.map (lv1 L) ++ [lv1 L t])).map _=_;rw [Tr.allT_snoc _ _ h,List.map_flatMap,List.flatMap_map];congr 1
 funext u;rw [EX];refine F8 fun s _=> ?_;simp
theorem fN{L e u:List Nat}(h:u ∈ bk L e):u.length=e.length:=by
 unfold bk Tr.allT at h
 rw [EX] at h
 obtain ⟨x,_,rfl⟩:=BY.mp h;simp [Tr.tri_len]
theorem eM{L e:List Nat}(hL:∀s ∈ L,2<=s/\s<=7)(he:GX L 900 e)(hl:e.length<=900):V0 [.list (nl L),tupN e]=some (.own ((bk L e).map (NE e))):=by
 have sl:=FL
 let LV:Option Sl:=some (.val (.list (nl L)))
 let EV:Option Sl:=some (.val (tupN e))
 refine EK (ρ:= [LV,EV,none]) rfl rfl ?_;unfold b_q38
 have hpos:∀c ∈ e.map (lv1 L),0<c/\c<=1000:=fun c hc=>by
  obtain ⟨t,ht,rfl⟩:=BY.mp hc;have:=LF hL (he.2.1 t ht);omega
 refine BT (CF (ds:= [.list (nl (e.map (lv1 L)))]) (D0 (as:= []) (F2 (ds:=nl e) (es:=nl (e.map (lv1 L))) rfl (by rw [IH];omega) ?_) rfl) (nC hpos (by simpa using hl) he.2.2)) ?_
 . refine (CI (en:=enN) (g:=fun t=> .int (lv1 L t:Nat)) (xs:=e) fun t ht=>G8 (r:= .val (.int (lv1 L t:Nat))) rfl ?_).trans (by simp [nl]);obtain ⟨g1,g2,g3⟩:=LF hL (he.2.1 t ht);refine (AT (op:=dSub) ((AT (op:=dix) (a:= .val (.list (nl L))) (b:= .val (.int (t:Nat))) rfl rfl).trans (FE (.inl rfl) g1)) rfl).trans ?_;show some (Sl.val (.int (((lv1 L t+1:Nat):Int) - 1)))=_;rw [show ((lv1 L t+1:Nat):Int) - 1=(lv1 L t:Nat) by omega]
 . have al : (Tr.allT (e.map (lv1 L))).length <= 900 := by
    have:=he.2.2;simpa [Tr.allT] using this
   refine G4 (DN (F2 (ds:=(Tr.allT (e.map (lv1 L))).map tupN) rfl (by rw [A9];omega) ?_) rfl);refine (CI (en:=tupN) (g:=fun t=>NE e (t.map (· + 1))) (xs:=Tr.allT (e.map (lv1 L))) fun t ht=>G8 (r:= .val (NE e (t.map (· + 1)))) rfl ?_).trans ?_
   . have tl : t.length <= 900 := by
      unfold Tr.allT at ht
      obtain ⟨x,_,rfl⟩:=BY.mp ht;rw [Tr.tri_len,A9];exact hl
     refine (nK (a:= .val (tupN e)) (b:= .val (tupN (t.map (· + 1)))) rfl (EQ (E4 (a:= .own (nl (t.map (· + 1)))) (as:= []) (F2 (ds:=nl t) rfl (by rw [IH];omega) ?_) rfl) rfl)).trans rfl;refine (CI (en:=enN) (g:=fun s=> .int ((s:Int)+1)) (xs:=t) fun s _=>G8 (r:= .val (.int ((s:Int)+1))) rfl rfl).trans ?_;simp [nl]
   . unfold bk;rw [List.map_map];rfl
theorem JF{L:List Nat}{most:Nat}:∀ {M:List (List Nat)},(∀e ∈ M,GX L most e)->(FS L M).length<=M.length*most
 | [],_=>by simp [FS]
 | e::M,h=>by
  have ih:=JF (M:=M) fun e he=>h e (List.mem_cons_of_mem _ he);have h1:=(h e List.mem_cons_self).2.2;unfold FS at ih ⊢
  rw [IA,B3,A9,SG,BS,K2];omega
theorem JO(L:List Nat)(M:List (List Nat))(e:List Nat):FS L (M ++ [e])=FS L M++(bk L e).map (NE e):=by
 unfold FS;rw [List.flatMap_append];simp
theorem gW{L:List Nat}(hL:∀s ∈ L,2<=s/\s<=7){M:List (List Nat)}{most:Nat}(hM:∀e ∈ M,GX L most e)(hm:most<=100)(hl:M.length<=7)(h4:L.length<=4):W4 [.list (nl L), .list (M.map tupN)]=some (.own (FS L M)):=by
 have sl:=FL
 let LV:Option Sl:=some (.val (.list (nl L)))
 let MV:Option Sl:=some (.val (.list (M.map tupN)))
 refine EK (ρ:= [LV,MV,none,none]) rfl rfl ?_;unfold b_q34;refine BT GH ?_;refine EE (P:=fun ρ=>∃z,ρ = [LV,MV,some (.own (FS L M)),z]) ?_ (by rintro ρ ⟨z,rfl⟩;exact DN rfl rfl);refine FK (en:=tupN) (xs:=M) (fun i ρ=>∃z,ρ = [LV,MV,some (.own (FS L (M.take i))),z]) rfl ⟨_,rfl⟩ ?_ ?_
 . rintro i e ρ hi ⟨z,rfl⟩;have me:=AJ hi;obtain ⟨e1,e2,e3⟩:=hM e me;refine ⟨_,rfl,?_⟩;have tk:M.take (i+1)=M.take i ++ [e]:=by rw [EN,hi];rfl
   have le:e.length<=900:=by
    have:e.length<=(List.range L.length).length:=by
     refine WD ?_ fun t ht=>BZ.mpr (e2 t ht);exact e1.imp fun h=>D9 h
    rw [AV] at this
    omega
   have cl:=JF (L:=L) (most:=most) (M:=M.take (i+1)) fun e he=>hM e (wY he);have tl:(M.take (i+1)).length<=7:=by rw [DK];omega
   have c2:(FS L (M.take (i+1))).length<=7*100:=BH cl (EY tl hm);rw [tk,JO,B3] at c2
   refine MG (fY (CF (ds:= [.list (nl L),tupN e]) rfl (eM hL ⟨e1,e2,by omega⟩ le)) rfl (by omega)) ⟨some (.val (tupN e)),?_⟩;rw [tk,JO];rfl
 . rintro ρ ⟨z,rfl⟩;rw [BV (AA _)];exact ⟨z,rfl⟩
theorem oV(k s:Nat):U4 [.int k, .int s]=some (.val (.int (Tr.con k s))):=by
 refine EK (ρ:= [some (.val (.int k)),some (.val (.int s))]) rfl rfl ?_;unfold b_q36 Tr.con
 by_cases h1:s<k
 . rw [CQ h1];exact L3 (KO (by show some (decide ((s:Int)<(k:Int)))=_;rw [D5 (by omega)]) (DN rfl rfl))
 . rw [C9 h1];refine MC (by show some (decide ((s:Int)<(k:Int)))=_;rw [BW (by omega)]) ?_
   by_cases h2:s=k
   . rw [CQ h2];exact L3 (KO (by rw [GR (i:=s) (j:=k) rfl rfl,D5 (by omega)]) (DN rfl rfl))
   . rw [C9 h2];exact MC (by rw [GR (i:=s) (j:=k) rfl rfl,BW (by omega)]) (DN rfl rfl)
def enP(q:Nat×Nat):PyData:= .tuple [.int (q.1:Int), .int (q.2:Int)]
theorem T6:∀a b:List Nat,KA (nl a) (nl b)=(List.zip a b).map enP
 | [],_=>by simp [KA,nl]
 | _::_,[]=>by simp [KA,nl]
 | x::a,y::b=>by
  have:=T6 a b;unfold KA nl at this ⊢
  simp only [CU,List.zipWith_cons_cons,List.zip_cons_cons,this];rfl
theorem VU{a b:List Nat}{j t k:Nat}(h:(List.zip a b)[j]? = some (t,k)):a.drop j=t::a.drop (j+1)/\b.drop j=k::b.drop (j+1)/\t ∈ a/\k ∈ b:=by
 rw [List.getElem?_zip_eq_some] at h
 obtain ⟨h1,e1⟩:=AX.mp h.1;obtain ⟨h2,e2⟩:=AX.mp h.2;refine ⟨?_,?_,AJ h.1,AJ h.2⟩
 . rw [FJ h1,e1]
 . rw [FJ h2,e2]
theorem nA{e u x:List Nat}(hu:∀k ∈ u,k<=7)(he:∀t ∈ e,t<x.length)(hl:e.length=u.length):R5 [NE e u,tupN x]=some (.val (.int (Tr.valAt e u x))):=by
 let CO:Option Sl:=some (.val (NE e u))
 let TX:Option Sl:=some (.val (tupN x))
 refine EK (ρ:= [CO,TX,none,none,none]) rfl rfl ?_;unfold b_q49;refine BT (r:= .val (.int 1)) rfl ?_;refine EE (P:=fun ρ=>∃z3 z4,ρ = [CO,TX,some (.val (.int (Tr.valAt e u x))),z3,z4]) ?_ (by rintro ρ ⟨z3,z4,rfl⟩;exact DN rfl rfl);refine FK (en:=enP) (xs:=List.zip e u) (fun j ρ=>∃(p:Int) (z3 z4:Option Sl),ρ = [CO,TX,some (.val (.int p)),z3,z4]/\p*Tr.valAt (e.drop j) (u.drop j) x=Tr.valAt e u x) ?_ ⟨1,_,_,rfl,by simp⟩ ?_ ?_
 . show some (KA (nl e) (nl u))=_;rw [T6]
 . rintro j ⟨t,k⟩ ρ hj ⟨p,z3,z4,rfl,hp⟩;obtain ⟨d1,d2,m1,m2⟩:=VU hj;have hk:=hu k m2;have ht:=he t m1;refine ⟨[CO,TX,some (.val (.int p)),some (.val (.int (t:Nat))),some (.val (.int (k:Nat)))],rfl,?_⟩;have hc:=Tr.con_abs (k:=k) (s:=x.getD t 0) hk
   have gx:(nl x)[t]? = some (.int ((x.getD t 0:Nat):Int)):=by
    unfold nl;rw [List.getElem?_map,List.getElem?_eq_getElem ht];simp [List.getD,List.getElem?_eq_getElem ht]
   refine FG (r:= .val (.int (p*Tr.con k (x.getD t 0)))) ((AT (op:=dRep) (a:= .val (.int p)) rfl (CF (ds:= [.int (k:Nat), .int ((x.getD t 0:Nat):Int)]) (D0 (a:= .val (.int (k:Nat))) rfl (D0 (as:= []) ((AT (op:=dix) (a:= .val (tupN x)) (b:= .val (.int (t:Nat))) rfl rfl).trans (FE (.inr rfl) gx)) rfl)) (oV k _))).trans (ID (cmR (by omega) (by omega)))) ⟨_,_,_,rfl,?_⟩;rw [<-hp,d1,d2,Tr.valAt,HI]
 . rintro ρ ⟨p,z3,z4,rfl,hp⟩
   have e0:Tr.valAt (e.drop (List.zip e u).length) (u.drop (List.zip e u).length) x=1:=by
    rw [List.length_zip,hl,Nat.min_self,E3 (by omega)];rfl
   rw [e0,L6] at hp
   subst hp;exact ⟨z3,z4,rfl⟩
def DD(L:List Nat)(M:List (List Nat)):List (List Nat×List Nat):=M.flatMap fun e=>(bk L e).map fun u=>(e,u)
theorem ML(L:List Nat)(M:List (List Nat)):FS L M=(DD L M).map fun c=>NE c.1 c.2:=by
 unfold FS DD;rw [List.map_flatMap];congr 1
 funext e;rw [EX];rfl
theorem NA{L:List Nat}{M:List (List Nat)}{c:List Nat×List Nat}(h:c ∈ DD L M):c.1 ∈ M/\c.2 ∈ bk L c.1:=by
 obtain ⟨e,he,h⟩:=WE.mp h;obtain ⟨u,hu,rfl⟩:=BY.mp h;exact ⟨he,hu⟩
theorem TK{L e u:List Nat}(hL:∀s ∈ L,2<=s/\s<=7)(he:∀t ∈ e,t<L.length)(hu:u ∈ bk L e):Tr.Fits L e u/\(∀k ∈ u,k<=7)/\e.length=u.length:=by
 have hlen:=fN hu;unfold bk Tr.allT at hu
 rw [EX] at hu
 obtain ⟨x,hx,hux⟩:=BY.mp hu;have hux:(Tr.tri (e.map (lv1 L)) x).map (· + 1)=u:=hux
 have hpos:∀c ∈ e.map (lv1 L),0<c:=fun c hc=>by
  obtain ⟨t,ht,rfl⟩:=BY.mp hc;have:=LF hL (he t ht);omega
 have at_:∀i,i<e.length->u.getD i 0=(Tr.tri (e.map (lv1 L)) x).getD i 0+1/\(Tr.tri (e.map (lv1 L)) x).getD i 0<lv1 L (e.getD i 0):=fun i hi=>by
  have hl:i<(Tr.tri (e.map (lv1 L)) x).length:=by rw [Tr.tri_len];simpa using hi
  refine ⟨by rw [<-hux];simp [List.getD,B8,B4 hl],?_⟩;have:=Tr.tri_lt (L:=e.map (lv1 L)) (x:=x) (i:=i) hpos (by simpa using hi);have e2:(e.map (lv1 L)).getD i 0=lv1 L (e.getD i 0):=by simp [List.getD,B8,B4 hi]
  rw [e2] at this
  exact this
 have ge:∀i,i<e.length->e.getD i 0 ∈ e:=fun i hi=>by simp [List.getD,B4 hi]
 refine ⟨Tr.fits_of hlen.symm fun i hi=> ?_,fun k hk=> ?_,hlen.symm⟩
 . obtain ⟨a1,a2⟩:=at_ i hi;have e0:lv1 L (e.getD i 0)=L.getD (e.getD i 0) 0 - 1:=rfl;rw [a1];omega
 . obtain ⟨i,hi,rfl⟩:=wV.mp hk;have hi':i<e.length:=by rw [<-hlen];exact hi
   obtain ⟨a1,a2⟩:=at_ i hi';have:=LF hL (he _ (ge i hi'));have e3:u.getD i 0=u[i]:=by simp [List.getD,B4 hi]
   rw [<-e3,a1];omega
def QC(P:List (List Nat×List Nat))(x:List Nat):PyData:= .list (il (P.map fun c=>Tr.valAt c.1 c.2 x))
theorem aT {L : List Nat} (hL : ∀ s ∈ L, 2 <= s /\ s <= 7) {M : List (List Nat)} {most : Nat} (hM : ∀ e ∈ M, GX L most e) (hm : most <= 100) (hl : M.length <= 7) (h4 : L.length <= 4) {X : List (List Nat)} (hX : X.length <= 900) (hx : ∀ x ∈ X, x.length = L.length) :
 PJ [.list (nl L), .list (X.map tupN), .list (M.map tupN)]=some (.own (X.map (QC (DD L M)))):=by
 have sl:=FL
 let LV:Option Sl:=some (.val (.list (nl L)))
 let XV:Option Sl:=some (.val (.list (X.map tupN)))
 let MV:Option Sl:=some (.val (.list (M.map tupN)))
 refine EK (ρ:= [LV,XV,MV,none]) rfl rfl ?_;unfold b_q47;have cl:=JF (L:=L) (most:=most) (M:=M) hM;have cl2:(FS L M).length<=7*100:=Nat.le_trans cl (Nat.mul_le_mul hl hm);rw [ML,List.length_map] at cl2
 refine BT (CF (ds:= [.list (nl L), .list (M.map tupN)]) rfl (gW hL hM hm hl h4)) ?_;refine G4 (DN (F2 (ds:=X.map tupN) (es:=X.map (QC (DD L M))) rfl (by rw [A9];omega) (CI fun x hx1=> ?_)) rfl)
 have inner:(mLC (CC [some 1,none]) (C6 (mVar 0)) (gVar 1) mYes (mCall R5 (mCons (mVar 1) (mCons (mVar 0) mNil)))) [some (.val (.list (FS L M))),some (.val (tupN x))]=some (.own (il ((DD L M).map fun c=>Tr.valAt c.1 c.2 x))):=by
  refine F2 (ds:=FS L M) rfl (by rw [ML,A9];omega) ?_;rw [ML];refine (CI (en:=fun c:List Nat×List Nat=>NE c.1 c.2) (g:=fun c=> .int (Tr.valAt c.1 c.2 x)) fun c hc=> ?_).trans (by simp [il]);obtain ⟨c1,c2⟩:=NA hc;obtain ⟨f1,f2,f3⟩:=TK hL (hM _ c1).2.1 c2;exact G8 (r:= .val (.int (Tr.valAt c.1 c.2 x))) rfl (CF (ds:= [NE c.1 c.2,tupN x]) rfl (nA f2 (fun t ht=>by rw [hx x hx1];exact (hM _ c1).2.1 t ht) f3))
 exact G8 (fg:=gVar 1) (ρ0:= [some (.val (.list (FS L M))),none]) (d:=tupN x) rfl inner
theorem c0{l:List Nat}(h:∀c ∈ l,0<c)(i:Nat):Tr.prodN (l.take i)<=Tr.prodN l:=by
 have e:Tr.prodN l=Tr.prodN (l.take i)*Tr.prodN (l.drop i):=by rw [<-Tr.prodN_app,List.take_append_drop]
 rw [e];exact pT _ (Tr.prodN_pos _ fun c hc=>h c (List.mem_of_mem_drop hc))
theorem U1{α β:Type}(g:α->Nat->β)(c:Nat):∀xs:List α,(xs.flatMap fun u=>(List.range c).map (g u)).length=xs.length*c
 | []=>by simp
 | x::xs=>by rw [IA,B3,U1 g c xs];simp [K2,Nat.add_comm]
theorem cE{L:List Nat}(hL:∀s ∈ L,2<=s/\s<=7){M:List (List Nat)}{most:Nat}(hM:∀e ∈ M,GX L most e)(hm:most<=100)(hl:M.length<=7)(h4:L.length<=4):QL [.list (nl L), .list (M.map tupN)]=some (.own (FS L M)):=by
 have sl:=FL
 let LV:Option Sl:=some (.val (.list (nl L)))
 let MV:Option Sl:=some (.val (.list (M.map tupN)))
 refine EK (ρ:= [LV,MV,none,none,none,none,none,none]) rfl rfl ?_;unfold b_q17;refine BT GH ?_;refine EE (P:=fun ρ=>∃z3 z4 z5 z6 z7,ρ = [LV,MV,some (.own (FS L M)),z3,z4,z5,z6,z7]) ?_ (by rintro ρ ⟨z3,z4,z5,z6,z7,rfl⟩;exact DN rfl rfl);refine FK (en:=tupN) (xs:=M) (fun i ρ=>∃z3 z4 z5 z6 z7,ρ = [LV,MV,some (.own (FS L (M.take i))),z3,z4,z5,z6,z7]) rfl ⟨_,_,_,_,_,rfl⟩ ?_ ?_
 . rintro i e ρ hi ⟨z3,z4,z5,z6,z7,rfl⟩;obtain ⟨e1,e2,e3⟩:=hM e (AJ hi)
   have hpos:∀c ∈ e.map (lv1 L),0<c:=fun c hc=>by
    obtain ⟨t,ht,rfl⟩:=BY.mp hc;have:=LF hL (e2 t ht);omega
   have le4:e.length<=4:=by
    have:e.length<=(List.range L.length).length:=by
     refine WD ?_ fun t ht=>BZ.mpr (e2 t ht);exact e1.imp fun h=>D9 h
    rw [AV] at this
    omega
   have pl:∀j,Tr.prodN ((e.take j).map (lv1 L))<=100:=fun j=>by
    have:=c0 hpos j;rw [<-List.map_take] at this
    omega
   refine ⟨_,rfl,?_⟩
   let TO:Option Sl:=some (.own (FS L (M.take i)))
   let EV:Option Sl:=some (.val (tupN e))
   refine BT (r:= .own [tupN []]) (XB (a:= .val (tupN [])) ?_) ?_
   . exact CQ (e:=none) (show 0<=sizeLine by decide)
   show Wp _ [LV,MV,TO,EV,some (.own [tupN []]),z5,z6,z7] _;refine EE (P:=fun ρ=>∃(s4:Sl) (z5 z6 z7:Option Sl),s4.dat = .list ((bk L e).map tupN)/\ρ = [LV,MV,TO,EV,some s4,z5,z6,z7]) ?_ ?_
   . refine FK (en:=enN) (xs:=e) (fun j ρ=>∃(s4:Sl) (z5 z6 z7:Option Sl),s4.dat = .list ((bk L (e.take j)).map tupN)/\ρ = [LV,MV,TO,EV,some s4,z5,z6,z7]) rfl ⟨_,_,_,_,rfl,rfl⟩ ?_ ?_
     . rintro j t ρ hj ⟨s4,z5,z6,z7,hs4,rfl⟩;obtain ⟨g1,g2,g3⟩:=LF hL (e2 t (AJ hj));have tk:e.take (j+1)=e.take j ++ [t]:=by rw [EN,hj];rfl
       refine ⟨_,rfl,?_⟩;refine BT GH ?_
       let T5:Option Sl:=some (.val (.int (t:Nat)))
       have fz:frz1 4 [LV,MV,TO,EV,some s4,T5,some (.own []),z7] = [LV,MV,TO,EV,some (.val (.list ((bk L (e.take j)).map tupN))),T5,some (.own []),z7]:=by
        cases s4 with
        | val d=>cases hs4;rfl
        | own ds=>cases hs4;rfl
        | dct ds=>cases hs4
       let B:=bk L (e.take j)
       let S4:Option Sl:=some (.val (.list (B.map tupN)))
       let g:List Nat->Nat->List Nat:=fun u s=>u ++ [s+1]
       refine EE (P:=fun ρ=>∃z7,ρ = [LV,MV,TO,EV,S4,T5,some (.own ((bk L (e.take (j+1))).map tupN)),z7]) ?_ ?_
       . refine G4 ?_;show Wp _ (frz1 4 [LV,MV,TO,EV,some s4,T5,some (.own []),z7]) _;rw [fz];refine FK (en:=tupN) (xs:=B) (fun k ρ=>∃z7,ρ = [LV,MV,TO,EV,S4,T5,some (.own (((B.take k).flatMap fun u=>(List.range (lv1 L t)).map (g u)).map tupN)),z7]) rfl ⟨_,rfl⟩ ?_ ?_
         . rintro k u ρ hk ⟨z7,rfl⟩;have tk2:B.take (k+1)=B.take k ++ [u]:=by rw [EN,hk];rfl
           have lu:u.length<=4:=by
            rw [fN (AJ hk),DK];omega
           refine ⟨_,rfl,FG (r:= .own (((B.take (k+1)).flatMap fun u=>(List.range (lv1 L t)).map (g u)).map tupN)) ?_ ⟨_,rfl⟩⟩;refine (AT (op:=dAdd) (a:= .own (((B.take k).flatMap fun u=>(List.range (lv1 L t)).map (g u)).map tupN)) rfl (F2 (ds:=FA 1 (lv1 L t)) (es:=((List.range (lv1 L t)).map (g u)).map tupN) ?_ ?_ ?_)).trans ?_
           . have:=SO (i:=1) (j:=lv1 L t+1) (f:=(mConsP (mK (.int 1)) (mConsP (mBin dix (mPk 0) (mPk 5)) mNilP))) (ρ:= [LV,MV,TO,EV,S4,T5,some (.own (((B.take k).flatMap fun u=>(List.range (lv1 L t)).map (g u)).map tupN)),some (.val (tupN u))]) (E4 (a:= .val (.int 1)) rfl (E4 (as:= []) ((AT (op:=dix) (a:= .val (.list (nl L))) (b:= .val (.int (t:Nat))) rfl rfl).trans (FE (.inl rfl) g1)) rfl)) (by decide) (by omega);exact this
           . rw [show (FA 1 (lv1 L t)).length=lv1 L t by simp [FA]];omega
           . refine (KK (g:=fun s=>tupN (u ++ [s+1])) fun s hs=>G8 (r:= .val (tupN (u ++ [s+1]))) rfl ?_).trans (by rw [EX];rfl);refine (AT (op:=dAdd) (a:= .val (tupN u)) rfl (zL (a:= .val (.int (1+(s:Nat)))) rfl)).trans ?_;show (if (nl u).length+1<=sizeLine then some (Sl.val (.tuple (nl u ++ [.int (1+(s:Nat))]))) else none)=_;rw [CQ (by rw [IH];omega),tupN,NI,show 1+(s:Int)=((s+1:Nat):Int) by omega];rfl
           . refine (IS rfl rfl ?_).trans ?_
             . rw [<-B3, <-CP,A9];have e1:((B.take k).flatMap fun u=>(List.range (lv1 L t)).map (g u))++(List.range (lv1 L t)).map (g u)=(B.take (k+1)).flatMap fun u=>(List.range (lv1 L t)).map (g u):=by rw [tk2,GY];simp
               rw [e1,U1,DK];have:=pl (j+1);rw [tk,CP,Tr.prodN_app,show Tr.prodN ([t].map (lv1 L))=lv1 L t by simp [Tr.prodN], <-SG] at this
               have:min (k+1) B.length*lv1 L t<=B.length*lv1 L t:=JA _ (Nat.min_le_right _ _);have h3:B.length*lv1 L t<=100:=by assumption
               omega
             . rw [tk2,GY,CP];simp
         . rintro ρ ⟨z7,rfl⟩;refine ⟨z7,?_⟩;rw [BV (AA _),tk,lQ L _ t (by omega)]
       . rintro ρ ⟨z7,rfl⟩;exact G4 (FG (r:= .val (.list ((bk L (e.take (j+1))).map tupN))) rfl ⟨_,_,_,_,rfl,rfl⟩)
     . rintro ρ ⟨s4,z5,z6,z7,hs4,rfl⟩;rw [BV (AA _)] at hs4
       exact ⟨s4,z5,z6,z7,hs4,rfl⟩
   . rintro ρ ⟨s4,z5,z6,z7,hs4,rfl⟩
     have fz:frz1 4 [LV,MV,TO,EV,some s4,z5,z6,z7] = [LV,MV,TO,EV,some (.val (.list ((bk L e).map tupN))),z5,z6,z7]:=by
      cases s4 with
      | val d=>cases hs4;rfl
      | own ds=>cases hs4;rfl
      | dct ds=>cases hs4
     refine G4 ?_;rw [fz];have tk:M.take (i+1)=M.take i ++ [e]:=by rw [EN,hi];rfl
     have cl:=JF (L:=L) (most:=most) (M:=M.take (i+1)) fun e he=>hM e (wY he);have tl:(M.take (i+1)).length<=7:=by rw [DK];omega
     have c2:(FS L (M.take (i+1))).length<=7*100:=BH cl (EY tl hm);rw [tk,JO,B3] at c2
     have bl:(bk L e).length<=100:=by rw [SG];omega
     refine FG (r:= .own (FS L (M.take (i+1)))) ?_ ⟨_,_,_,_,_,rfl⟩;refine (AT (op:=dAdd) (a:= .own (FS L (M.take i))) rfl (F2 (ds:=(bk L e).map tupN) (es:=(bk L e).map (NE e)) rfl (by rw [A9];omega) (CI fun u _=>G8 (r:= .val (NE e u)) rfl (nK (a:= .val (tupN e)) (b:= .val (tupN u)) rfl rfl)))).trans ?_;refine (IS rfl rfl (by omega)).trans ?_;rw [tk,JO]
 . rintro ρ ⟨z3,z4,z5,z6,z7,rfl⟩;rw [BV (AA _)];exact ⟨_,_,_,_,_,rfl⟩
theorem uY(l:List Nat):(PyData.list (nl l)).canLay0=true:=M9 (en:=fun n:Nat=>PyData.int (n:Int)) (fun _=>rfl) l
theorem vI(l:List Nat):(PyData.list (nl l)).depth<=3:=by
 have:=MF (en:=fun n:Nat=>PyData.int (n:Int)) (k:=1) (fun x=>by simp [PyData.depth]) l;simp only [PyData.depth,nl];omega
theorem SN(M:List (List Nat)):(PyData.list (M.map tupN)).canLay0=true:=M9 (en:=tupN) T0 M
theorem TC(M:List (List Nat)):(PyData.list (M.map tupN)).depth<=5:=by
 have:=MF (en:=tupN) (k:=3) Y2 M;simp only [PyData.depth];omega
theorem aP:∀ {xs:List PyData},(∀d ∈ xs,d.canLay0=true)->PyData.canLayAll0 xs=true
 | [],_=>rfl
 | x::xs,h=>by rw [PyData.canLayAll0,h x BU,aP fun d hd=>h d (B6 _ hd)];rfl
theorem ZA{k:Nat}:∀ {xs:List PyData},(∀d ∈ xs,d.depth<=k)->PyData.depthAll xs<=k
 | [],_=>DL _
 | x::xs,h=>by rw [PyData.depthAll];exact Nat.max_le.mpr ⟨h x BU,ZA fun d hd=>h d (B6 _ hd)⟩
def MP(P:List (List Nat×List Nat))(x:List Nat):List PyData:=il (P.map fun c=>Tr.valAt c.1 c.2 x)
theorem dN(k s:Nat)(hk:k<=7):W8 [.int k, .int s]=some (.val (.int (Tr.con k s))):=by
 refine EK (ρ:= [some (.val (.int k)),some (.val (.int s))]) rfl rfl ?_;unfold b_q18 Tr.con
 by_cases h1:s<k
 . rw [CQ h1];exact L3 (KO (by show some (decide ((s:Int)<(k:Int)))=_;rw [D5 (by omega)]) (DN rfl rfl))
 . rw [C9 h1];refine MC (by show some (decide ((s:Int)<(k:Int)))=_;rw [BW (by omega)]) ?_;have ei:(mCallP dInt (mConsP (mBin deq (mPk 1) (mPk 0)) mNilP)) [some (.val (.int k)),some (.val (.int s))]=some (.val (.int (if decide ((s:Int)=(k:Int)) then 1 else 0))):=EQ (ss:= [.val (.bool (decide ((s:Int)=(k:Int))))]) (E4 (as:= []) ((AT (op:=deq) (a:= .val (.int s)) (b:= .val (.int k)) rfl rfl).trans (ZX _ _)) rfl) rfl;refine DN (r:= .val (.int (if s=k then -(k:Int) else 0))) ?_ rfl;refine (AT (op:=dRep) (a:= .val (.int (0 - (k:Int)))) rfl ei).trans ((ID (cmL (by omega) (by omega))).trans ?_)
   by_cases h2:s=k
   . rw [CQ h2,D5 (by omega)];simp
   . rw [C9 h2,BW (by omega)];simp
def enC(c:List Nat×List Nat):PyData:=NE c.1 c.2
theorem jD {L : List Nat} (hL : ∀ s ∈ L, 2 <= s /\ s <= 7) {M : List (List Nat)} {most : Nat} (hM : ∀ e ∈ M, GX L most e) (hm : most <= 100) (hl : M.length <= 7) (h4 : L.length <= 4) {X : List (List Nat)} (hX : X.length <= 900) (hx : ∀ x ∈ X, x.length = L.length) :
 QZ [.list (nl L), .list (X.map tupN), .list (M.map tupN)]=some (.own (X.map fun x=> .list (MP (DD L M) x))):=by
 have sl:=FL
 let LV:Option Sl:=some (.val (.list (nl L)))
 let XV:Option Sl:=some (.val (.list (X.map tupN)))
 let MV:Option Sl:=some (.val (.list (M.map tupN)))
 let P:=DD L M
 have cl:=JF (L:=L) (most:=most) (M:=M) hM;have cl2:(FS L M).length<=7*100:=BH cl (EY hl hm);rw [ML,A9] at cl2
 have pl:P.length<=700:=cl2;refine EK (ρ:= [LV,XV,MV,none,none,none,none,none,none,none,none]) rfl rfl ?_;unfold b_q25;refine BT GH ?_;refine EE (P:=fun ρ=>∃z4 z5 z6 z7 z8 z9 z10,ρ = [LV,XV,MV,some (.own (X.map fun x=> .list (MP P x))),z4,z5,z6,z7,z8,z9,z10]) ?_ (by rintro ρ ⟨z4,z5,z6,z7,z8,z9,z10,rfl⟩;exact DN rfl rfl);refine FK (en:=tupN) (xs:=X) (fun i ρ=>∃z4 z5 z6 z7 z8 z9 z10,ρ = [LV,XV,MV,some (.own ((X.take i).map fun x=> .list (MP P x))),z4,z5,z6,z7,z8,z9,z10]) rfl ⟨_,_,_,_,_,_,_,rfl⟩ ?_ ?_
 . rintro i x ρ hi ⟨z4,z5,z6,z7,z8,z9,z10,rfl⟩;obtain ⟨hil,_⟩:=AX.mp hi;have hxl:=hx x (AJ hi)
   let TO:Option Sl:=some (.own ((X.take i).map fun x=> .list (MP P x)))
   let X4:Option Sl:=some (.val (tupN x))
   refine ⟨_,rfl,BT GH ?_⟩;show Wp _ [LV,XV,MV,TO,X4,some (.own []),z6,z7,z8,z9,z10] _;refine EE (P:=fun ρ=>∃z6 z7 z8 z9 z10,ρ = [LV,XV,MV,TO,X4,some (.own (MP P x)),z6,z7,z8,z9,z10]) ?_ ?_
   . refine FK (en:=enC) (xs:=P) (fun j ρ=>∃z6 z7 z8 z9 z10,ρ = [LV,XV,MV,TO,X4,some (.own (MP (P.take j) x)),z6,z7,z8,z9,z10]) ?_ ⟨_,_,_,_,_,rfl⟩ ?_ ?_
     . unfold C6;rw [CF (F:=QL) (f:=mCons (mVar 0) (mCons (mVar 2) mNil)) (ds:= [.list (nl L), .list (M.map tupN)]) rfl (cE hL hM hm hl h4)];show some (FS L M)=_;rw [ML];rfl
     . rintro j ⟨e,u⟩ ρ hj ⟨z6,z7,z8,z9,z10,rfl⟩;obtain ⟨hjl,_⟩:=AX.mp hj;obtain ⟨c1,c2⟩:=NA (AJ hj);obtain ⟨f1,u7,eul⟩:=TK hL (hM _ c1).2.1 c2;have he:∀t ∈ e,t<x.length:=fun t ht=>by rw [hxl];exact (hM _ c1).2.1 t ht
       let RO:Option Sl:=some (.own (MP (P.take j) x))
       let E6:Option Sl:=some (.val (tupN e))
       let U7:Option Sl:=some (.val (tupN u))
       refine ⟨[LV,XV,MV,TO,X4,RO,E6,U7,z8,z9,z10],rfl,BT (r:= .val (.int 1)) rfl ?_⟩;refine EE (P:=fun ρ=>∃z9 z10,ρ = [LV,XV,MV,TO,X4,RO,E6,U7,some (.val (.int (Tr.valAt e u x))),z9,z10]) ?_ ?_
       . refine FK (en:=enP) (xs:=List.zip e u) (fun l ρ=>∃(p:Int) (z9 z10:Option Sl),ρ = [LV,XV,MV,TO,X4,RO,E6,U7,some (.val (.int p)),z9,z10]/\p*Tr.valAt (e.drop l) (u.drop l) x=Tr.valAt e u x) ?_ ⟨1,_,_,rfl,by simp⟩ ?_ ?_
         . show some (KA (nl e) (nl u))=_;rw [T6]
         . rintro l ⟨t,k⟩ ρ hl2 ⟨p,z9,z10,rfl,hp⟩;obtain ⟨d1,d2,m1,m2⟩:=VU hl2;have hk:=u7 k m2;have ht:=he t m1;refine ⟨[LV,XV,MV,TO,X4,RO,E6,U7,some (.val (.int p)),some (.val (.int (t:Nat))),some (.val (.int (k:Nat)))],rfl,?_⟩;have hc:=Tr.con_abs (k:=k) (s:=x.getD t 0) hk
           have gx:(nl x)[t]? = some (.int ((x.getD t 0:Nat):Int)):=by
            unfold nl;rw [List.getElem?_map,List.getElem?_eq_getElem ht];simp [List.getD,List.getElem?_eq_getElem ht]
           refine FG (r:= .val (.int (p*Tr.con k (x.getD t 0)))) ((AT (op:=dRep) (a:= .val (.int p)) rfl (CF (ds:= [.int (k:Nat), .int ((x.getD t 0:Nat):Int)]) (D0 (a:= .val (.int (k:Nat))) rfl (D0 (as:= []) ((AT (op:=dix) (a:= .val (tupN x)) (b:= .val (.int (t:Nat))) rfl rfl).trans (FE (.inr rfl) gx)) rfl)) (dN k _ hk))).trans (ID (cmR (by omega) (by omega)))) ⟨_,_,_,rfl,?_⟩;rw [<-hp,d1,d2,Tr.valAt,HI]
         . rintro ρ ⟨p,z9,z10,rfl,hp⟩
           have e0:Tr.valAt (e.drop (List.zip e u).length) (u.drop (List.zip e u).length) x=1:=by
            rw [List.length_zip,show e.length=u.length from eul,Nat.min_self,E3 (by rw [show e.length=u.length from eul];omega)];rfl
           rw [e0,L6] at hp
           subst hp;exact ⟨z9,z10,rfl⟩
       . rintro ρ ⟨w9,w10,rfl⟩;have tk:P.take (j+1)=P.take j ++ [(e,u)]:=by rw [EN,hj];rfl
         refine G4 (MG (JT (r:= .val (.int (Tr.valAt e u x))) (ds:=MP (P.take j) x) rfl rfl ?_) ⟨E6,U7,some (.val (.int (Tr.valAt e u x))),w9,w10,?_⟩)
         . show (MP (P.take j) x).length<sizeLine;rw [MP,SQ,A9,DK];omega
         . rw [tk];simp only [MP,CP,XU];rfl
     . rintro ρ ⟨z6,z7,z8,z9,z10,rfl⟩;rw [BV (AA _)];exact ⟨_,_,_,_,_,rfl⟩
   . rintro ρ ⟨z6,z7,z8,z9,z10,rfl⟩;have tk:X.take (i+1)=X.take i ++ [x]:=by rw [EN,hi];rfl
     refine G4 (MG (JT (r:= .val (.list (MP P x))) (ds:=(X.take i).map fun x=> .list (MP P x)) rfl rfl ?_) ⟨X4,some (.val (.list (MP P x))),z6,z7,z8,z9,z10,?_⟩)
     . rw [A9,DK];omega
     . rw [tk,CP];rfl
 . rintro ρ ⟨z4,z5,z6,z7,z8,z9,z10,rfl⟩;rw [BV (AA _)];exact ⟨_,_,_,_,_,_,_,rfl⟩
theorem eY{L:List Nat}(hL:∀s ∈ L,2<=s/\s<=7)(h4:L.length<=4){cs:List Int}(hc:cs.length<=900):∃X:List (List Nat),RK [.list (il cs), .list (nl L)]=some (.own (X.map tupN))/\X.length=cs.length/\∀x ∈ X,x.length=L.length:=by
 have sl:=FL
 let CV:Option Sl:=some (.val (.list (il cs)))
 let LV:Option Sl:=some (.val (.list (nl L)))
 have key:Wp b_q23 [CV,LV,none,none,none,none,none] (fun o=>∃(X:List (List Nat)) (ρ':En),o = .rt (.own (X.map tupN)) ρ'/\X.length=cs.length/\∀x ∈ X,x.length=L.length):=by
  unfold b_q23;refine BT GH ?_;refine EE (P:=fun ρ=>∃(X:List (List Nat)) (z3 z4 z5 z6:Option Sl),ρ = [CV,LV,some (.own (X.map tupN)),z3,z4,z5,z6]/\X.length=cs.length/\∀x ∈ X,x.length=L.length) ?_ (by rintro ρ ⟨X,z3,z4,z5,z6,rfl,h1,h2⟩;exact DN rfl ⟨X,_,rfl,h1,h2⟩);refine FK (en:=PyData.int) (xs:=cs) (fun i ρ=>∃(X:List (List Nat)) (z3 z4 z5 z6:Option Sl),ρ = [CV,LV,some (.own (X.map tupN)),z3,z4,z5,z6]/\X.length=i/\∀x ∈ X,x.length=L.length) rfl ⟨[],_,_,_,_,rfl,rfl,by simp⟩ ?_ (fun ρ h=>h);rintro i c ρ hi ⟨X,z3,z4,z5,z6,rfl,h1,h2⟩;obtain ⟨hil,_⟩:=List.getElem?_eq_some_iff.mp hi;refine ⟨_,rfl,?_⟩
  let XO:Option Sl:=some (.own (X.map tupN))
  let C3:Option Sl:=some (.val (.int c))
  have lg:∀t,t<L.length->(nl L)[t]? = some (.int ((lv1 L t+1:Nat):Int)):=fun t ht=>(LF hL ht).1;have lb:∀t,t<L.length->lv1 L t<=6:=fun t ht=>(LF hL ht).2.2;have rl:∀z4 z5 z6,(EZ (mConsP (mCallP dLen (mConsP (mPk 1) mNilP)) mNilP)) [CV,LV,XO,C3,z4,z5,z6]=some (FA 0 L.length):=fun z4 z5 z6=>GQ (j:=L.length) (E4 (a:= .val (.int ((L.length:Nat):Int))) (as:= []) (EQ (ss:= [.val (.list (nl L))]) rfl (by show some (Sl.val (.int ((nl L).length:Nat)))=_;rw [IH])) rfl) (by omega)
  obtain ⟨w,ew,lw,_⟩:=UG (α:=Nat) (en:=enN) (P:=fun _=>True) (f:=elM (gVar 2) mYes (mBin FB (mCall JY (mCons (mVar 0) (mCons (mBin dAdd (mK (.int 240)) (mPk 2)) mNil))) (mBin dix (mPk 1) (mPk 2))) [C3,LV,none]) (ds:=FA 0 L.length) (by
   intro d hd;obtain ⟨k,hk,rfl⟩:=BY.mp hd;have hk:=BZ.mp hk;obtain ⟨v,ev⟩:=MB (args:=(mCons (mVar 0) (mCons (mBin dAdd (mK (.int 240)) (mPk 2)) mNil))) (ρ:= [C3,LV,some (.val (.int (0+(k:Nat))))]) (c:=c) (j:=240+(0+(k:Nat))) rfl (by omega) (by omega);obtain ⟨y,ey,_⟩:=GN ev (fb:=mBin dix (mPk 1) (mPk 2)) (m:=((lv1 L k+1:Nat):Int)) ((AT (op:=dix) (a:= .val (.list (nl L))) (b:= .val (.int (k:Nat))) rfl (by show some (Sl.val (.int (0+(k:Nat))))=_;rw [K8])).trans (FE (.inl rfl) (lg k hk))) (by omega);exact ⟨y,G8 (r:= .val (.int y)) rfl ey,trivial⟩)
  have lw:w.length=L.length:=by rw [lw];simp [FA]
  refine BT (r:= .own (nl w)) (F2 (rl _ _ _) (by simp [FA];omega) ew) ?_;refine BT (r:= .val (.int (c.fdiv 2))) ((AT (op:=EC) (a:= .val (.int c)) (b:= .val (.int 2)) rfl rfl).trans (JZ (by decide) (by decide))) ?_;refine EE (P:=fun ρ=>∃(w:List Nat) (z5 z6:Option Sl),ρ = [CV,LV,XO,C3,some (.own (nl w)),z5,z6]/\w.length=L.length) ?_ ?_
  . refine JC (n:=L.length) (fun k ρ=>∃(w:List Nat) (l:Int) (z6:Option Sl),ρ = [CV,LV,XO,C3,some (.own (nl w)),some (.val (.int l)),z6]/\w.length=L.length) (rl _ _ _) ⟨w,_,_,rfl,lw⟩ ?_ (by rintro ρ ⟨w,l,z6,rfl,h⟩;exact ⟨w,_,_,rfl,h⟩);rintro k ρ hk ⟨w,l,z6,rfl,lw⟩;refine ⟨_,rfl,?_⟩
    let ρ0:En:= [CV,LV,XO,C3,some (.own (nl w)),some (.val (.int l)),some (.val (.int (k:Nat)))]
    obtain ⟨q,eq,_⟩:=GN (fa:=mPk 3) (fb:=mK (.int 2)) (ρ:=ρ0) (i:=c) rfl rfl (by decide);refine MD (GR eq rfl) ?_
    cases decide ((q:Int)=1)
    . exact HA ⟨w,l,_,rfl,lw⟩
    . have lk:∀w':List Nat,mBin dix (mPk 1) (mPk 6) [CV,LV,XO,C3,some (.own (nl w')),some (.val (.int l)),some (.val (.int (k:Nat)))]=some (.val (.int ((lv1 L k+1:Nat):Int))):=fun w'=>(AT (op:=dix) (a:= .val (.list (nl L))) (b:= .val (.int (k:Nat))) rfl rfl).trans (FE (.inl rfl) (lg k hk));obtain ⟨y,ey,_⟩:=GN (fa:=mPk 5) (fb:=mBin dix (mPk 1) (mPk 6)) (ρ:=ρ0) (i:=l) (m:=((lv1 L k+1:Nat):Int)) rfl (lk w) (by omega)
      have st:mSet 4 (mPk 6) (mBin FB (mPk 5) (mBin dix (mPk 1) (mPk 6))) ρ0=some (.nx [CV,LV,XO,C3,some (.own (nl (w.set k y))),some (.val (.int l)),some (.val (.int (k:Nat)))]):=by
       refine (v9 (r:= .val (.int y)) (ds:=nl w) (j:=k) (k:=(k:Nat)) ey rfl rfl ?_).trans ?_
       . unfold ixN;rw [if_pos (by omega),if_pos (by rw [IH];omega)];simp
       . unfold nl;rw [List.map_set];rfl
      have b6:=lb k hk;exact GM st (FG (r:= .val (.int (l.fdiv ((lv1 L k+1:Nat):Int)))) ((AT (op:=EC) (a:= .val (.int l)) rfl (lk _)).trans (JZ (by omega) (by omega))) ⟨w.set k y,_,_,rfl,by rw [CD];exact lw⟩)
  . rintro ρ ⟨w,z5,z6,rfl,lw⟩;refine MG (JT (r:= .val (tupN w)) (ds:=X.map tupN) rfl rfl (by rw [A9];omega)) ⟨X ++ [w],C3,some (.own (nl w)),z5,z6,?_,by simp [h1],?_⟩
    . rw [CP];rfl
    . intro x hx;rcases CN.mp hx with h | h
      . exact h2 x h
      . cases AD.mp h
        exact lw
 obtain ⟨o,h1,X,ρ',rfl,h2⟩:=key;exact ⟨X,GC (ρ:= [CV,LV,none,none,none,none,none]) rfl rfl ⟨ρ',h1⟩,h2⟩
theorem V9{f:Nat->Int}:∀n,(∀i,i<n->f i=1)->prodN n f=1
 | 0,_=>rfl
 | n+1,h=>by
  have e:=V9 n fun i hi=>h i (by omega);simp only [prodN,e,h n (by omega)];rfl
theorem YZ{N m:Nat}{R:Ba.Mx}(h1:1<=N)(hN:N<=200)(hm1:1<=m)(hm:m<=4)(hR:∀k,k<N->∀j,j<m->Bt 30 (R k j))(hG:∀i,i<m->∀j,j<m->Bt 30 (Ba.gram N R i j)):NW [.list (C4 N m R)]=some (.val (.int (Ba.det m (Ba.gram N R)))):=by
 have cp:=vR (R:=R) (m:=m) h1 hN (by omega) fun k hk j hj=>(hR k hk j hj).mono (by decide)
 have tk:TabOk m m 1 (2 ^ 30) (tz (Ba.gram N R)):=rH hm1 (by omega) (by omega) (J9 (by decide)) (fun i hi j hj=>HY (hG i hi j hj)) (by
  rw [show 32*2 ^ 30=2 ^ 35 by decide, <-Nat.pow_mul];exact Nat.pow_lt_pow_right (by decide) (by omega))
 obtain ⟨q,e,q0,g,x⟩:=pP tk (by rw [wX,wX];exact Nat.one_lt_two_pow (by decide));have pr:prodN m (fun i=>cbN (tz (Ba.gram N R) i) m)=1:=V9 m fun i _=>XL (a:=Ba.gram N R i) m;rw [pr,yY,L6] at x
 have eq:q=(Ba.det m (Ba.gram N R),1):=by
  obtain ⟨a,b⟩:=q;exact XF q0 (by decide) g (by simp) (by rw [L6];exact x)
 rw [eq] at e
 refine EK (ρ:= [some (.val (.list (C4 N m R)))]) rfl rfl ?_;unfold b_q52;exact DN ((AT (op:=dix) (a:= .val (NP (Ba.det m (Ba.gram N R),1))) (b:= .val (.int 0)) (CF (ds:= [L5 m m (tz (Ba.gram N R))]) (D0 (CF (ds:= [.list (C4 N m R)]) rfl cp) rfl) e) rfl).trans (fF _)) rfl
theorem QJ{α β:Type}(f:α->β)(d:α)(l:List α):l.map f=(List.range l.length).map fun i=>f (l.getD i d):=by
 refine List.ext_getElem (by simp) fun i h1 h2=> ?_;have h:i<l.length:=by simpa using h1
 simp [List.getD,B4 h]
def M7(P:List (List Nat×List Nat))(X:List (List Nat)):Ba.Mx:=fun k j=>Tr.valAt (P.getD j ([],[])).1 (P.getD j ([],[])).2 (X.getD k [])
theorem SU(P:List (List Nat×List Nat))(X:List (List Nat)):X.map (QC P)=C4 X.length P.length (M7 P X):=by
 unfold C4;rw [QJ (QC P) [] X];refine List.map_congr_left fun k _=> ?_;show PyData.list (il (P.map fun c=>Tr.valAt c.1 c.2 (X.getD k []))) = .list ((List.range P.length).map fun j=> .int (M7 P X k j));rw [QJ (fun c:List Nat×List Nat=>Tr.valAt c.1 c.2 (X.getD k [])) ([],[]) P];unfold il;rw [List.map_map];rfl
theorem gB{n:Nat}:∀(e:List Nat) (lo:Nat),e.Pairwise (· < ·)->(∀t ∈ e,lo<=t/\t<n)->e.length<=n - lo
 | [],_,_,_=>by simp
 | t::r,lo,hp,h=>by
  have ht:=h t (by simp);have ih:=gB r (t+1) (KF.mp hp).2 fun s hs=>⟨(KF.mp hp).1 s hs,(h s (by simp [hs])).2⟩;rw [BS];omega
theorem UK(L:List Nat)(M:List (List Nat)):(DD L M).length=tot L M:=by
 simp [DD,tot,List.length_flatMap,SG]
theorem o6{L:List Nat}(hL:∀s ∈ L,2<=s/\s<=7){M:List (List Nat)}{most:Nat}(hM:∀e ∈ M,GX L most e)(h:1<=M.length):1<=tot L M:=by
 cases M with
 | nil=>simp at h
 | cons e M=>
  have:=Tr.prodN_pos (e.map (lv1 L)) fun c hc=>by
   obtain ⟨t,ht,rfl⟩:=BY.mp hc;have:=(LF hL ((hM e (by simp)).2.1 t ht)).2.1;omega
  simp only [tot,CU,List.sum_cons];omega
theorem LR{L:List Nat}(hL:∀s ∈ L,2<=s/\s<=7)(h4:L.length<=4){M:List (List Nat)}{most:Nat}(hM:∀e ∈ M,GX L most e)(X:List (List Nat))(k:Nat){j:Nat}(hj:j<(DD L M).length):Bt 12 (M7 (DD L M) X k j):=by
 unfold M7;have e:(DD L M).getD j ([],[])=(DD L M)[j]:=by simp [List.getD,List.getElem?_eq_getElem hj]
 rw [e];obtain ⟨c1,c2⟩:=NA (WC hj);obtain ⟨_,u7,_⟩:=TK hL (hM _ c1).2.1 c2;have v:=Tr.val_abs (x:=X.getD k []) (e:=(DD L M)[j].1) u7;have l:=gB (n:=L.length) _ 0 (hM _ c1).1 fun t ht=>⟨DL _,(hM _ c1).2.1 t ht⟩;have p:7 ^ (DD L M)[j].1.length<=7 ^ 4:=DY (by decide) (by omega);show _<2 ^ 12;have:7 ^ 4<2 ^ 12:=by decide
 omega
theorem WO {L : List Nat} (hL : ∀ s ∈ L, 2 <= s /\ s <= 7) {M : List (List Nat)} {most : Nat} (hM : ∀ e ∈ M, GX L most e) (hm : most <= 100) (hl : M.length <= 7) (h4 : L.length <= 4) {X : List (List Nat)} (hX : X.length <= 200) (hX1 : 1 <= X.length) (hx : ∀ x ∈ X, x.length = L.length) (p1 : 1 <= (DD L M).length) (p4 : (DD L M).length <= 4) (hG : ∀ i, i < (DD L M).length -> ∀ j, j < (DD L M).length -> Bt 30 (Ba.gram X.length (M7 (DD L M) X) i j)) :
 PV [.list (nl L), .list (X.map tupN), .list (M.map tupN)]=some (.val (.int (Ba.det (DD L M).length (Ba.gram X.length (M7 (DD L M) X))))):=by
 refine EK (ρ:= [some (.val (.list (nl L))),some (.val (.list (X.map tupN))),some (.val (.list (M.map tupN)))]) rfl rfl ?_;unfold b_q51;have tb:=aT hL hM hm hl h4 (X:=X) (by omega) hx;rw [SU] at tb
 exact DN (CF (ds:= [.list (C4 X.length (DD L M).length (M7 (DD L M) X))]) (D0 (CF (ds:= [.list (nl L), .list (X.map tupN), .list (M.map tupN)]) rfl tb) rfl) (YZ hX1 (by omega) p1 p4 (fun k _ j hj=>(LR hL h4 hM X k hj).mono (by decide)) hG)) rfl
def sgn(j:Nat):Int:=1 - 2*((j % 2:Nat):Int)
def mnr(M:Ba.Mx)(j:Nat):Ba.Mx:=fun r c=>M (r+1) (if c<j then c else c+1)
def ld:Nat->Ba.Mx->Int
 | 0,_=>1
 | n+1,M=>Ba.sumN (n+1) (fun j=>sgn j*M 0 j*ld n (mnr M j))
theorem Y6(j:Nat):(sgn j).natAbs=1:=by unfold sgn;omega
theorem qP:∀ {n:Nat} {M:Ba.Mx},n<=8->(∀r,r<n->∀c,c<n->Bt 30 (M r c))->Bt (37*n+1) (ld n M)
 | 0,_,_,_=>by show (1:Int).natAbs<2 ^ 1;decide
 | n+1,M,hn,h=>by
  rw [ld];refine (bt_sum (p:=37*n+31) hn fun j hj=> ?_).mono (by omega)
  have h1:=qP (n:=n) (M:=mnr M j) (by omega) fun r hr c hc=>by
   unfold mnr;refine h _ (by omega) _ ?_
   split <;> omega
  have h2:=(h 0 (by omega) j hj).mul h1;show (sgn j*M 0 j*ld n (mnr M j)).natAbs<_;rw [HI,FF,Y6,Nat.one_mul];exact B2 h2 (DY (by decide) (by omega))
def Y9 (mF : List PyData -> Option Sl) : En -> Option Out :=
 (mSeq (mIf (mTest (mBin deq (mCallP dLen (mConsP (mPk 0) mNilP)) (mK (.int 0)))) (mRet (mK (.int 1))) mNext)
 (mSeq (mAsg 1 (mK (.int 0)))
 (mSeq (F6 (EZ (mConsP (mCallP dLen (mConsP (mPk 0) mNilP)) mNilP)) (gVar 2) (mSeq (mAsg 3 (mK (.int 0)))
 (mSeq (mIf (mTest (mBin dne (mBin dix (mBin dix (mPk 0) (mK (.int 0))) (mPk 2)) (mK (.int 0)))) (mAsg 3 (mCall mF (mCons (mLC (CC [some 2,none]) (mItems (mSl (mPk 0) (mPart (mK (.int 1))) mNoPart)) (gVar 1) mYes (mBin dAdd (mSl (mPk 1) mNoPart (mPart (mPk 0))) (mSl (mPk 1) (mPart (mBin dAdd (mPk 0) (mK (.int 1)))) mNoPart))) mNil))) mNext)
 (mAsg 1 (mBin dAdd (mPk 1) (mBin dRep (mBin dRep (mBin dSub (mK (.int 1)) (mBin dRep (mK (.int 2)) (mBin FB (mPk 2) (mK (.int 2))))) (mBin dix (mBin dix (mPk 0) (mK (.int 0))) (mPk 2))) (mPk 3)))))))
 (mRet (mPk 1)))))
theorem UN{mF:List PyData->Option Sl}:EJ 4 (Y9 mF) 1 [.list []]=some (.val (.int 1)):=by
 refine EK (ρ:= [some (.val (.list [])),none,none,none]) rfl rfl ?_;unfold Y9;exact L3 (KO (GR (i:=0) (j:=0) rfl rfl) (DN rfl rfl))
theorem rN{f:En->Option Sl}{ρ:En}{j:Nat}(h:f ρ=some (.val (.int (j:Nat)))):(mBin dSub (mK (.int 1)) (mBin dRep (mK (.int 2)) (mBin FB f (mK (.int 2))))) ρ=some (.val (.int (sgn j))):=by
 refine (AT (op:=dSub) (a:= .val (.int 1)) rfl ((AT (op:=dRep) (a:= .val (.int 2)) rfl ((AT (op:=FB) h rfl).trans (QB (by decide)))).trans (ID (cmL (by decide) (by decide))))).trans ?_;show some (Sl.val (.int (1 - 2*(j:Int).fmod 2)))=_;unfold sgn;rw [Int.fmod_eq_emod_of_nonneg _ (by decide)];congr 5
theorem ZZ{mF:List PyData->Option Sl}{n:Nat}{M:Ba.Mx}(hn:n<=7)(hM:∀r,r<n+1->∀c,c<n+1->Bt 30 (M r c))(h:∀M':Ba.Mx,(∀r,r<n->∀c,c<n->Bt 30 (M' r c))->mF [.list (C4 n n M')]=some (.val (.int (ld n M')))):EJ 4 (Y9 mF) 1 [.list (C4 (n+1) (n+1) M)]=some (.val (.int (ld (n+1) M))):=by
 have sl:=FL
 let R0:Option Sl:=some (.val (.list (C4 (n+1) (n+1) M)))
 refine EK (ρ:= [R0,none,none,none]) rfl rfl ?_;unfold Y9;have ln:∀ {a b c:Option Sl},(mCallP dLen (mConsP (mPk 0) mNilP)) [R0,a,b,c]=some (.val (.int ((n+1:Nat):Int))):=fun {a b c}=>EQ (E4 (a:= .val (.list (C4 (n+1) (n+1) M))) rfl rfl) (by simp only [dLen,Sl.dat,KU]);refine MC ((GR (i:=((n+1:Nat):Int)) (j:=0) ln rfl).trans (by rw [decide_eq_false (by omega)])) ?_;refine BT (r:= .val (.int 0)) rfl ?_;show Wp _ [R0,some (.val (.int 0)),none,none] _;refine EE (P:=fun ρ=>∃z2 z3,ρ = [R0,some (.val (.int (ld (n+1) M))),z2,z3]) ?_ (by rintro ρ ⟨z2,z3,rfl⟩;exact DN rfl rfl);refine JC (n:=n+1) (fun s ρ=>∃z2 z3,ρ = [R0,some (.val (.int (Ba.sumN s (fun j=>sgn j*M 0 j*ld n (mnr M j))))),z2,z3]) (GQ (j:=n+1) (E4 ln rfl) (by omega)) ⟨_,_,rfl⟩ ?_ (fun ρ h=>h);rintro j ρ hj ⟨z2,z3,rfl⟩;refine ⟨_,rfl,?_⟩
 let S1:Option Sl:=some (.val (.int (Ba.sumN j (fun j=>sgn j*M 0 j*ld n (mnr M j)))))
 let J2:Option Sl:=some (.val (.int (j:Nat)))
 refine BT (r:= .val (.int 0)) rfl ?_
 let Z3:Option Sl:=some (.val (.int 0))
 show Wp _ [R0,S1,J2,Z3] _
 have bm:∀r,r<n->∀c,c<n->Bt 30 (mnr M j r c):=fun r hr c hc=>by
  unfold mnr;refine hM _ (by omega) _ ?_
  split <;> omega
 have lc:(mLC (CC [some 2,none]) (mItems (mSl (mPk 0) (mPart (mK (.int 1))) mNoPart)) (gVar 1) mYes (mBin dAdd (mSl (mPk 1) mNoPart (mPart (mPk 0))) (mSl (mPk 1) (mPart (mBin dAdd (mPk 0) (mK (.int 1)))) mNoPart))) [R0,S1,J2,Z3]=some (.own (C4 n n (mnr M j))):=by
  refine F2 (ds:=(List.range n).map fun i=>EA (n+1) (M (1+i))) ?_ (by rw [A9,AV];omega) (CI fun i hi=> ?_)
  . have c:=P3 (f:=fun i=>EA (n+1) (M i)) (n:=n+1) (k:=1) (by omega);show some (GZ ((List.range (n+1)).map fun i=>EA (n+1) (M i)) (some ((1:Nat):Int)) none)=_;rw [c];rfl
  . show elM _ _ _ [J2,none] _=_;refine G8 (ρ1:= [J2,some (.val (EA (n+1) (M (1+i))))]) (r:= .own ((List.range n).map fun c=> .int (mnr M j i c))) rfl ?_;have c1:=VY (f:=fun c=> .int (M (1+i) c)) (n:=n+1) (k:=j) (by omega);have c2:=P3 (f:=fun c=> .int (M (1+i) c)) (n:=n+1) (k:=j+1) (by omega)
    have a1:(mSl (mPk 1) mNoPart (mPart (mPk 0))) [J2,some (.val (EA (n+1) (M (1+i))))]=some (.own ((List.range j).map fun c=> .int (M (1+i) c))):=by
     rw [<-c1];rfl
    have a2:(mSl (mPk 1) (mPart (mBin dAdd (mPk 0) (mK (.int 1)))) mNoPart) [J2,some (.val (EA (n+1) (M (1+i))))]=some (.own ((List.range (n - j)).map fun c=> .int (M (1+i) (j+1+c)))):=by
     rw [show n - j=n+1 - (j+1) by omega, <-c2];rfl
    refine (AT (op:=dAdd) a1 a2).trans ((IS rfl rfl (by rw [A9,A9,AV,AV];omega)).trans ?_)
    have e:((List.range (n - j)).map fun c=>PyData.int (M (1+i) (j+1+c)))=(List.range (n - j)).map fun c=>(fun c=>PyData.int (M (1+i) (c+1))) (j+c):=F8 fun c _=>by
     show PyData.int (M (1+i) (j+1+c))=PyData.int (M (1+i) (j+c+1));rw [show j+1+c=j+c+1 by omega]
    have ra:=QM (f:=fun c=>PyData.int (M (1+i) c)) (g:=fun c=>PyData.int (M (1+i) (c+1))) (n:=n) (k:=j) (by omega);rw [e];refine (congrArg (fun x=>some (Sl.own x)) ra).trans ?_;refine congrArg (fun x=>some (Sl.own x)) (List.map_congr_left fun c _=> ?_);unfold mnr;rw [show 1+i=i+1 by omega]
    split <;> rfl
 have m0:∀z:Option Sl,(mBin dix (mBin dix (mPk 0) (mK (.int 0))) (mPk 2)) [R0,S1,J2,z]=some (.val (.int (M 0 j))):=fun z=>(AT (op:=dix) ((AT (op:=dix) (a:= .val (.list (C4 (n+1) (n+1) M))) (b:= .val (.int ((0:Nat):Int))) rfl rfl).trans (iC (by omega))) (b:= .val (.int (j:Nat))) rfl).trans (L1 hj);have lb:=qP (n:=n) (by omega) bm;have b0:=hM 0 (by omega) j hj;have sb:Bt 1 (sgn j):=by show (sgn j).natAbs<2 ^ 1;rw [Y6];decide
 obtain ⟨d,hd,ed,db⟩:∃d:Int,Wp (mIf (mTest (mBin dne (mBin dix (mBin dix (mPk 0) (mK (.int 0))) (mPk 2)) (mK (.int 0)))) (mAsg 3 (mCall mF (mCons (mLC (CC [some 2,none]) (mItems (mSl (mPk 0) (mPart (mK (.int 1))) mNoPart)) (gVar 1) mYes (mBin dAdd (mSl (mPk 1) mNoPart (mPart (mPk 0))) (mSl (mPk 1) (mPart (mBin dAdd (mPk 0) (mK (.int 1)))) mNoPart))) mNil))) mNext) [R0,S1,J2,Z3] (Nx fun ρ=>ρ = [R0,S1,J2,some (.val (.int d))])/\sgn j*M 0 j*d=sgn j*M 0 j*ld n (mnr M j)/\Bt (37*n+1) d:=by
  by_cases e:M 0 j=0
  . refine ⟨0,WG ((TN (m0 _) (j:=0) rfl).trans (by rw [e];rfl)) (HA rfl),by rw [e];simp,?_⟩;show (0:Int).natAbs<_;exact J9 (by decide)
  . exact ⟨ld n (mnr M j),KO ((TN (m0 _) (j:=0) rfl).trans (by rw [BW e];rfl)) (FG (CF (ds:= [.list (C4 n n (mnr M j))]) (D0 lc rfl) (h _ bm)) rfl),rfl,lb⟩
 refine EE hd ?_;rintro ρ rfl;refine FG (r:= .val (.int (Ba.sumN (j+1) (fun j=>sgn j*M 0 j*ld n (mnr M j))))) ?_ ⟨_,_,rfl⟩;refine (AT (op:=dAdd) (a:= .val (.int (Ba.sumN j (fun j=>sgn j*M 0 j*ld n (mnr M j))))) rfl ((AT (op:=dRep) ((AT (op:=dRep) (rN (j:=j) rfl) (m0 _)).trans (ID (.inr (PY sb b0 rfl)))) (b:= .val (.int d)) rfl).trans (ID (.inr ⟨_,_,sb.mul b0,db,by omega⟩)))).trans ?_;show some (Sl.val (.int (Ba.sumN j (fun j=>sgn j*M 0 j*ld n (mnr M j))+sgn j*M 0 j*d)))=_;rw [ed];rfl
theorem iJ:∀ {n:Nat} {M:Ba.Mx},n<=4->(∀r,r<n->∀c,c<n->Bt 30 (M r c))->VW [.list (C4 n n M)]=some (.val (.int (ld n M))):=by
 have r1:∀ {n:Nat} {M:Ba.Mx},n<=0->(∀r,r<n->∀c,c<n->Bt 30 (M r c))->i6 [.list (C4 n n M)]=some (.val (.int (ld n M))):=fun {n M} hn _=>by
  have:n=0:=by omega
  subst this;exact UN
 have r2:∀ {n:Nat} {M:Ba.Mx},n<=1->(∀r,r<n->∀c,c<n->Bt 30 (M r c))->kE [.list (C4 n n M)]=some (.val (.int (ld n M))):=fun {n M} hn hM=>by
  cases n with
  | zero=>exact UN
  | succ n=>exact ZZ (by omega) hM fun M' h=>r1 (by omega) h
 have r3:∀ {n:Nat} {M:Ba.Mx},n<=2->(∀r,r<n->∀c,c<n->Bt 30 (M r c))->gP [.list (C4 n n M)]=some (.val (.int (ld n M))):=fun {n M} hn hM=>by
  cases n with
  | zero=>exact UN
  | succ n=>exact ZZ (by omega) hM fun M' h=>r2 (by omega) h
 have r4:∀ {n:Nat} {M:Ba.Mx},n<=3->(∀r,r<n->∀c,c<n->Bt 30 (M r c))->eO [.list (C4 n n M)]=some (.val (.int (ld n M))):=fun {n M} hn hM=>by
  cases n with
  | zero=>exact UN
  | succ n=>exact ZZ (by omega) hM fun M' h=>r3 (by omega) h
 intro n M hn hM
 cases n with
 | zero=>exact UN
 | succ n=>exact ZZ (by omega) hM fun M' h=>r4 (by omega) h
theorem wE{n:Nat}(M:Ba.Mx)(h:n<=4):ld n M=Ba.det n M:=by
 match n,h with
 | 0,_=>rfl
 | 1,_=>simp [ld,Ba.det,Ba.sumN,Ba.sgn,Ba.skip,sgn,mnr]
 | 2,_=>simp [ld,Ba.det,Ba.sumN,Ba.sgn,Ba.skip,sgn,mnr];grind
 | 3,_=>simp [ld,Ba.det,Ba.sumN,Ba.sgn,Ba.skip,sgn,mnr];grind
 | 4,_=>
  simp [ld,Ba.det,Ba.sumN,Ba.sgn,Ba.skip,sgn,mnr];generalize M 0 0=a00;generalize M 0 1=a01;generalize M 0 2=a02;generalize M 0 3=a03;generalize M 1 0=a10;generalize M 1 1=a11;generalize M 1 2=a12;generalize M 1 3=a13;generalize M 2 0=a20;generalize M 2 1=a21;generalize M 2 2=a22;generalize M 2 3=a23;generalize M 3 0=a30;generalize M 3 1=a31;generalize M 3 2=a32;generalize M 3 3=a33
  grind
theorem bH {L : List Nat} (hL : ∀ s ∈ L, 2 <= s /\ s <= 7) {M : List (List Nat)} {most : Nat} (hM : ∀ e ∈ M, GX L most e) (hm : most <= 100) (hl : M.length <= 7) (h4 : L.length <= 4) {X : List (List Nat)} (hX : X.length <= 8) (hX1 : 1 <= X.length) (hx : ∀ x ∈ X, x.length = L.length) (p1 : 1 <= (DD L M).length) (p4 : (DD L M).length <= 4) :
 PV [.list (nl L), .list (X.map tupN), .list (M.map tupN)]=some (.val (.int (Ba.det (DD L M).length (Ba.gram X.length (M7 (DD L M) X))))) :=
 WO hL hM hm hl h4 (by omega) hX1 hx p1 p4 fun i hi j hj=>(bt_sum (p:=12+12) hX fun k _=>(LR hL h4 hM X k hi).mul (LR hL h4 hM X k hj)).mono (by decide)
theorem WK {L : List Nat} (hL : ∀ s ∈ L, 2 <= s /\ s <= 7) {M : List (List Nat)} {most : Nat} (hM : ∀ e ∈ M, GX L most e) (hm : most <= 100) (hl : M.length <= 7) (h4 : L.length <= 4) {X : List (List Nat)} (hX : X.length <= 8) (hX1 : 1 <= X.length) (hx : ∀ x ∈ X, x.length = L.length) (p1 : 1 <= (DD L M).length) (p4 : (DD L M).length <= 4) :
 M4 [.list (nl L), .list (X.map tupN), .list (M.map tupN)]=some (.val (.int (ld (DD L M).length (Ba.gram X.length (M7 (DD L M) X))))):=by
 have sl:=FL
 let LV:Option Sl:=some (.val (.list (nl L)))
 let XV:Option Sl:=some (.val (.list (X.map tupN)))
 let MV:Option Sl:=some (.val (.list (M.map tupN)))
 have tb:=jD hL hM hm hl h4 (X:=X) (by omega) hx
 have tb:QZ [.list (nl L), .list (X.map tupN), .list (M.map tupN)]=some (.own (C4 X.length (DD L M).length (M7 (DD L M) X))):=by
  rw [<-SU];exact tb
 have hB:∀k j,j<(DD L M).length->Bt 12 (M7 (DD L M) X k j):=fun k j hj=>LR hL h4 hM X k hj;generalize (DD L M).length=m at *
 generalize M7 (DD L M) X=R at *
 generalize X.length=N at *
 have hG:∀i,i<m->∀j,j<m->Bt 30 (Ba.gram N R i j):=fun i hi j hj=>(bt_sum (p:=12+12) hX fun k _=>(hB k i hi).mul (hB k j hj)).mono (by decide);refine EK (ρ:= [LV,XV,MV,none,none,none]) rfl rfl ?_;unfold b_q27;refine BT (CF (ds:= [.list (nl L), .list (X.map tupN), .list (M.map tupN)]) rfl tb) (BT GH ?_)
 let RV:Option Sl:=some (.val (.list (C4 N m R)))
 have ln:∀ {ρ:En} {i:Nat} {s:Sl},(ρ[i]?).join=some s->s.dat = .list (C4 N m R)->(mCallP dLen (mConsP (mBin dix (mPk i) (mK (.int 0))) mNilP)) ρ=some (.val (.int (m:Nat))):=fun {ρ i s} h hs=>by
  refine EQ (ss:= [.val (EA m (R 0))]) (E4 (as:= []) ((AT (op:=dix) (a:=s) (b:= .val (.int ((0:Nat):Int))) (by unfold mPk;exact h) rfl).trans ?_) rfl) ?_
  . refine FE (.inl hs) ?_;unfold C4;rw [List.getElem?_map,List.getElem?_range hX1];rfl
  . simp only [dLen,Sl.dat,EA,A9,AV]
 refine EE (P:=fun ρ=>∃z3 z5,ρ = [LV,XV,MV,z3,some (.own (C4 m m (Ba.gram N R))),z5]) ?_ ?_
 . refine JC (n:=m) (fun i ρ=>∃z3 z5,ρ = [LV,XV,MV,z3,some (.own (C4 i m (Ba.gram N R))),z5]/\(z3=some (.own (C4 N m R))\/z3=RV)) (GQ (j:=m) (E4 (ln (i:=3) (s:= .own (C4 N m R)) rfl rfl) rfl) (by omega)) ⟨_,_,rfl, .inl rfl⟩ ?_ (by rintro ρ ⟨z3,z5,rfl,_⟩;exact ⟨_,_,rfl⟩);rintro i ρ hi ⟨z3,z5,rfl,hz⟩;refine ⟨_,rfl,G4 ?_⟩
   have fz:frz1 3 [LV,XV,MV,z3,some (.own (C4 i m (Ba.gram N R))),some (.val (.int (i:Nat)))] = [LV,XV,MV,RV,some (.own (C4 i m (Ba.gram N R))),some (.val (.int (i:Nat)))]:=by
    rcases hz with rfl | rfl <;> rfl
   show Wp _ (frz1 3 [LV,XV,MV,z3,some (.own (C4 i m (Ba.gram N R))),some (.val (.int (i:Nat)))]) _;rw [fz];refine MG (JT (r:= .own ((List.range m).map fun j=> .int (Ba.gram N R i j))) (ds:=C4 i m (Ba.gram N R)) ?_ rfl (by rw [KU];omega)) ⟨RV,some (.val (.int (i:Nat))),?_, .inr rfl⟩
   . refine F2 (ds:=FA 0 m) (GQ (j:=m) (E4 (ln (i:=3) (s:= .val (.list (C4 N m R))) rfl rfl) rfl) (by omega)) (by simp [FA];omega) ?_;refine CI (en:=fun j:Nat=> .int (0+(j:Nat))) (g:=fun j=> .int (Ba.gram N R i j)) (xs:=List.range m) fun j hj=> ?_;have hj:=BZ.mp hj;show elM _ _ _ [RV,some (.val (.int (i:Nat))),none] _=_;refine G8 (ρ1:= [RV,some (.val (.int (i:Nat))),some (.val (.int (0+(j:Nat))))]) (r:= .val (.int (Ba.gram N R i j))) rfl ?_;refine EQ (ss:= [.own ((List.range N).map fun k=> .int (R k i*R k j))]) (E4 (as:= []) (F2 (ds:=C4 N m R) rfl (by rw [KU];omega) (CI fun k hk=> ?_)) rfl) dZ;have hk:=BZ.mp hk;show elM _ _ _ [some (.val (.int (i:Nat))),some (.val (.int (0+(j:Nat)))),none] _=_;refine G8 (ρ1:= [some (.val (.int (i:Nat))),some (.val (.int (0+(j:Nat)))),some (.val (EA m (R k)))]) (r:= .val (.int (R k i*R k j))) rfl ?_;rw [K8];exact (AT (op:=dRep) ((AT (op:=dix) (a:= .val (EA m (R k))) (b:= .val (.int (i:Nat))) rfl rfl).trans (L1 hi)) ((AT (op:=dix) (a:= .val (EA m (R k))) (b:= .val (.int (j:Nat))) rfl rfl).trans (L1 hj))).trans (ID (.inr (PY (hB k i hi) (hB k j hj) rfl)))
   . show _=([LV,XV,MV,RV,some (.own (C4 (i+1) m (Ba.gram N R))),some (.val (.int (i:Nat)))]:En);unfold C4;rw [List.range_succ,List.map_append];rfl
 . rintro ρ ⟨z3,z5,rfl⟩;refine G4 (DN (CF (ds:= [.list (C4 m m (Ba.gram N R))]) rfl (iJ p4 hG)) rfl)
def lN(c:List Nat):PyData:= .list (nl c)
theorem dA{c:List Nat}{ρ:En}(h3:(ρ[3]?).join=some (.val (lN c))):(mIfE (O6 (mPk 3)) (mBin dAdd (mBin dix (mPk 3) (mUn (iun fun i=> -i) (mK (.int 1)))) (mK (.int 1))) (mK (.int 0))) ρ=some (.val (.int (Ev.fst c:Nat))):=by
 have p3:mPk 3 ρ=some (.val (lN c)):=h3;rcases IL c with e | ⟨b,l,e⟩
 . subst e
   have tr:O6 (mPk 3) ρ=some false:=by
    unfold O6;rw [p3];rfl
   unfold mIfE;rw [tr];rfl
 . rw [IM] at e
   subst e
   have tr:O6 (mPk 3) ρ=some true:=by
    unfold O6;rw [p3];show some (!(nl (b ++ [l])).isEmpty)=_;rw [NI]
    cases hb:nl b <;> rfl
   unfold mIfE;rw [tr];show (mBin dAdd (mBin dix (mPk 3) (mUn (iun fun i=> -i) (mK (.int 1)))) (mK (.int 1))) ρ=_
   have ix:(mBin dix (mPk 3) (mUn (iun fun i=> -i) (mK (.int 1)))) ρ=some (.val (.int (l:Int))):=by
    refine (AT (op:=dix) (a:= .val (lN (b ++ [l]))) (b:= .val (.int (-1))) p3 rfl).trans ?_;show (atI (nl (b ++ [l])) (-1)).map Sl.val=_
    have:atI (nl (b ++ [l])) (-1)=some (.int (l:Int)):=by
     unfold atI ixN;rw [NI,List.length_append];have h1:¬((0:Int) <= -1):=by decide
     rw [C9 h1]
     have h2 : -(((nl b).length+(nl [l]).length:Nat):Int)<=(-1:Int):=by
      show -(((nl b).length+1:Nat):Int)<=(-1:Int);omega
     rw [CQ h2]
     have h3:((-1:Int)+(((nl b).length+(nl [l]).length:Nat):Int)).toNat=(nl b).length:=by
      show ((-1:Int)+(((nl b).length+1:Nat):Int)).toNat=_;omega
     rw [h3,BJ,AB (AA _),rE];rfl
    rw [this];rfl
   rw [Ev.fst_snoc];exact (AT (op:=dAdd) ix (b:= .val (.int 1)) rfl).trans rfl
theorem lJ(n:Nat)(c:List Nat):(Ev.nx n c).map lN=((List.range (n - Ev.fst c)).map fun i=>lN (c ++ [Ev.fst c+i])):=by
 unfold Ev.nx;rw [List.map_map];rfl
theorem y9{f:En->Option (List Sl)}{ρ:En}{i j:Nat}(h:f ρ=some [.val (.int i), .val (.int j)])(hi:i<=1000)(hj:j<=1000):JW f ρ=some (FA (i:Int) (j - i)):=by
 have b:∀k:Nat,k<=1000->inB (k:Int):=fun k hk=>by
  constructor
  . have : -(2 ^ 62:Int)<=0:=by decide
    omega
  . have:(1000:Int)<2 ^ 62:=by decide
    omega
 unfold JW;rw [h];show (if inB (i:Int)/\inB (j:Int) then some (FA (i:Int) ((j:Int) - (i:Int)).toNat) else none)=_;rw [if_pos ⟨b i hi,b j hj⟩];congr 2
 omega
theorem XT{ls:List (List Nat)}{n:Nat}(hn:n<=6)(hc:∀c ∈ ls,c.length<=6/\Ev.Inc n c)(hl:ls.length<=46656):UR [.list (ls.map lN), .int (n:Int)]=some (.own ((ls.flatMap (Ev.nx n)).map lN)):=by
 have sz:300000<sizeLine:=by decide
 let L0:Option Sl:=some (.val (.list (ls.map lN)))
 let N1:Option Sl:=some (.val (.int n))
 refine EK (ρ:= [L0,N1,none,none,none]) rfl rfl ?_;unfold b_q42;refine BT GH ?_;refine EE (P:=fun ρ=>∃z3 z4,ρ = [L0,N1,some (.own ((ls.flatMap (Ev.nx n)).map lN)),z3,z4]) ?_ (by rintro ρ ⟨z3,z4,rfl⟩;exact DN rfl rfl);refine FK (en:=lN) (xs:=ls) (fun j ρ=>∃z3 z4,ρ = [L0,N1,some (.own (((ls.take j).flatMap (Ev.nx n)).map lN)),z3,z4]) rfl ⟨_,_,rfl⟩ ?_ (fun ρ h=>by rw [List.take_length] at h;exact h);rintro j c ρ hj ⟨z3,z4,rfl⟩;have tk:ls.take (j+1)=ls.take j ++ [c]:=by rw [List.take_add_one,hj];rfl
 obtain ⟨cl,ci⟩:=hc c (AJ hj);have hf:Ev.fst c<=n:=Ev.fst_le ci.2
 let D:=((ls.take j).flatMap (Ev.nx n)).map lN
 let C3:Option Sl:=some (.val (lN c))
 let F4:Option Sl:=some (.val (.int (Ev.fst c:Nat)))
 refine ⟨_,rfl,?_⟩;refine BT (dA (ρ:= [L0,N1,some (.own D),C3,z4]) rfl) ?_;show Wp _ [L0,N1,some (.own D),C3,F4] _
 have dl:D.length<=46656*6:=by
  show (((ls.take j).flatMap (Ev.nx n)).map lN).length<=_;rw [A9];have h1:=Ev.flat_le (n:=n) (Ev.nx_len n) (ls.take j);have h2:(ls.take j).length<=46656:=by rw [DK];omega
  exact BH h1 (EY h2 hn)
 refine MG (fY (ds:=D) (es:=(Ev.nx n c).map lN) (F2 (ds:=FA (Ev.fst c:Nat) (n - Ev.fst c)) (y9 rfl (by omega) (by omega)) (by unfold FA;rw [List.length_map,List.length_range];omega) ?_) rfl ?_) ⟨C3,F4,?_⟩
 . rw [lJ];unfold FA;refine CI (en:=fun i:Nat=> .int (((Ev.fst c:Nat):Int)+(i:Nat))) (g:=fun i=>lN (c ++ [Ev.fst c+i])) (xs:=List.range (n - Ev.fst c)) fun i hi=> ?_;refine G8 (fg:=gVar 1) (ρ0:= [C3,none]) (d:= .int (((Ev.fst c:Nat):Int)+(i:Nat))) (ρ1:= [C3,some (.val (.int (((Ev.fst c:Nat):Int)+(i:Nat))))]) (r:= .own (nl (c ++ [Ev.fst c+i]))) rfl ?_;refine (AT (op:=dAdd) (a:= .val (lN c)) rfl (XB (a:= .val (.int (((Ev.fst c:Nat):Int)+(i:Nat)))) rfl)).trans ((IS rfl rfl ?_).trans ?_)
   . rw [IH];show c.length+1<=sizeLine;omega
   . rw [NI];rfl
 . have e:((Ev.nx n c).map lN).length=(Ev.nx n c).length:=A9 ..;have:=Ev.nx_len n c;show D.length+((Ev.nx n c).map lN).length<=sizeLine;rw [e];omega
 . rw [tk,GY,CP];show _ = [L0,N1,some (.own (D++([c].flatMap (Ev.nx n)).map lN)),C3,F4];rw [IA,List.flatMap_nil,DH];rfl
theorem zK{n j:Nat}(hn:n<=6)(hj:j<=6):n ^ j<=46656:=BH (yT hn j) (BH (DY (by decide) hj) (by decide))
def chA(n:Nat):Nat->List (List Nat)
 | 0=> [[]]
 | j+1=>(chA n j).flatMap (Ev.nx (n+(j+1)))
theorem ON{n:Nat}:∀ {j:Nat} {c:List Nat},c ∈ chA n j↔c.length=j/\Ev.Inc (n+j) c:=by
 intro j
 induction j with
 | zero=>
  intro c;rw [chA,AD]
  exact ⟨fun e=>by subst e;exact ⟨rfl,L9,fun d hd=>by cases hd⟩,fun h=>M0.mp h.1⟩
 | succ j ih=>
  intro c;rw [chA,WE]
  constructor
  . rintro ⟨b,hb,hc⟩;obtain ⟨i,hi,rfl⟩:=BY.mp hc;obtain ⟨h1,h2,h3⟩:=ih.mp hb;have hi:=BZ.mp hi;refine ⟨by rw [B3,h1];rfl,OV.mpr ⟨h2,List.pairwise_singleton _ _,fun a ha b' hb' => ?_⟩,fun d hd=> ?_⟩
    . rw [AD.mp hb'];have:=Ev.lt_fst h2 a ha;omega
    . rcases CN.mp hd with hd | hd
      . have:=h3 d hd;omega
      . rw [AD.mp hd];omega
  . rintro ⟨h1,h2,h3⟩;rcases IL c with e | ⟨b,l,e⟩
    . subst e;simp at h1
    . rw [IM] at e
      subst e;obtain ⟨p1,_,p3⟩:=OV.mp h2;have hl:=h3 l (AM _ (AD.mpr rfl));have hf:Ev.fst b<=l:=Ev.fst_le fun d hd=>p3 d hd l (AD.mpr rfl);refine ⟨b,ih.mpr ⟨by simpa using h1,p1,fun d hd=> ?_⟩,BY.mpr ⟨l - Ev.fst b,BZ.mpr (by omega),?_⟩⟩
      . have:=p3 d hd l (AD.mpr rfl);omega
      . rw [yU hf]
theorem aI(n:Nat):∀j,(chA n j).length<=(n+j) ^ j
 | 0=>by simp [chA]
 | j+1=>by
  rw [chA,K9];refine BH (Ev.flat_le (Ev.nx_len _) _) (JA _ (BH (aI n j) (yT (by omega) j)))
theorem W5{n t:Nat}(h:n+t<=6):V4 [.int ((n+t:Nat):Int), .int (t:Int)]=some (.own ((chA n t).map lN)):=by
 have sz:300000<sizeLine:=by decide
 let N0:Option Sl:=some (.val (.int ((n+t:Nat):Int)))
 let T1:Option Sl:=some (.val (.int (t:Int)))
 refine EK (ρ:= [N0,T1,none,none]) rfl rfl ?_;unfold b_q31;refine BT (r:= .own [.list []]) (XB (a:= .own []) GH) ?_;refine EE (P:=fun ρ=>∃z3,ρ = [N0,T1,some (.own ((chA n t).map lN)),z3]) ?_ (by rintro ρ ⟨z3,rfl⟩;exact DN rfl rfl)
 have rg:JW (mConsP (mK (.int 1)) (mConsP (mBin dAdd (mPk 1) (mK (.int 1))) mNilP)) [N0,T1,some (.own [.list []]),none]=some (FA 1 t):=by
  have:=SO (i:=1) (j:=t+1) (f:=(mConsP (mK (.int 1)) (mConsP (mBin dAdd (mPk 1) (mK (.int 1))) mNilP))) (ρ:= [N0,T1,some (.own [.list []]),none]) rfl (by decide) (by omega);exact this
 refine ZR (lo:=1) (n:=t) (fun j ρ=>∃z3,ρ = [N0,T1,some (.own ((chA n j).map lN)),z3]) rg ⟨_,rfl⟩ ?_ (fun ρ h=>h);rintro j ρ hj ⟨z3,rfl⟩;refine ⟨_,rfl,G4 ?_⟩
 let C2:Option Sl:=some (.val (.list ((chA n j).map lN)))
 show Wp _ [N0,T1,C2,some (.val (.int (1+(j:Nat))))] _
 have ar:(mBin dAdd (mBin dSub (mPk 0) (mPk 1)) (mPk 3)) [N0,T1,C2,some (.val (.int (1+(j:Nat))))]=some (.val (.int ((n+(j+1):Nat):Int))):=by
  show some (Sl.val (.int (((n+t:Nat):Int) - (t:Int)+(1+(j:Nat)))))=_;congr 3
  omega
 refine FG (r:= .own ((chA n (j+1)).map lN)) (CF (ds:= [.list ((chA n j).map lN), .int ((n+(j+1):Nat):Int)]) (D0 (a:= .val (.list ((chA n j).map lN))) rfl (D0 ar rfl)) (XT (n:=n+(j+1)) (by omega) (fun c hc=> ?_) ?_)) ⟨_,rfl⟩
 . obtain ⟨h1,h2,h3⟩:=ON.mp hc;exact ⟨by omega,h2,fun d hd=>by have:=h3 d hd;omega⟩
 . exact BH (aI n j) (zK (by omega) (by omega))
def lT(z:List (List Nat)):PyData:= .list (z.map tupN)
def chL:Nat->List (List Nat)->List (List (List Nat))
 | 0,_=> [[]]
 | t+1,X=>(List.range X.length).flatMap fun k=>(chL t (X.drop (k+1))).map (X.getD k [] :: ·)
theorem OJ:∀(t:Nat) {X:List (List Nat)},X.length<=6->(chL t X).length<=6 ^ t
 | 0,_,_=>by simp [chL]
 | t+1,X,h=>by
  rw [chL,K9,N4];refine BH (Ev.flat_le (n:=6 ^ t) (fun k=> ?_) _) (JA _ (by rw [AV];exact h));rw [A9];exact OJ t (by rw [EU];omega)
theorem MJ:∀ {t:Nat} {X z:List (List Nat)},z ∈ chL t X↔∃p:List Nat,p.length=t/\Ev.Inc X.length p/\z=p.map fun i=>X.getD i []
 | 0,X,z=>by
  rw [chL,AD]
  constructor
  . rintro rfl;exact ⟨[],rfl,⟨L9,fun d hd=>by cases hd⟩,rfl⟩
  . rintro ⟨p,h1,_,rfl⟩;rw [M0.mp h1]
    rfl
 | t+1,X,z=>by
  have gd:∀k i:Nat,(X.drop (k+1)).getD i []=X.getD (k+1+i) []:=fun k i=>by
   simp only [List.getD,HP]
  rw [chL,WE]
  constructor
  . rintro ⟨k,hk,hz⟩;have hk:=BZ.mp hk;obtain ⟨r,hr,rfl⟩:=BY.mp hz;obtain ⟨q,q1,⟨q2,q3⟩,rfl⟩:=MJ.mp hr;rw [EU] at q3
    refine ⟨k::q.map (k+1 + ·),by simp [q1],⟨KF.mpr ⟨fun a ha=> ?_,?_⟩,fun d hd=> ?_⟩,?_⟩
    . obtain ⟨i,_,rfl⟩:=BY.mp ha;omega
    . rw [zT];exact q2.imp fun h=>by omega
    . rcases AZ.mp hd with rfl | hd
      . exact hk
      . obtain ⟨i,hi,rfl⟩:=BY.mp hd;have:=q3 i hi;omega
    . rw [CU,EX];congr 1
      exact F8 fun i _=>gd k i
  . rintro ⟨p,h1,⟨h2,h3⟩,rfl⟩
    cases p with
    | nil=>simp at h1
    | cons k p=>
     obtain ⟨p1,p2⟩:=KF.mp h2;have hk:=h3 k BU;refine ⟨k,BZ.mpr hk,BY.mpr ⟨p.map fun i=>X.getD i [],MJ.mpr ⟨p.map (· - (k+1)),by simpa using h1,⟨?_,fun d hd=> ?_⟩,?_⟩,by simp⟩⟩
     . rw [zT];refine List.Pairwise.imp_of_mem (fun {a b} ha hb h=> ?_) p2;have:=p1 a ha;have:=p1 b hb;omega
     . obtain ⟨i,hi,rfl⟩:=BY.mp hd;have:=p1 i hi;have:=h3 i (B6 _ hi);rw [EU];omega
     . rw [EX];refine F8 fun i hi=> ?_;have:=p1 i hi;show X.getD i []=(X.drop (k+1)).getD (i - (k+1)) [];rw [gd,yU (by omega)]
def ZM (mF : List PyData -> Option Sl) : En -> Option Out :=
 (mSeq (mIf (mTest (mBin deq (mPk 1) (mK (.int 0)))) (mRet (mLst (mCons (mLst mNil) mNil))) mNext)
 (mSeq (mAsg 2 (mLst mNil))
 (mSeq (F6 (EZ (mConsP (mCallP dLen (mConsP (mPk 0) mNilP)) mNilP)) (gVar 3) (mAsg 2 (mBin dAdd (mPk 2) (mLC (CC [some 0,some 3,none]) (C6 (mCall mF (mCons (mSl (mPk 0) (mPart (mBin dAdd (mPk 3) (mK (.int 1)))) mNoPart) (mCons (mBin dSub (mPk 1) (mK (.int 1))) mNil)))) (gVar 2) mYes (mBin dAdd (mLst (mCons (mBin dix (mPk 0) (mPk 1)) mNil)) (mPk 2))))))
 (mRet (mPk 2)))))
theorem WN{mF:List PyData->Option Sl}{X:List (List Nat)}:EJ 4 (ZM mF) 2 [.list (X.map tupN), .int ((0:Nat):Int)]=some (.own ((chL 0 X).map lT)):=by
 refine EK (ρ:= [some (.val (.list (X.map tupN))),some (.val (.int ((0:Nat):Int))),none,none]) rfl rfl ?_;unfold ZM;exact L3 (KO (GR (i:=0) (j:=0) rfl rfl) (DN (XB (a:= .own []) GH) rfl))
theorem lX(X:List (List Nat))(k:Nat):GZ (X.map tupN) (some ((k:Nat):Int)) none=(X.drop k).map tupN:=by
 unfold GZ;rw [HT.sIx_none,HT.sIx_nat,List.length_map, <-List.map_drop, <-List.map_take];congr 1
 by_cases h:k<=X.length
 . rw [A02 h,BV (by rw [EU];omega)]
 . rw [Nat.min_eq_right (by omega),rE,List.take_zero,List.drop_of_length_le (by omega)]
theorem cC{mF:List PyData->Option Sl}{t:Nat}{X:List (List Nat)}(hX:X.length<=6)(ht:t<=5)(h:∀Y:List (List Nat),Y.length<=6->mF [.list (Y.map tupN), .int (t:Int)]=some (.own ((chL t Y).map lT))):EJ 4 (ZM mF) 2 [.list (X.map tupN), .int ((t+1:Nat):Int)]=some (.own ((chL (t+1) X).map lT)):=by
 have sz:300000<sizeLine:=by decide
 let X0:Option Sl:=some (.val (.list (X.map tupN)))
 let T1:Option Sl:=some (.val (.int ((t+1:Nat):Int)))
 let G:Nat->List (List (List Nat)):=fun k=>(chL t (X.drop (k+1))).map (X.getD k [] :: ·)
 have gl:∀k,(G k).length<=6 ^ t:=fun k=>by
  show ((chL t (X.drop (k+1))).map (X.getD k [] :: ·)).length<=_;rw [A9];exact OJ t (by rw [EU];omega)
 have p6:6 ^ t<=7776:=Nat.le_trans (Nat.pow_le_pow_right (by decide) ht) (by decide);refine EK (ρ:= [X0,T1,none,none]) rfl rfl ?_;unfold ZM;refine MC ((GR (i:=((t+1:Nat):Int)) (j:=0) rfl rfl).trans (by rw [decide_eq_false (by omega)])) ?_;refine BT GH ?_;refine EE (P:=fun ρ=>∃z3,ρ = [X0,T1,some (.own ((chL (t+1) X).map lT)),z3]) ?_ (by rintro ρ ⟨z3,rfl⟩;exact DN rfl rfl);refine JC (n:=X.length) (fun k ρ=>∃z3,ρ = [X0,T1,some (.own (((List.range k).flatMap G).map lT)),z3]) (GQ (j:=X.length) (E4 (EQ (ss:= [.val (.list (X.map tupN))]) rfl (by simp only [dLen,Sl.dat,List.length_map])) rfl) (by omega)) ⟨_,rfl⟩ ?_ (fun ρ h=>h);rintro k ρ hk ⟨z3,rfl⟩;refine ⟨_,rfl,?_⟩
 let D2:Option Sl:=some (.own (((List.range k).flatMap G).map lT))
 let K3:Option Sl:=some (.val (.int (k:Nat)))
 show Wp _ [X0,T1,D2,K3] _
 have sl1:(mSl (mPk 0) (mPart (mBin dAdd (mPk 3) (mK (.int 1)))) mNoPart) [X0,T1,D2,K3]=some (.own ((X.drop (k+1)).map tupN)):=by
  rw [<-lX];rfl
 have ar:(mBin dSub (mPk 1) (mK (.int 1))) [X0,T1,D2,K3]=some (.val (.int (t:Int))):=by
  show some (Sl.val (.int (((t+1:Nat):Int) - 1)))=_;congr 3
  omega
 have it:(C6 (mCall mF (mCons (mSl (mPk 0) (mPart (mBin dAdd (mPk 3) (mK (.int 1)))) mNoPart) (mCons (mBin dSub (mPk 1) (mK (.int 1))) mNil)))) [X0,T1,D2,K3]=some ((chL t (X.drop (k+1))).map lT):=by
  unfold C6;rw [CF (ds:= [.list ((X.drop (k+1)).map tupN), .int (t:Int)]) (D0 sl1 (D0 ar rfl)) (h _ (by rw [List.length_drop];omega))];rfl
 have gx:X[k]? = some (X.getD k []):=by
  simp [List.getD,hk]
 have zl:∀z ∈ chL t (X.drop (k+1)),z.length<=6:=fun z hz=>by
  obtain ⟨p,p1,_,rfl⟩:=MJ.mp hz;rw [A9];omega
 have fl:=Ev.flat_le gl (List.range k);rw [AV] at fl
 have fl2:k*6 ^ t<=6*7776:=EY (by omega) p6;refine FG (r:= .own (((List.range (k+1)).flatMap G).map lT)) ?_ ⟨_,rfl⟩;refine (AT (op:=dAdd) (a:= .own (((List.range k).flatMap G).map lT)) rfl (F2 (es:=(G k).map lT) it ?_ ?_)).trans ((IS rfl rfl ?_).trans ?_)
 . rw [A9];have:=OJ t (X:=X.drop (k+1)) (by rw [EU];omega);omega
 . show HK (elM _ _ _ [X0,K3,none]) _=_;refine (CI (en:=lT) (g:=fun z=>lT (X.getD k []::z)) fun z hz=> ?_).trans (by rw [EX];rfl);refine G8 (ρ1:= [X0,K3,some (.val (lT z))]) (r:= .own ((X.getD k []::z).map tupN)) rfl ?_;have ix:(mBin dix (mPk 0) (mPk 1)) [X0,K3,some (.val (lT z))]=some (.val (tupN (X.getD k []))):=(AT (op:=dix) (a:= .val (.list (X.map tupN))) (b:= .val (.int (k:Nat))) rfl rfl).trans (FE (.inl rfl) (by rw [B8,gx];rfl));refine (AT (op:=dAdd) (XB ix) (b:= .val (lT z)) rfl).trans ((IS (xs:= [tupN (X.getD k [])]) (ys:=z.map tupN) rfl rfl ?_).trans rfl);have:=zl z hz;rw [A9,O8];omega
 . have:=gl k;rw [A9,A9];omega
 . rw [bB,GY,CP];simp
theorem XM:∀ {t:Nat} {X:List (List Nat)},t<=6->X.length<=6->UY [.list (X.map tupN), .int (t:Int)]=some (.own ((chL t X).map lT)):=by
 have r1:∀ {t:Nat} {X:List (List Nat)},t<=0->X.length<=6->dO [.list (X.map tupN), .int (t:Int)]=some (.own ((chL t X).map lT)):=fun {t X} h _=>by
  have:t=0:=by omega
  subst this;exact WN
 have r2:∀ {t:Nat} {X:List (List Nat)},t<=1->X.length<=6->kM [.list (X.map tupN), .int (t:Int)]=some (.own ((chL t X).map lT)):=fun {t X} h hX=>by
  cases t with
  | zero=>exact WN
  | succ t=>exact cC hX (by omega) fun Y hY=>r1 (by omega) hY
 have r3:∀ {t:Nat} {X:List (List Nat)},t<=2->X.length<=6->jV [.list (X.map tupN), .int (t:Int)]=some (.own ((chL t X).map lT)):=fun {t X} h hX=>by
  cases t with
  | zero=>exact WN
  | succ t=>exact cC hX (by omega) fun Y hY=>r2 (by omega) hY
 have r4:∀ {t:Nat} {X:List (List Nat)},t<=3->X.length<=6->jB [.list (X.map tupN), .int (t:Int)]=some (.own ((chL t X).map lT)):=fun {t X} h hX=>by
  cases t with
  | zero=>exact WN
  | succ t=>exact cC hX (by omega) fun Y hY=>r3 (by omega) hY
 have r5:∀ {t:Nat} {X:List (List Nat)},t<=4->X.length<=6->VT [.list (X.map tupN), .int (t:Int)]=some (.own ((chL t X).map lT)):=fun {t X} h hX=>by
  cases t with
  | zero=>exact WN
  | succ t=>exact cC hX (by omega) fun Y hY=>r4 (by omega) hY
 have r6:∀ {t:Nat} {X:List (List Nat)},t<=5->X.length<=6->VD [.list (X.map tupN), .int (t:Int)]=some (.own ((chL t X).map lT)):=fun {t X} h hX=>by
  cases t with
  | zero=>exact WN
  | succ t=>exact cC hX (by omega) fun Y hY=>r5 (by omega) hY
 intro t X h hX
 cases t with
 | zero=>exact WN
 | succ t=>exact cC hX (by omega) fun Y hY=>r6 (by omega) hY
theorem cJ{ks:List Int}(h:ks ≠ []):∃hi:IC ks<ks.length,∀m ∈ ks,m<=ks[IC ks]:=by
 obtain ⟨M,hM⟩:∃M,ks.max? = some M:=by
  cases ks with
  | nil=>exact absurd rfl h
  | cons a ks=>exact ⟨_,rfl⟩
 obtain ⟨m1,m2⟩:=OB.mp hM;have hi:IC ks<ks.length:=List.findIdx_lt_length_of_exists ⟨M,m1,EG.mpr fun m hm=>D5 (m2 m hm)⟩;refine ⟨hi,fun m hm=> ?_⟩;have:=List.findIdx_getElem (w:=hi);exact AL (EG.mp this m hm)
theorem VI{fb:En->Option Sl}{c:Option Sl}{W:List Nat->Int}:∀(ps:List (List Nat)),(∀p ∈ ps,fb [some (.val (lN p)),c]=some (.val (.int (W p))))->QP fb c (ps.map lN)=some (ps.map W)
 | [],_=>rfl
 | p::ps,h=>by
  have ih:=VI ps fun q hq=>h q (B6 _ hq);show ((fb [some (.val (lN p)),c]).bind aK).bind (fun n=>(QP fb c (ps.map lN)).map (n :: ·))=_;rw [h p BU,ih];rfl
def pk(X:List (List Nat))(p:List Nat):List (List Nat):=p.map fun i=>X.getD i []
def wth(L:List Nat)(M X:List (List Nat)):Int:=Ba.det (DD L M).length (Ba.gram X.length (M7 (DD L M) X))
theorem LS(X:List (List Nat))(p:List Nat):(pk X p).length=p.length:=A9 ..
theorem gT{X:List (List Nat)}{p:List Nat}(h:∀d ∈ p,d<X.length):∀x ∈ pk X p,x ∈ X:=fun x hx=>by
 obtain ⟨i,hi,rfl⟩:=BY.mp hx;have:=h i hi;simp [List.getD,B4 this]
theorem dR {L : List Nat} (hL : ∀ s ∈ L, 2 <= s /\ s <= 7) {M : List (List Nat)} {most : Nat} (hM : ∀ e ∈ M, GX L most e) (hm : most <= 100) (hl : M.length <= 7) (h4 : L.length <= 4) {X : List (List Nat)} (hX : X.length <= 6) (hx : ∀ x ∈ X, x.length = L.length) (p1 : 1 <= (DD L M).length) (p4 : (DD L M).length <= 4) {t : Nat} (t1 : 1 <= t) (t2 : t <= X.length) :
 ∃p:List Nat,p.length=t/\Ev.Inc X.length p/\(∀q:List Nat,q.length=t->Ev.Inc X.length q->wth L M (pk X q)<=wth L M (pk X p)) /\
  U3 [.list (nl L), .list (X.map tupN), .list (M.map tupN), .int (t:Int)]=some (.val (.tuple [lT (pk X p), .int (wth L M (pk X p))])):=by
 have sl:=FL;have sz:300000<sizeLine:=by decide
 let P:=DD L M
 let ps:=chA (X.length - t) t
 have en:X.length - t+t=X.length:=by omega
 have hp:∀p ∈ ps,p.length=t/\Ev.Inc X.length p:=fun p hp=>by
  have:=ON.mp hp;rw [en] at this
  exact this
 have ne:ps ≠ []:=by
  have:List.range t ∈ ps:=ON.mpr ⟨AV,rG,fun d hd=>by have:=BZ.mp hd;omega⟩;exact List.ne_nil_of_mem this
 let W:List Nat->Int:=fun p=>wth L M (pk X p)
 obtain ⟨hi,mx⟩:=cJ (ks:=ps.map W) (by simpa using ne);have hi':IC (ps.map W)<ps.length:=by simpa using hi
 obtain ⟨p,ep⟩:∃p,p=ps[IC (ps.map W)]:=⟨_,rfl⟩;have pm:p ∈ ps:=by rw [ep];exact WC hi'
 obtain ⟨pl,pinc⟩:=hp p pm
 have best:∀q ∈ ps,W q<=W p:=fun q hq=>by
  have:=mx (W q) (List.mem_map_of_mem hq);rw [List.getElem_map, <-ep] at this
  exact this
 have gi:ps[IC (ps.map W)]? = some p:=by rw [B4 hi',ep]
 refine ⟨p,pl,pinc,fun q q1 q2=>best q (ON.mpr ⟨q1,by rw [en];exact q2⟩),?_⟩
 let LV:Option Sl:=some (.val (.list (nl L)))
 let XV:Option Sl:=some (.val (.list (X.map tupN)))
 let MV:Option Sl:=some (.val (.list (M.map tupN)))
 let T3:Option Sl:=some (.val (.int (t:Int)))
 let R4:Option Sl:=some (.val (.list (X.map (QC P))))
 let C5:Option Sl:=some (.own (ps.map lN))
 let P6:Option Sl:=some (.val (lN p))
 have tb:=aT hL hM hm hl h4 (X:=X) (by omega) hx;have gx:∀i,i<X.length->X[i]? = some (X.getD i []):=fun i hi=>by simp [List.getD,hi]
 have key:∀q ∈ ps,(mCall NW (mCons (mLC (CC [some 1,none]) (C6 (mVar 0)) (gVar 1) mYes (mBin dix (mPk 0) (mPk 1))) mNil)) [some (.val (lN q)),R4]=some (.val (.int (W q))):=fun q hq=>by
  obtain ⟨ql,qi⟩:=hp q hq
  have lc:(mLC (CC [some 1,none]) (C6 (mVar 0)) (gVar 1) mYes (mBin dix (mPk 0) (mPk 1))) [some (.val (lN q)),R4]=some (.own ((pk X q).map (QC P))):=by
   refine F2 (ds:=nl q) rfl (by rw [IH];omega) ?_;show HK (elM _ _ _ [R4,none]) _=_;refine (CI (en:=enN) (g:=fun i=>QC P (X.getD i [])) fun i hi=> ?_).trans (by rw [pk,EX];rfl);refine G8 (ρ1:= [R4,some (.val (.int (i:Nat)))]) (r:= .val (QC P (X.getD i []))) rfl ?_;exact (AT (op:=dix) (a:= .val (.list (X.map (QC P)))) (b:= .val (.int (i:Nat))) rfl rfl).trans (FE (.inl rfl) (by rw [B8,gx i (qi.2 i hi)];rfl))
  rw [SU] at lc
  have qx:1<=(pk X q).length:=by rw [LS];omega
  have q8:(pk X q).length<=8:=by rw [LS];omega
  refine CF (ds:= [.list (C4 (pk X q).length P.length (M7 P (pk X q)))]) (D0 lc rfl) ?_;exact YZ qx (by omega) p1 p4 (fun k _ j hj=>(LR hL h4 hM (pk X q) k hj).mono (by decide)) fun i hi j hj=>(bt_sum (p:=12+12) q8 fun k _=>(LR hL h4 hM (pk X q) k hi).mul (LR hL h4 hM (pk X q) k hj)).mono (by decide)
 have walk:Wp b_q30 [LV,XV,MV,T3,none,none,none,none] (Rt (.val (.tuple [lT (pk X p), .int (wth L M (pk X p))]))):=by
  unfold b_q30;refine BT (r:= .own (X.map (QC P))) (CF (ds:= [.list (nl L), .list (X.map tupN), .list (M.map tupN)]) rfl tb) ?_;have rc:=W5 (n:=X.length - t) (t:=t) (by omega);rw [en] at rc
  refine BT (r:= .own (ps.map lN)) (CF (ds:= [.int (X.length:Int), .int (t:Int)]) (D0 (EQ (ss:= [.val (.list (X.map tupN))]) rfl (r:= .val (.int (X.length:Int))) (by simp only [dLen,Sl.dat,A9])) rfl) rc) ?_;refine GM (f:=mFrz 4 _) (ρ':= [LV,XV,MV,T3,R4,C5,P6,none]) ?_ ?_
  . rw [NN];refine F3 (ρ:= [LV,XV,MV,T3,R4,C5,none,none]) (r:= .val (lN p)) ?_;unfold MN;show (if (ps.map lN).all isL=true then (QP _ R4 (ps.map lN)).bind fun ns=>((ps.map lN)[IC ns]?).map Sl.val else none)=_;rw [if_pos (by rw [List.all_map];exact List.all_eq_true.mpr fun _ _=>rfl),VI (W:=W) ps key,Option.bind_some,List.getElem?_map,gi];rfl
  refine GM (f:=mFrz 6 _) (ρ':= [LV,XV,MV,T3,R4,C5,P6,some (.own ((pk X p).map tupN))]) ?_ ?_
  . rw [NN];refine F3 (ρ:= [LV,XV,MV,T3,R4,C5,P6,none]) (r:= .own ((pk X p).map tupN)) ?_;refine F2 (ds:=nl p) rfl (by rw [IH];omega) ?_;show HK (elM _ _ _ [XV,none]) _=_;refine (CI (en:=enN) (g:=fun i=>tupN (X.getD i [])) fun i hi=> ?_).trans (by rw [pk,EX];rfl);refine G8 (ρ1:= [XV,some (.val (.int (i:Nat)))]) (r:= .val (tupN (X.getD i []))) rfl ?_;exact (AT (op:=dix) (a:= .val (.list (X.map tupN))) (b:= .val (.int (i:Nat))) rfl rfl).trans (FE (.inl rfl) (by rw [B8,gx i (pinc.2 i hi)];rfl))
  refine jA (ds:=(pk X p).map tupN) rfl ?_;refine G4 ?_;have wo:PV [.list (nl L), .list ((pk X p).map tupN), .list (M.map tupN)]=some (.val (.int (wth L M (pk X p)))):=bH hL hM hm hl h4 (by rw [LS];omega) (by rw [LS];omega) (fun x hx'=>hx x (gT pinc.2 x hx')) p1 p4;exact DN (nK (a:= .val (lT (pk X p))) rfl (CF (ds:= [.list (nl L), .list ((pk X p).map tupN), .list (M.map tupN)]) rfl wo)) rfl
 obtain ⟨o,w1,w2⟩:=walk
 cases o with
 | rt r ρ'=>cases w2;exact oZ (ρ:= [LV,XV,MV,T3,none,none,none,none]) rfl rfl ⟨ρ',w1⟩
 | _=>cases w2
theorem m9{i:Nat}{f g:En->Option Out}{ρ ρ1:En}{Q:Out->Prop}{ds rest:List PyData}(hi:(ρ[i]?).join=some (.val (.tuple (.list ds::rest))))(n2:HQ ds=true)(n3:HQ rest=true)(hf:f (ρ.set i none)=some (.nx ρ1))(hl:i<ρ1.length)(h:Wp g (ρ1.set i (some (.val (.tuple (.list ds::rest))))) Q):Wp (R7 i f g) ρ Q:=by
 obtain ⟨o,h1,h2⟩:=h;refine ⟨o,?_,h2⟩;unfold R7;rw [hi];show (if HQ ds=true/\HQ rest=true then _ else _)=_;rw [if_pos ⟨n2,n3⟩,hf];show (if i<ρ1.length then _ else _)=_;rw [if_pos hl];exact h1
theorem u9(c:List Nat):HQ (nl c)=true:=by
 induction c with
 | nil=>rfl
 | cons a c ih=>
  show HQ (.int (a:Int)::nl c)=true;rw [HQ,ih];rfl
theorem kK(z:List (List Nat)):HQ (z.map tupN)=true:=by
 induction z with
 | nil=>rfl
 | cons a z ih=>
  show HQ (tupN a::z.map tupN)=true;rw [HQ,ih];show (HQ (nl a) && true)=true;rw [u9];rfl
theorem WQ(z:List (List Nat)):(lT z).canLay0=true:=SN z
theorem tQ(z:List (List Nat)):(lT z).depth<=5:=TC z
theorem kH{z:List (List Nat)}{Z:List (List (List Nat))}(h:z ∈ Z):inD true (lT z) (Z.map lT)=some (.val (.bool false)):=by
 have dt:=tQ z;unfold inD;rw [if_pos ⟨WQ z,by simp [WQ],by omega⟩];have:(Z.map lT).any (fun d=>PyData.eqv d (lT z))=true:=List.any_eq_true.mpr ⟨lT z,List.mem_map_of_mem h,SeqAt.eqv_refl _ (WQ z)⟩;rw [this];rfl
theorem d8 {L : List Nat} (hL : ∀ s ∈ L, 2 <= s /\ s <= 7) {M : List (List Nat)} {most : Nat} (hM : ∀ e ∈ M, GX L most e) (hm : most <= 100) (hl : M.length <= 7) (h4 : L.length <= 4) {X : List (List Nat)} (hX : X.length <= 6) (hx : ∀ x ∈ X, x.length = L.length) (p1 : 1 <= (DD L M).length) (p4 : (DD L M).length <= 4) {t : Nat} (t1 : 1 <= t) (t2 : t <= X.length) :
 UV [.list (nl L), .list (X.map tupN), .list (M.map tupN), .int (t:Int)]=some (.val (.bool true)):=by
 have sl:=FL;have sz:300000<sizeLine:=by decide
 obtain ⟨p,pl,pinc,best,eb⟩:=dR hL hM hm hl h4 hX hx p1 p4 t1 t2
 have lw:∀q:List Nat,q.length=t->Ev.Inc X.length q->M4 [.list (nl L), .list ((pk X q).map tupN), .list (M.map tupN)]=some (.val (.int (wth L M (pk X q)))):=fun q q1 q2=>by
  have:=WK hL hM hm hl h4 (X:=pk X q) (by rw [LS];omega) (by rw [LS];omega) (fun x hx'=>hx x (gT q2.2 x hx')) p1 p4;rw [wE _ p4] at this
  exact this
 have zc:pk X p ∈ chL t X:=MJ.mpr ⟨p,pl,pinc,rfl⟩;have lwp:=lw p pl pinc
 have lwa:∀z ∈ chL t X,M4 [.list (nl L), .list (z.map tupN), .list (M.map tupN)]=some (.val (.int (wth L M z)))/\wth L M z<=wth L M (pk X p):=fun z hz=>by
  obtain ⟨q,q1,q2,rfl⟩:=MJ.mp hz;exact ⟨lw q q1 q2,best q q1 q2⟩
 have zl:(pk X p).length<=6:=by rw [LS];omega
 generalize pk X p=z at *
 generalize hw:wth L M z=w at *
 let HD:List PyData:= [.list (nl L), .list (X.map tupN), .list (M.map tupN)]
 let LV:Option Sl:=some (.val (.list (nl L)))
 let XV:Option Sl:=some (.val (.list (X.map tupN)))
 let MV:Option Sl:=some (.val (.list (M.map tupN)))
 let T3:Option Sl:=some (.val (.int (t:Int)))
 let H4:Option Sl:=some (.own HD)
 let F5:Option Sl:=some (.val (.tuple [lT z, .int w]))
 let S6:Option Sl:=some (.own ((chL t X).map lT))
 let V6:Option Sl:=some (.val (.list ((chL t X).map lT)))
 have lh:(PyData.list HD).canLay0=true:=aP fun d hd=>by
  simp only [HD,AZ,BA,EH] at hd
  rcases hd with rfl | rfl | rfl
  . exact uY L
  . exact SN X
  . exact SN M
 have dh:(PyData.list HD).depth<=60:=by
  have h1:=vI L;have h2:=TC M;have h3:=TC X
  have:=ZA (xs:=HD) (k:=5) fun d hd=>by
   simp only [HD,AZ,BA,EH] at hd
   rcases hd with rfl | rfl | rfl <;> omega
  simp only [PyData.depth] at this ⊢
  omega
 refine EK (ρ:= [LV,XV,MV,T3,none,none,none,none]) rfl rfl ?_;unfold b_q24;refine BT (r:= .own HD) (if_pos (e:=none) (show 3<=sizeLine by omega)) ?_;refine jP (d:= .tuple [lT z, .int w]) (show 5<8 by decide) (CF (ds:= [.list (nl L), .list (X.map tupN), .list (M.map tupN), .int (t:Int)]) rfl eb) ?_;show Wp _ [LV,XV,MV,T3,H4,F5,none,none] _;refine SL (a0 (k:=false) (l:=false) (TF (k:=true) (GA rfl)) (a0 (k:=false) (l:=false) ((TN (i:=2) (j:=2) rfl rfl).trans rfl) (nI (a:= .own HD) (b:= .own HD) rfl (if_pos (e:=none) (show 3<=sizeLine by omega)) rfl lh dh))) ?_;refine m9 (ds:=z.map tupN) (rest:= [.int w]) (ρ1:= [LV,XV,MV,T3,H4,none,S6,none]) rfl (kK z) rfl (F3 (ρ:= [LV,XV,MV,T3,H4,none,none,none]) (CF (ds:= [.list (X.map tupN), .int (t:Int)]) rfl (XM (by omega) hX))) (show 5<8 by decide) ?_;show Wp _ [LV,XV,MV,T3,H4,F5,S6,none] _;have f0:∀a b:Option Sl,(mBin dix (mPk 5) (mK (.int 0))) [LV,XV,MV,T3,H4,F5,a,b]=some (.val (lT z)):=fun a b=>(AT (op:=dix) (a:= .val (.tuple [lT z, .int w])) (b:= .val (.int ((0:Nat):Int))) rfl rfl).trans (FE (.inr rfl) rfl)
 have f1:∀y a b:Option Sl,∀d,y=some (.val (.tuple [d, .int w]))->(mBin dix (mPk 5) (mK (.int 1))) [LV,XV,MV,T3,H4,y,a,b]=some (.val (.int w)):=fun y a b d e=>by
  subst e;exact (AT (op:=dix) (a:= .val (.tuple [d, .int w])) (b:= .val (.int ((1:Nat):Int))) rfl rfl).trans (FE (.inr rfl) rfl)
 refine SL (a0 (k:=false) (l:=false) (TF (k:=true) (GA ?_)) (a0 (k:=false) (l:=false) (GA ((AT (op:=PQ true) (f0 _ _) (b:= .own ((chL t X).map lT)) rfl).trans (kH zc))) (TF (k:=true) (GA (CF (ds:= [.int w]) (D0 (f1 _ _ _ _ rfl) rfl) (cH w)))))) ?_
 . unfold mIsi;rw [f0];rfl
 refine SL ((TN (f1 _ _ _ _ rfl) (CF (ds:= [.list (nl L),lT z, .list (M.map tupN)]) (D0 (a:= .val (.list (nl L))) rfl (D0 (f0 _ _) (D0 (a:= .val (.list (M.map tupN))) rfl rfl))) lwp)).trans (by rw [D5 rfl];rfl)) ?_;refine p9 (ds:=z.map tupN) (rest:= [.int w]) rfl (by rw [A9];omega) (kK z) rfl ?_
 let F5':Option Sl:=some (.val (.tuple [.list (z.map tupN ++ [.none]), .int w]))
 show Wp _ [LV,XV,MV,T3,H4,F5',S6,none] _;refine GM (f:=mFrz 6 _) (ρ':= [LV,XV,MV,T3,H4,F5',V6,some (.val (.int w))]) ?_ ?_
 . rw [NN];refine F3 (ρ:= [LV,XV,MV,T3,H4,F5',V6,none]) (r:= .val (.int w)) ?_
   have lc:(mLC (CC [some 0,some 2,none]) (C6 (mVar 6)) (gVar 2) mYes (mCall M4 (mCons (mVar 0) (mCons (mVar 2) (mCons (mVar 1) mNil))))) [LV,XV,MV,T3,H4,F5',V6,none]=some (.own (il ((chL t X).map fun z=>wth L M z))):=by
    refine F2 (ds:=(chL t X).map lT) rfl ?_ ?_
    . have:=OJ t hX;have p6:6 ^ t<=6 ^ 6:=DY (by decide) (by omega);have:6 ^ 6=46656:=by decide
      rw [A9];omega
    . show HK (elM _ _ _ [LV,MV,none]) _=_;refine (CI (en:=lT) (g:=fun z=> .int (wth L M z)) fun y hy=> ?_).trans (by unfold il;rw [List.map_map];rfl);exact G8 (ρ1:= [LV,MV,some (.val (lT y))]) (r:= .val (.int (wth L M y))) rfl (CF (ds:= [.list (nl L),lT y, .list (M.map tupN)]) rfl (lwa y hy).1)
   refine EQ (E4 lc rfl) ?_;show ((J0 (il ((chL t X).map fun z=>wth L M z))).bind fun ns=>ns.max?.map fun m=>Sl.val (.int m))=_
   have mx:((chL t X).map fun z=>wth L M z).max? = some w:=OB.mpr ⟨BY.mpr ⟨z,zc,hw⟩,fun b hb=>by
    obtain ⟨y,hy,rfl⟩:=BY.mp hb;exact (lwa y hy).2⟩
   rw [cT,BJ,mx];rfl
 have h1:(mBin dix (mPk 4) (mK (.int 1))) [LV,XV,MV,T3,H4,F5',V6,some (.val (.int w))]=some (.val (.list (X.map tupN))):=(AT (op:=dix) (a:= .own HD) (b:= .val (.int ((1:Nat):Int))) rfl rfl).trans (FE (.inl rfl) rfl);refine DN (kX ((AT (op:=deq) (f1 _ _ _ _ rfl) (b:= .val (.int w)) rfl).trans ((ZX _ _).trans (by rw [D5 rfl]))) (n0 h1 (b:= .val (.list (X.map tupN))) rfl rfl (SN X) ?_)) rfl;have:=TC X;show (PyData.list (X.map tupN)).depth<=60;omega
theorem US{ns:List Int}{ρ:En}(h:(ρ[0]?).join=some (.val (.list (ns.map .int)))):(mBin dAdd (mSl (mPk 0) mNoPart (mPart (mK (.int 10)))) (mLst (mCons (mK (.int 0)) mNil))) ρ=some (.own (il (ns.take 10 ++ [0]))):=by
 have sl:=FL
 have c1:(mSl (mPk 0) mNoPart (mPart (mK (.int 10)))) ρ=some (.own (il (ns.take 10))):=by
  have e:GZ (ns.map PyData.int) none (some ((10:Nat):Int))=il (ns.take 10):=by
   unfold GZ il;rw [HT.sIx_none,HT.sIx_nat,List.length_map,List.drop_zero,Nat.sub_zero, <-List.map_take];congr 1
   by_cases h:10<=ns.length
   . rw [A02 h]
   . rw [Nat.min_eq_right (by omega),BV (AA _),BV (by omega)]
  rw [<-e];unfold mSl mPk;rw [h];rfl
 refine (AT (op:=dAdd) c1 (XB (a:= .val (.int 0)) rfl)).trans ?_;refine (IS (xs:=il (ns.take 10)) (ys:= [.int 0]) rfl rfl ?_).trans ?_
 . rw [SQ,DK];simp;omega
 . rw [XU];rfl
theorem fU(ns:List Int)(hns:ns.length<=63):qY [.list (ns.map .int)]=some (.val (.bool true)):=by
 have sl:=FL
 let S:Option Sl:=some (.val (.list (ns.map .int)))
 let cs:List Int:=ns.take 10 ++ [0]
 have hlen:cs.length<=43:=by simp [cs];omega
 let CO:Option Sl:=some (.own (il cs))
 refine EK (ρ:= [S,none,none,none,none,none,none,none,none]) rfl rfl ?_;unfold b_law;refine BT (US rfl) (BT (r:= .val (.int 0)) rfl ?_);refine EE (P:=fun _=>True) ?_ (fun ρ _=>DN (r:= .val (.bool true)) rfl rfl)
 refine hV (fun ρ=>∃(a:Nat) (z3 z4 z5 z6 z7 z8:Option Sl),ρ = [S,CO,some (.val (.int (a:Nat))),z3,z4,z5,z6,z7,z8])
  (fun ρ=>match ρ with | [_,_,some (.val (.int a)),_,_,_,_,_,_]=>(64 - a).toNat | _=>0) ⟨0,_,_,_,_,_,_,rfl⟩ ?_
 rintro ρ ⟨a,z3,z4,z5,z6,z7,z8,rfl⟩
 have tst:(mTest (mBin dLt (mPk 2) (mCallP dLen (mConsP (mPk 1) mNilP)))) [S,CO,some (.val (.int (a:Nat))),z3,z4,z5,z6,z7,z8]=some (decide ((a:Int)<(cs.length:Nat))):=by
  refine GA ((AT (op:=dLt) (a:= .val (.int (a:Nat))) rfl (EQ (ss:= [.own (il cs)]) rfl (r:= .val (.int ((cs.length:Nat):Int))) ?_)).trans rfl);exact LX (fun n:Nat=>some (Sl.val (.int (n:Int)))) (SQ _)
 by_cases hlt:a<cs.length
 . right;refine ⟨tst.trans (by rw [D5 (by omega)]),?_⟩;have gc:cs[a]? = some cs[a]:=B4 hlt;generalize cs[a]=c at gc
   obtain ⟨L,l1,l2,l3,l4⟩:=sU c (most:=100) (by decide);obtain ⟨M,m1,m2,m3,m4,m5,m6⟩:=mM (c.fdiv 4) l2 l3 (most:=3) (by decide) (by decide)
   let A2:Option Sl:=some (.val (.int (a:Nat)))
   let C3:Option Sl:=some (.val (.int c))
   let LV:Option Sl:=some (.val (.list (nl L)))
   let MO:Option Sl:=some (.own (M.map tupN))
   let MV:Option Sl:=some (.val (.list (M.map tupN)))
   obtain ⟨m,em,bm⟩:=GN (fa:=mBin EC (mPk 3) (mK (.int 32))) (fb:=mK (.int 5)) (ρ:= [S,CO,A2,C3,LV,MO,z6,z7,z8]) (i:=c.fdiv 32) ((AT (op:=EC) (a:= .val (.int c)) (b:= .val (.int 32)) rfl rfl).trans (JZ (by decide) (by decide))) rfl (by decide)
   let M6:Option Sl:=some (.val (.int ((m+1:Nat):Int)))
   let lo:Option Int:=some (((a+1:Nat):Int))
   let hi:Option Int:=some (((a+1+(m+1):Nat):Int))
   let ps:=GZ cs lo hi ++ [c]
   have psl:ps.length<=6:=by
    have:=YR cs (a+1) (m+1);simp only [ps,B3,O8];have e:(GZ cs lo hi).length<=m+1:=this;omega
   have ps1:1<=ps.length:=by simp [ps]
   obtain ⟨X,ex,xl,xs⟩:=eY l2 l3 (cs:=ps) (by omega);refine BT (r:= .val (.int c)) ((AT (op:=dix) (a:= .own (il cs)) (b:= .val (.int (a:Nat))) rfl rfl).trans (FE (.inl rfl) (by unfold il;rw [List.getElem?_map,gc];rfl))) ?_;refine GM (f:=mFrz 3 _) (ρ':= [S,CO,A2,C3,some (.own (nl L)),z5,z6,z7,z8]) (F3 (ρ:= [S,CO,A2,C3,z4,z5,z6,z7,z8]) (CF (ds:= [.int c, .int (100:Nat)]) rfl l1)) ?_;refine GM (f:=mFrz 4 _) (ρ':= [S,CO,A2,C3,LV,MO,z6,z7,z8]) (F3 (ρ:= [S,CO,A2,C3,LV,z5,z6,z7,z8]) (CF (ds:= [.int (c.fdiv 4), .list (nl L), .int (3:Nat)]) (D0 (a:= .val (.int (c.fdiv 4))) ((AT (op:=EC) (a:= .val (.int c)) (b:= .val (.int 4)) rfl rfl).trans (JZ (by decide) (by decide))) rfl) m1)) ?_;refine BT (r:= .val (.int ((m+1:Nat):Int))) ((AT (op:=dAdd) (fa:=mK (.int 1)) rfl em).trans ?_) ?_
   . show some (Sl.val (.int (1+(m:Int))))=_;rw [show 1+(m:Int)=((m+1:Nat):Int) by omega]
   refine BT GH ?_;show Wp _ [S,CO,A2,C3,LV,MO,M6,some (.own []),z8] _
   have pe:(mBin dAdd (mSl (mPk 1) (mPart (mBin dAdd (mPk 2) (mK (.int 1)))) (mPart (mBin dAdd (mBin dAdd (mPk 2) (mK (.int 1))) (mPk 6)))) (mLst (mCons (mVar 3) mNil))) [S,CO,A2,C3,LV,MO,M6,some (.own []),z8]=some (.own (il ps)):=by
    have s1:(mSl (mPk 1) (mPart (mBin dAdd (mPk 2) (mK (.int 1)))) (mPart (mBin dAdd (mBin dAdd (mPk 2) (mK (.int 1))) (mPk 6)))) [S,CO,A2,C3,LV,MO,M6,some (.own []),z8]=some (.own (il (GZ cs lo hi))):=by
     rw [<-yE];show some (Sl.own (GZ (il cs) (some ((a:Int)+1)) (some ((a:Int)+1+((m+1:Nat):Int)))))=_;rw [show (a:Int)+1=((a+1:Nat):Int) by omega,show ((a+1:Nat):Int)+((m+1:Nat):Int)=((a+1+(m+1):Nat):Int) by omega]
    refine (AT (op:=dAdd) s1 (XB (a:= .val (.int c)) rfl)).trans ((IS (xs:=il (GZ cs lo hi)) (ys:= [.int c]) rfl rfl ?_).trans ?_)
    . rw [SQ];have e:(GZ cs lo hi).length<=m+1:=YR cs (a+1) (m+1);simp;omega
    . simp only [ps,XU];rfl
   refine EE (P:=fun ρ=>∃(T:List (List Nat)) (z8:Option Sl),ρ = [S,CO,A2,C3,LV,MO,M6,some (.own (T.map tupN)),z8]/\T.length<=X.length/\1<=T.length/\∀x ∈ T,x ∈ X) ?_ ?_
   . refine G4 (G4 ?_);show Wp _ [S,CO,A2,C3,LV,MO,M6,some (.own []),z8] _
     have it:(C6 (mCall RK (mCons (mBin dAdd (mSl (mPk 1) (mPart (mBin dAdd (mPk 2) (mK (.int 1)))) (mPart (mBin dAdd (mBin dAdd (mPk 2) (mK (.int 1))) (mPk 6)))) (mLst (mCons (mVar 3) mNil))) (mCons (mVar 4) mNil)))) [S,CO,A2,C3,LV,MO,M6,some (.own []),z8]=some (X.map tupN):=by
      unfold C6;rw [CF (ds:= [.list (il ps), .list (nl L)]) (D0 pe rfl) ex];rfl
     refine FK (en:=tupN) (xs:=X) (fun j ρ=>∃(T:List (List Nat)) (z8:Option Sl),ρ = [S,CO,A2,C3,LV,MO,M6,some (.own (T.map tupN)),z8]/\T.length<=j/\(1<=j->1<=T.length)/\∀x ∈ T,x ∈ X) it ⟨[],_,rfl,DL _,fun h=>by omega,fun x hx=>by cases hx⟩ ?_ ?_
     . rintro j x ρ hj ⟨T,z8,rfl,t1,t2,t3⟩;refine ⟨_,rfl,?_⟩;have hj':j<X.length:=(AX.mp hj).1
       have ts:∀k:Bool,(decide ¬x ∈ T)=k->(mTest (mBin (PQ true) (mPk 8) (mPk 7))) [S,CO,A2,C3,LV,MO,M6,some (.own (T.map tupN)),some (.val (tupN x))]=some k:=fun k e=>by
        rw [<-e];exact GA ((AT (op:=PQ true) (a:= .val (tupN x)) (b:= .own (T.map tupN)) rfl rfl).trans (QW x T))
       by_cases hxT:x ∈ T
       . refine WG (ts false (BW fun h=>h hxT)) ?_;exact HA ⟨T,_,rfl,by omega,fun _=>List.length_pos_of_mem hxT,t3⟩
       . refine KO (ts true (D5 hxT)) ?_;refine MG (JT (r:= .val (tupN x)) (ds:=T.map tupN) rfl rfl (by rw [A9];omega)) ⟨T ++ [x],some (.val (tupN x)),?_,by simp;omega,fun _=>by simp,?_⟩
         . rw [CP];rfl
         . intro y hy;rcases CN.mp hy with h | h
           . exact t3 y h
           . cases AD.mp h
             exact AJ hj
     . rintro ρ ⟨T,z8,rfl,t1,t2,t3⟩;exact ⟨T,z8,rfl,t1,t2 (by omega),t3⟩
   rintro ρ ⟨T,z8,rfl,t1,t2,t3⟩
   let TV:Option Sl:=some (.val (.list (T.map tupN)))
   have p1:1<=(DD L M).length:=by rw [UK];exact o6 l2 m2 m6
   have p4:(DD L M).length<=4:=by rw [UK];omega
   let ρ9:En:= [S,CO,A2,C3,LV,MV,M6,TV,z8]
   obtain ⟨v,ev,bv⟩:=GN (fa:=mBin EC (mPk 3) (mK (.int 160))) (fb:=(mCallP dLen (mConsP (mPk 7) mNilP))) (ρ:=ρ9) (i:=c.fdiv 160) (m:=(T.length:Int)) ((AT (op:=EC) (a:= .val (.int c)) (b:= .val (.int 160)) rfl rfl).trans (JZ (by decide) (by decide))) (EQ (ss:= [.val (.list (T.map tupN))]) rfl (by simp only [dLen,Sl.dat,A9])) (by omega)
   have ag:(mBin dAdd (mK (.int 1)) (mBin FB (mBin EC (mPk 3) (mK (.int 160))) (mCallP dLen (mConsP (mPk 7) mNilP)))) ρ9=some (.val (.int ((v+1:Nat):Int))):=by
    refine (AT (op:=dAdd) (fa:=mK (.int 1)) rfl ev).trans ?_;show some (Sl.val (.int (1+(v:Int))))=_;rw [show 1+(v:Int)=((v+1:Nat):Int) by omega]
   have rr:=d8 l2 m2 (by decide) m4 l3 (X:=T) (by omega) (fun x hx=>xs x (t3 x hx)) p1 p4 (t:=v+1) (by omega) (by omega);refine GM (ρ':=ρ9) ?_ ?_
   . rw [NN,NN,NN];refine LJ (ρ:=ρ9) (b:=false) (TF (k:=true) (GA (CF (ds:= [.list (nl L), .list (T.map tupN), .list (M.map tupN), .int ((v+1:Nat):Int)]) (D0 (a:= .val (.list (nl L))) rfl (D0 (a:= .val (.list (T.map tupN))) rfl (D0 (a:= .val (.list (M.map tupN))) rfl (D0 ag rfl)))) rr))) rfl
   . refine FG (r:= .val (.int ((a+1+(m+1):Nat):Int))) ?_ ⟨⟨a+1+(m+1),_,_,_,_,_,_,rfl⟩,?_⟩
     . show some (Sl.val (.int ((a:Int)+1+((m+1:Nat):Int))))=_;rw [show (a:Int)+1+((m+1:Nat):Int)=((a+1+(m+1):Nat):Int) by omega]
     . show (64 - ((a+1+(m+1):Nat):Int)).toNat<(64 - ((a:Nat):Int)).toNat;omega
 . left;exact ⟨tst.trans (by rw [BW (by omega)]),trivial⟩
abbrev Na_ (K:PySem.W.Frag) (n:Str) (f:Addr):Prop:=PySem.W.nsIn K mainGlobals n=some (some (.ref f))
abbrev Nz_ (K:PySem.W.Frag) (n:Str):Prop:=PySem.W.nsIn K mainGlobals n=some none
abbrev Co_ (K:PySem.W.Frag) (c:Value) (n:Str):Prop:=PySem.W.codeIn K c n=true
abbrev Ke_ (K:PySem.W.Frag) (f:Addr):Prop:=PySem.W.keepIn K (.ref f)=true
abbrev Lo_ (K:PySem.W.Frag) (f:Addr) (oc:Value) (od:Option Addr) (n q:Str) (s:Stmt) (kV dc pm:Value) (an:Option Addr) (cd ct:Value) (sl:Array (Option Value)):Prop:=K.lookup f=some ⟨oc,od, .func (PySem.W.fnOf n q (JS s) (GD s) (AN s) .none kV dc pm an cd ct),sl⟩
local macro_rules | `(tactic| walk_at "u1") => `(tactic| exact fun _ _ _ _ _ _ us hl => match us, hl with | [_], _ => rfl)
local macro_rules | `(tactic| walk_at "u2") => `(tactic| exact fun _ _ _ _ _ _ us hl => match us, hl with | [_, _], _ => rfl)
local macro_rules | `(tactic| walk_at "u3") => `(tactic| exact fun _ _ _ _ _ _ us hl => match us, hl with | [_, _, _], _ => rfl)
local macro_rules | `(tactic| walk_at "u4") => `(tactic| exact fun _ _ _ _ _ _ us hl => match us, hl with | [_, _, _, _], _ => rfl)
theorem all_mk {l : PySem.W.OpenLaw} {w : World} {K : PySem.W.Frag} {h : Heap} {mg : Str -> Option Value} {fa cl32 pl32 f1 f2 f3 f4 f5 f6 f7 f8 f9 f10 f11 f12 f13 f14 f15 f16 f17 f18 f19 f20 f21 f22 f23 f24 f25 f26 f27 f28 f29 f30 f31 f32 f33 f34 f35 f36 f37 f38 f39 f40 f41 f42 f43 f44 f45 f46 f47 f48 f49 f50 f51 f52 f53 C_S t_NOUGHT : Addr} {co32 oc1 kV1 dc1 pm1 cd1 ct1 oc2 kV2 dc2 pm2 cd2 ct2 oc3 kV3 dc3 pm3 cd3 ct3 oc4 kV4 dc4 pm4 cd4 ct4 oc5 kV5 dc5 pm5 cd5 ct5 oc6 kV6 dc6 pm6 cd6 ct6 oc7 kV7 dc7 pm7 cd7 ct7 oc8 kV8 dc8 pm8 cd8 ct8 oc9 kV9 dc9 pm9 cd9 ct9 oc10 kV10 dc10 pm10 cd10 ct10 oc11 kV11 dc11 pm11 cd11 ct11 oc12 kV12 dc12 pm12 cd12 ct12 oc13 kV13 dc13 pm13 cd13 ct13 oc14 kV14 dc14 pm14 cd14 ct14 oc15 kV15 dc15 pm15 cd15 ct15 oc16 kV16 dc16 pm16 cd16 ct16 oc17 kV17 dc17 pm17 cd17 ct17 oc18 kV18 dc18 pm18 cd18 ct18 oc19 kV19 dc19 pm19 cd19 ct19 oc20 kV20 dc20 pm20 cd20 ct20 oc21 kV21 dc21 pm21 cd21 ct21 oc22 kV22 dc22 pm22 cd22 ct22 oc23 kV23 dc23 pm23 cd23 ct23 oc24 kV24 dc24 pm24 cd24 ct24 oc25 kV25 dc25 pm25 cd25 ct25 oc26 kV26 dc26 pm26 cd26 ct26 oc27 kV27 dc27 pm27 cd27 ct27 oc28 kV28 dc28 pm28 cd28 ct28 oc29 kV29 dc29 pm29 cd29 ct29 oc30 kV30 dc30 pm30 cd30 ct30 oc31 kV31 dc31 pm31 cd31 ct31 oc32 kV32 dc32 pm32 ct32 oc33 kV33 dc33 pm33 cd33 ct33 oc34 kV34 dc34 pm34 cd34 ct34 oc35 kV35 dc35 pm35 cd35 ct35 oc36 kV36 dc36 pm36 cd36 ct36 oc37 kV37 dc37 pm37 cd37 ct37 oc38 kV38 dc38 pm38 cd38 ct38 oc39 kV39 dc39 pm39 cd39 ct39 oc40 kV40 dc40 pm40 cd40 ct40 oc41 kV41 dc41 pm41 cd41 ct41 oc42 kV42 dc42 pm42 cd42 ct42 oc43 kV43 dc43 pm43 cd43 ct43 oc44 kV44 dc44 pm44 cd44 ct44 oc45 kV45 dc45 pm45 cd45 ct45 oc46 kV46 dc46 pm46 cd46 ct46 oc47 kV47 dc47 pm47 cd47 ct47 oc48 kV48 dc48 pm48 cd48 ct48 oc49 kV49 dc49 pm49 cd49 ct49 oc50 kV50 dc50 pm50 cd50 ct50 oc51 kV51 dc51 pm51 cd51 ct51 oc52 kV52 dc52 pm52 cd52 ct52 oc53 kV53 dc53 pm53 cd53 ct53 : Value} {cod32 od1 an1 od2 an2 od3 an3 od4 an4 od5 an5 od6 an6 od7 an7 od8 an8 od9 an9 od10 an10 od11 an11 od12 an12 od13 an13 od14 an14 od15 an15 od16 an16 od17 an17 od18 an18 od19 an19 od20 an20 od21 an21 od22 an22 od23 an23 od24 an24 od25 an25 od26 an26 od27 an27 od28 an28 od29 an29 od30 an30 od31 an31 od32 an32 od33 an33 od34 an34 od35 an35 od36 an36 od37 an37 od38 an38 od39 an39 od40 an40 od41 an41 od42 an42 od43 an43 od44 an44 od45 an45 od46 an46 od47 an47 od48 an48 od49 an49 od50 an50 od51 an51 od52 an52 od53 an53 to_NOUGHT : Option Addr} {cv32 : Array Value} {csl32 sl1 sl2 sl3 sl4 sl5 sl6 sl7 sl8 sl9 sl10 sl11 sl12 sl13 sl14 sl15 sl16 sl17 sl18 sl19 sl20 sl21 sl22 sl23 sl24 sl25 sl26 sl27 sl28 sl29 sl30 sl31 sl32 sl33 sl34 sl35 sl36 sl37 sl38 sl39 sl40 sl41 sl42 sl43 sl44 sl45 sl46 sl47 sl48 sl49 sl50 sl51 sl52 sl53 ts_NOUGHT : Array (Option Value)} {tk_NOUGHT_0 tk_NOUGHT_1 : Tok} {tn_NOUGHT : Nat} (X : K.In h) (G : h.Ns mainGlobals mg) (hfa : mg "law" = some (.ref fa)) (hT : ∀ p ∈ (tbK ["best"] K).map (·.2), h.get? p = some (PySem.W.tabObj #[]))
 (aC_Stairs:Na_ K "Stairs" C_S)
 (pg_Stairs:PySem.W.plainGet K C_S Str.empty=true)
 (hd_Stairs:PySem.W.hasDictIn K C_S=true)
 (po_Stairs:PySem.W.plainOver K C_S=true)
 (sa_Stairs:PySem.W.findIn K (.ref C_S) "__setattr__" = some (some (.builtin "object.__setattr__")))
 (mk_Stairs:PySem.W.makesIn K C_S=true)
 (kc_Stairs:Ke_ K C_S)
 (n_Stairs_rows:PySem.W.findIn K (.ref C_S) "rows" = some none)
 (n_Stairs_leads:PySem.W.findIn K (.ref C_S) "leads" = some none)
 (n_Stairs_last:PySem.W.findIn K (.ref C_S) "last" = some none)
 (a1:Na_ K "_law_mixed" f1)
 (l1:Lo_ K f1 oc1 od1 "_law_mixed" "_law_mixed" YX kV1 dc1 pm1 an1 cd1 ct1 sl1)
 (c1:Co_ K cd1 "_law_mixed")
 (k1:Ke_ K f1)
 (a2:Na_ K "_law_levels" f2)
 (l2:Lo_ K f2 oc2 od2 "_law_levels" "_law_levels" ZI kV2 dc2 pm2 an2 cd2 ct2 sl2)
 (c2:Co_ K cd2 "_law_levels")
 (k2:Ke_ K f2)
 (a3:Na_ K "_law_effects" f3)
 (l3:Lo_ K f3 oc3 od3 "_law_effects" "_law_effects" YO kV3 dc3 pm3 an3 cd3 ct3 sl3)
 (c3:Co_ K cd3 "_law_effects")
 (k3:Ke_ K f3)
 (a4:Na_ K "_law_plan" f4)
 (l4:Lo_ K f4 oc4 od4 "_law_plan" "_law_plan" ZW kV4 dc4 pm4 an4 cd4 ct4 sl4)
 (c4:Co_ K cd4 "_law_plan")
 (k4:Ke_ K f4)
 (a5:Na_ K "product_of" f5)
 (l5:Lo_ K f5 oc5 od5 "product_of" "product_of" ZG kV5 dc5 pm5 an5 cd5 ct5 sl5)
 (c5:Co_ K cd5 "product_of")
 (k5:Ke_ K f5)
 (a6:Na_ K "trial_at" f6)
 (l6:Lo_ K f6 oc6 od6 "trial_at" "trial_at" YN kV6 dc6 pm6 an6 cd6 ct6 sl6)
 (c6:Co_ K cd6 "trial_at")
 (k6:Ke_ K f6)
 (a7:Na_ K "all_trials" f7)
 (l7:Lo_ K f7 oc7 od7 "all_trials" "all_trials" ZE kV7 dc7 pm7 an7 cd7 ct7 sl7)
 (c7:Co_ K cd7 "all_trials")
 (k7:Ke_ K f7)
 (a8:Na_ K "effect_columns" f8)
 (l8:Lo_ K f8 oc8 od8 "effect_columns" "effect_columns" ZV kV8 dc8 pm8 an8 cd8 ct8 sl8)
 (c8:Co_ K cd8 "effect_columns")
 (k8:Ke_ K f8)
 (a9:Na_ K "columns_of" f9)
 (l9:Lo_ K f9 oc9 od9 "columns_of" "columns_of" ZH kV9 dc9 pm9 an9 cd9 ct9 sl9)
 (c9:Co_ K cd9 "columns_of")
 (k9:Ke_ K f9)
 (a10:Na_ K "contrast" f10)
 (l10:Lo_ K f10 oc10 od10 "contrast" "contrast" Z2 kV10 dc10 pm10 an10 cd10 ct10 sl10)
 (c10:Co_ K cd10 "contrast")
 (k10:Ke_ K f10)
 (a11:Na_ K "value_at" f11)
 (l11:Lo_ K f11 oc11 od11 "value_at" "value_at" Y5 kV11 dc11 pm11 an11 cd11 ct11 sl11)
 (c11:Co_ K cd11 "value_at")
 (k11:Ke_ K f11)
 (a12:Na_ K "table_of" f12)
 (l12:Lo_ K f12 oc12 od12 "table_of" "table_of" YT kV12 dc12 pm12 an12 cd12 ct12 sl12)
 (c12:Co_ K cd12 "table_of")
 (k12:Ke_ K f12)
 (a13:Na_ K "longer_lists" f13)
 (l13:Lo_ K f13 oc13 od13 "longer_lists" "longer_lists" aS kV13 dc13 pm13 an13 cd13 ct13 sl13)
 (c13:Co_ K cd13 "longer_lists")
 (k13:Ke_ K f13)
 (a14:Na_ K "choices_of" f14)
 (l14:Lo_ K f14 oc14 od14 "choices_of" "choices_of" aU kV14 dc14 pm14 an14 cd14 ct14 sl14)
 (c14:Co_ K cd14 "choices_of")
 (k14:Ke_ K f14)
 (a15:Na_ K "greatest_divisor" f15)
 (l15:Lo_ K f15 oc15 od15 "greatest_divisor" "greatest_divisor" aV kV15 dc15 pm15 an15 cd15 ct15 sl15)
 (c15:Co_ K cd15 "greatest_divisor")
 (k15:Ke_ K f15)
 (a16:Na_ K "common_bottom" f16)
 (l16:Lo_ K f16 oc16 od16 "common_bottom" "common_bottom" ZC kV16 dc16 pm16 an16 cd16 ct16 sl16)
 (c16:Co_ K cd16 "common_bottom")
 (k16:Ke_ K f16)
 (a17:Na_ K "whole_row" f17)
 (l17:Lo_ K f17 oc17 od17 "whole_row" "whole_row" aD kV17 dc17 pm17 an17 cd17 ct17 sl17)
 (c17:Co_ K cd17 "whole_row")
 (k17:Ke_ K f17)
 (a18:PySem.W.findIn K (.ref C_S) "place_of_lead" = some (some (.ref f18)))
 (i18:PySem.W.isFn K (.ref f18)=true)
 (l18:Lo_ K f18 oc18 od18 "place_of_lead" "Stairs.place_of_lead" aG kV18 dc18 pm18 an18 cd18 ct18 sl18)
 (c18:Co_ K cd18 "Stairs.place_of_lead")
 (k18:Ke_ K f18)
 (a19:PySem.W.findIn K (.ref C_S) "exchange" = some (some (.ref f19)))
 (i19:PySem.W.isFn K (.ref f19)=true)
 (l19:Lo_ K f19 oc19 od19 "exchange" "Stairs.exchange" ZD kV19 dc19 pm19 an19 cd19 ct19 sl19)
 (c19:Co_ K cd19 "Stairs.exchange")
 (k19:Ke_ K f19)
 (a20:Na_ K "cleared_row" f20)
 (l20:Lo_ K f20 oc20 od20 "cleared_row" "cleared_row" ZL kV20 dc20 pm20 an20 cd20 ct20 sl20)
 (c20:Co_ K cd20 "cleared_row")
 (k20:Ke_ K f20)
 (a21:PySem.W.findIn K (.ref C_S) "step_down" = some (some (.ref f21)))
 (i21:PySem.W.isFn K (.ref f21)=true)
 (l21:Lo_ K f21 oc21 od21 "step_down" "Stairs.step_down" ZY kV21 dc21 pm21 an21 cd21 ct21 sl21)
 (c21:Co_ K cd21 "Stairs.step_down")
 (k21:Ke_ K f21)
 (a22:PySem.W.findIn K (.ref C_S) "__init__" = some (some (.ref f22)))
 (i22:PySem.W.isFn K (.ref f22)=true)
 (l22:Lo_ K f22 oc22 od22 "__init__" "Stairs.__init__" Y4 kV22 dc22 pm22 an22 cd22 ct22 sl22)
 (c22:Co_ K cd22 "Stairs.__init__")
 (k22:Ke_ K f22)
 (a23:Na_ K "stairs_of" f23)
 (l23:Lo_ K f23 oc23 od23 "stairs_of" "stairs_of" ZN kV23 dc23 pm23 an23 cd23 ct23 sl23)
 (c23:Co_ K cd23 "stairs_of")
 (k23:Ke_ K f23)
 (a24:Na_ K "fraction" f24)
 (l24:Lo_ K f24 oc24 od24 "fraction" "fraction" ZT kV24 dc24 pm24 an24 cd24 ct24 sl24)
 (c24:Co_ K cd24 "fraction")
 (k24:Ke_ K f24)
 (a25:Na_ K "determinant" f25)
 (l25:Lo_ K f25 oc25 od25 "determinant" "determinant" aM kV25 dc25 pm25 an25 cd25 ct25 sl25)
 (c25:Co_ K cd25 "determinant")
 (k25:Ke_ K f25)
 (a26:Na_ K "laid_over" f26)
 (l26:Lo_ K f26 oc26 od26 "laid_over" "laid_over" aO kV26 dc26 pm26 an26 cd26 ct26 sl26)
 (c26:Co_ K cd26 "laid_over")
 (k26:Ke_ K f26)
 (a27:Na_ K "as_fractions" f27)
 (l27:Lo_ K f27 oc27 od27 "as_fractions" "as_fractions" YI kV27 dc27 pm27 an27 cd27 ct27 sl27)
 (c27:Co_ K cd27 "as_fractions")
 (k27:Ke_ K f27)
 (a28:Na_ K "sum_of_products" f28)
 (l28:Lo_ K f28 oc28 od28 "sum_of_products" "sum_of_products" ZQ kV28 dc28 pm28 an28 cd28 ct28 sl28)
 (c28:Co_ K cd28 "sum_of_products")
 (k28:Ke_ K f28)
 (a29:Na_ K "column_products" f29)
 (l29:Lo_ K f29 oc29 od29 "column_products" "column_products" YK kV29 dc29 pm29 an29 cd29 ct29 sl29)
 (c29:Co_ K cd29 "column_products")
 (k29:Ke_ K f29)
 (a30:Na_ K "worth_of" f30)
 (l30:Lo_ K f30 oc30 od30 "worth_of" "worth_of" YB kV30 dc30 pm30 an30 cd30 ct30 sl30)
 (c30:Co_ K cd30 "worth_of")
 (k30:Ke_ K f30)
 (a31:Na_ K "worth" f31)
 (l31:Lo_ K f31 oc31 od31 "worth" "worth" aE kV31 dc31 pm31 an31 cd31 ct31 sl31)
 (c31:Co_ K cd31 "worth")
 (k31:Ke_ K f31)
 (a32:Na_ K "best" f32)
 (l32:K.lookup f32=some ⟨oc32,od32, .func (PySem.W.fnOf "best" "best" (JS QS) (GD QS) (AN QS) .none kV32 dc32 pm32 an32 (.ref cl32) ct32),sl32⟩)
 (u32:K.lookup cl32=some ⟨co32,cod32, .fields cv32,csl32⟩)
 (v32:cv32[11]? = some (.ref pl32))
 (c32:PySem.W.codeIn K (.ref cl32) "best" = true)
 (k32:Ke_ K f32)
 (a33:Na_ K "_law_chosen" f33)
 (l33:Lo_ K f33 oc33 od33 "_law_chosen" "_law_chosen" uA kV33 dc33 pm33 an33 cd33 ct33 sl33)
 (c33:Co_ K cd33 "_law_chosen")
 (k33:Ke_ K f33)
 (a34:Na_ K "_law_chosen" f34)
 (l34:Lo_ K f34 oc34 od34 "_law_chosen" "_law_chosen" p7 kV34 dc34 pm34 an34 cd34 ct34 sl34)
 (c34:Co_ K cd34 "_law_chosen")
 (k34:Ke_ K f34)
 (a35:Na_ K "_law_chosen" f35)
 (l35:Lo_ K f35 oc35 od35 "_law_chosen" "_law_chosen" nJ kV35 dc35 pm35 an35 cd35 ct35 sl35)
 (c35:Co_ K cd35 "_law_chosen")
 (k35:Ke_ K f35)
 (a36:Na_ K "_law_chosen" f36)
 (l36:Lo_ K f36 oc36 od36 "_law_chosen" "_law_chosen" oN kV36 dc36 pm36 an36 cd36 ct36 sl36)
 (c36:Co_ K cd36 "_law_chosen")
 (k36:Ke_ K f36)
 (a37:Na_ K "_law_chosen" f37)
 (l37:Lo_ K f37 oc37 od37 "_law_chosen" "_law_chosen" oE kV37 dc37 pm37 an37 cd37 ct37 sl37)
 (c37:Co_ K cd37 "_law_chosen")
 (k37:Ke_ K f37)
 (a38:Na_ K "_law_chosen" f38)
 (l38:Lo_ K f38 oc38 od38 "_law_chosen" "_law_chosen" aQ kV38 dc38 pm38 an38 cd38 ct38 sl38)
 (c38:Co_ K cd38 "_law_chosen")
 (k38:Ke_ K f38)
 (a39:Na_ K "_law_chosen" f39)
 (l39:Lo_ K f39 oc39 od39 "_law_chosen" "_law_chosen" aJ kV39 dc39 pm39 an39 cd39 ct39 sl39)
 (c39:Co_ K cd39 "_law_chosen")
 (k39:Ke_ K f39)
 (a40:Na_ K "_law_chosen" f40)
 (l40:Lo_ K f40 oc40 od40 "_law_chosen" "_law_chosen" Y8 kV40 dc40 pm40 an40 cd40 ct40 sl40)
 (c40:Co_ K cd40 "_law_chosen")
 (k40:Ke_ K f40)
 (a41:Na_ K "_law_whole" f41)
 (l41:Lo_ K f41 oc41 od41 "_law_whole" "_law_whole" ZS kV41 dc41 pm41 an41 cd41 ct41 sl41)
 (c41:Co_ K cd41 "_law_whole")
 (k41:Ke_ K f41)
 (a42:Na_ K "_law_columns" f42)
 (l42:Lo_ K f42 oc42 od42 "_law_columns" "_law_columns" Z1 kV42 dc42 pm42 an42 cd42 ct42 sl42)
 (c42:Co_ K cd42 "_law_columns")
 (k42:Ke_ K f42)
 (a43:Na_ K "_law_contrast" f43)
 (l43:Lo_ K f43 oc43 od43 "_law_contrast" "_law_contrast" aW kV43 dc43 pm43 an43 cd43 ct43 sl43)
 (c43:Co_ K cd43 "_law_contrast")
 (k43:Ke_ K f43)
 (a44:Na_ K "_law_table" f44)
 (l44:Lo_ K f44 oc44 od44 "_law_table" "_law_table" ZU kV44 dc44 pm44 an44 cd44 ct44 sl44)
 (c44:Co_ K cd44 "_law_table")
 (k44:Ke_ K f44)
 (a45:Na_ K "_law_determinant" f45)
 (l45:Lo_ K f45 oc45 od45 "_law_determinant" "_law_determinant" uH kV45 dc45 pm45 an45 cd45 ct45 sl45)
 (c45:Co_ K cd45 "_law_determinant")
 (k45:Ke_ K f45)
 (a46:Na_ K "_law_determinant" f46)
 (l46:Lo_ K f46 oc46 od46 "_law_determinant" "_law_determinant" lY kV46 dc46 pm46 an46 cd46 ct46 sl46)
 (c46:Co_ K cd46 "_law_determinant")
 (k46:Ke_ K f46)
 (a47:Na_ K "_law_determinant" f47)
 (l47:Lo_ K f47 oc47 od47 "_law_determinant" "_law_determinant" lM kV47 dc47 pm47 an47 cd47 ct47 sl47)
 (c47:Co_ K cd47 "_law_determinant")
 (k47:Ke_ K f47)
 (a48:Na_ K "_law_determinant" f48)
 (l48:Lo_ K f48 oc48 od48 "_law_determinant" "_law_determinant" pE kV48 dc48 pm48 an48 cd48 ct48 sl48)
 (c48:Co_ K cd48 "_law_determinant")
 (k48:Ke_ K f48)
 (a49:Na_ K "_law_determinant" f49)
 (l49:Lo_ K f49 oc49 od49 "_law_determinant" "_law_determinant" lW kV49 dc49 pm49 an49 cd49 ct49 sl49)
 (c49:Co_ K cd49 "_law_determinant")
 (k49:Ke_ K f49)
 (a50:Na_ K "_law_determinant" f50)
 (l50:Lo_ K f50 oc50 od50 "_law_determinant" "_law_determinant" Z5 kV50 dc50 pm50 an50 cd50 ct50 sl50)
 (c50:Co_ K cd50 "_law_determinant")
 (k50:Ke_ K f50)
 (a51:Na_ K "_law_worth" f51)
 (l51:Lo_ K f51 oc51 od51 "_law_worth" "_law_worth" Z0 kV51 dc51 pm51 an51 cd51 ct51 sl51)
 (c51:Co_ K cd51 "_law_worth")
 (k51:Ke_ K f51)
 (a52:Na_ K "_law_right" f52)
 (l52:Lo_ K f52 oc52 od52 "_law_right" "_law_right" aC kV52 dc52 pm52 an52 cd52 ct52 sl52)
 (c52:Co_ K cd52 "_law_right")
 (k52:Ke_ K f52)
 (a53:Na_ K "law" f53)
 (l53:Lo_ K f53 oc53 od53 "law" "law" PB kV53 dc53 pm53 an53 cd53 ct53 sl53)
 (c53:Co_ K cd53 "law")
 (k53:Ke_ K f53)
 (a_NOUGHT:Na_ K "NOUGHT" t_NOUGHT)
 (l_NOUGHT:K.lookup t_NOUGHT=some ⟨.type "tuple",to_NOUGHT, .seq #[.int 0 tk_NOUGHT_0, .int 1 tk_NOUGHT_1] tn_NOUGHT,ts_NOUGHT⟩)
 (z0:Nz_ K "abs")
 (z1:Nz_ K "bool")
 (z2:Nz_ K "int")
 (z3:Nz_ K "isinstance")
 (z4:Nz_ K "len")
 (z5:Nz_ K "list")
 (z6:Nz_ K "max")
 (z7:Nz_ K "range")
 (z8:Nz_ K "reversed")
 (z9:Nz_ K "sum")
 (z10:Nz_ K "tuple")
 (z11:Nz_ K "zip")
 : (∃o,K.lookup mainGlobals=some o)/\∃fd:FuncData,(∀(s:Shared) (v:Value),BindsTo s fd ⟨[v],[]⟩ [("_law_script",v)])/\∀base:Heap,(BK K ((tbK ["best"] K).map (·.2))).In base->base.Ns mainGlobals mg->(∀p ∈ tbK ["best"] K,PySem.W.CodeHd base p.1 p.2)->BM base mg->FnOk l.prog w (BK K ((tbK ["best"] K).map (·.2))) mg base CX0 13 fa fd ["_law_script"] (Z6 (BK K ((tbK ["best"] K).map (·.2)))):=by
 have t32:=uT a32 l32 rfl u32 v32;have e:=hfa.symm.trans (AE X G a53)
 cases e
 have F_q22:=BG X hT (C0 (st:=YX) l1 c1 k1);have b_q22:=F_q22.binds (ps:= ["_law_cell","_law_k"]) (by walk_at "u2");have F_q21:=BG X hT (C0 (st:=ZI) l2 c2 k2);have b_q21:=F_q21.binds (ps:= ["_law_cell","_law_most"]) (by walk_at "u2");have F_q20:=BG X hT (C0 (st:=YO) l3 c3 k3);have b_q20:=F_q20.binds (ps:= ["_law_cell","_law_levels_here","_law_most"]) (by walk_at "u3");have F_q23:=BG X hT (C0 (st:=ZW) l4 c4 k4);have b_q23:=F_q23.binds (ps:= ["_law_cells","_law_levels_here"]) (by walk_at "u2");have F_q44:=BG X hT (C0 (st:=ZG) l5 c5 k5);have b_q44:=F_q44.binds (ps:= ["numbers"]) (by walk_at "u1");have F_q48:=BG X hT (C0 (st:=YN) l6 c6 k6);have b_q48:=F_q48.binds (ps:= ["levels","place"]) (by walk_at "u2");have F_q28:=BG X hT (C0 (st:=ZE) l7 c7 k7);have b_q28:=F_q28.binds (ps:= ["levels"]) (by walk_at "u1");have F_q38:=BG X hT (C0 (st:=ZV) l8 c8 k8);have b_q38:=F_q38.binds (ps:= ["levels","effect"]) (by walk_at "u2");have F_q34:=BG X hT (C0 (st:=ZH) l9 c9 k9);have b_q34:=F_q34.binds (ps:= ["levels","model"]) (by walk_at "u2");have F_q36:=BG X hT (C0 (st:=Z2) l10 c10 k10);have b_q36:=F_q36.binds (ps:= ["number","step"]) (by walk_at "u2");have F_q49:=BG X hT (C0 (st:=Y5) l11 c11 k11);have b_q49:=F_q49.binds (ps:= ["column","trial"]) (by walk_at "u2");have F_q47:=BG X hT (C0 (st:=YT) l12 c12 k12);have b_q47:=F_q47.binds (ps:= ["levels","plan","model"]) (by walk_at "u3");have F_q42:=BG X hT (C0 (st:=aS) l13 c13 k13);have b_q42:=F_q42.binds (ps:= ["lists","things"]) (by walk_at "u2");have F_q31:=BG X hT (C0 (st:=aU) l14 c14 k14);have b_q31:=F_q31.binds (ps:= ["count","many"]) (by walk_at "u2");have F_q40:=BG X hT (C0 (st:=aV) l15 c15 k15);have b_q40:=F_q40.binds (ps:= ["one","other"]) (by walk_at "u2");have F_q35:=BG X hT (C0 (st:=ZC) l16 c16 k16);have b_q35:=F_q35.binds (ps:= ["row"]) (by walk_at "u1");have F_q50:=BG X hT (C0 (st:=aD) l17 c17 k17);have b_q50:=F_q50.binds (ps:= ["row"]) (by walk_at "u1");have F_q14:=BG X hT (C0 (st:=aG) l18 c18 k18);have b_q14:=F_q14.binds (ps:= ["self","top","column"]) (by walk_at "u3");have F_q13:=BG X hT (C0 (st:=ZD) l19 c19 k19);have b_q13:=F_q13.binds (ps:= ["self","top","place"]) (by walk_at "u3");have F_q32:=BG X hT (C0 (st:=ZL) l20 c20 k20);have b_q32:=F_q32.binds (ps:= ["row","lead_row","column","last"]) (by walk_at "u4");have F_q15:=BG X hT (C0 (st:=ZY) l21 c21 k21);have b_q15:=F_q15.binds (ps:= ["self","column"]) (by walk_at "u2");have F_q12:=BG X hT (C0 (st:=Y4) l22 c22 k22);have b_q12:=F_q12.binds (ps:= ["self","rows"]) (by walk_at "u2");have F_q45:=BG X hT (C0 (st:=ZN) l23 c23 k23);have b_q45:=F_q45.binds (ps:= ["table"]) (by walk_at "u1");have F_q39:=BG X hT (C0 (st:=ZT) l24 c24 k24);have b_q39:=F_q39.binds (ps:= ["top","bottom"]) (by walk_at "u2")
 have F_q37:=BG X hT (C0 (st:=aM) l25 c25 k25);have b_q37:=F_q37.binds (ps:= ["table"]) (by walk_at "u1");have F_q41:=BG X hT (C0 (st:=aO) l26 c26 k26);have b_q41:=F_q41.binds (ps:= ["table"]) (by walk_at "u1");have F_q29:=BG X hT (C0 (st:=YI) l27 c27 k27);have b_q29:=F_q29.binds (ps:= ["numbers"]) (by walk_at "u1");have F_q46:=BG X hT (C0 (st:=ZQ) l28 c28 k28);have b_q46:=F_q46.binds (ps:= ["one","other"]) (by walk_at "u2");have F_q33:=BG X hT (C0 (st:=YK) l29 c29 k29);have b_q33:=F_q33.binds (ps:= ["rows"]) (by walk_at "u1");have F_q52:=BG X hT (C0 (st:=YB) l30 c30 k30);have b_q52:=F_q52.binds (ps:= ["rows"]) (by walk_at "u1");have F_q51:=BG X hT (C0 (st:=aE) l31 c31 k31);have b_q51:=F_q51.binds (ps:= ["levels","plan","model"]) (by walk_at "u3");have F_q30:=BG X hT (C0 (st:=QS) l32 c32 k32);have b_q30:=F_q30.binds (ps:= ["levels","trials","model","many"]) (by walk_at "u4");have F_q0:=BG X hT (C0 (st:=uA) l33 c33 k33);have b_q0:=F_q0.binds (ps:= ["_law_some","_law_t"]) (by walk_at "u2");have F_q2:=BG X hT (C0 (st:=p7) l34 c34 k34);have b_q2:=F_q2.binds (ps:= ["_law_some","_law_t"]) (by walk_at "u2");have F_q4:=BG X hT (C0 (st:=nJ) l35 c35 k35);have b_q4:=F_q4.binds (ps:= ["_law_some","_law_t"]) (by walk_at "u2");have F_q6:=BG X hT (C0 (st:=oN) l36 c36 k36);have b_q6:=F_q6.binds (ps:= ["_law_some","_law_t"]) (by walk_at "u2");have F_q8:=BG X hT (C0 (st:=oE) l37 c37 k37);have b_q8:=F_q8.binds (ps:= ["_law_some","_law_t"]) (by walk_at "u2");have F_q10:=BG X hT (C0 (st:=aQ) l38 c38 k38);have b_q10:=F_q10.binds (ps:= ["_law_some","_law_t"]) (by walk_at "u2");have F_q11:=BG X hT (C0 (st:=aJ) l39 c39 k39);have b_q11:=F_q11.binds (ps:= ["_law_some","_law_t"]) (by walk_at "u2");have F_q16:=BG X hT (C0 (st:=Y8) l40 c40 k40);have b_q16:=F_q16.binds (ps:= ["_law_some","_law_t"]) (by walk_at "u2");have F_q26:=BG X hT (C0 (st:=ZS) l41 c41 k41);have b_q26:=F_q26.binds (ps:= ["_law_found"]) (by walk_at "u1");have F_q17:=BG X hT (C0 (st:=Z1) l42 c42 k42);have b_q17:=F_q17.binds (ps:= ["_law_levels_here","_law_model"]) (by walk_at "u2");have F_q18:=BG X hT (C0 (st:=aW) l43 c43 k43);have b_q18:=F_q18.binds (ps:= ["_law_k","_law_step"]) (by walk_at "u2");have F_q25:=BG X hT (C0 (st:=ZU) l44 c44 k44);have b_q25:=F_q25.binds (ps:= ["_law_levels_here","_law_plan_here","_law_model"]) (by walk_at "u3");have F_q1:=BG X hT (C0 (st:=uH) l45 c45 k45);have b_q1:=F_q1.binds (ps:= ["_law_rows"]) (by walk_at "u1");have F_q3:=BG X hT (C0 (st:=lY) l46 c46 k46);have b_q3:=F_q3.binds (ps:= ["_law_rows"]) (by walk_at "u1");have F_q5:=BG X hT (C0 (st:=lM) l47 c47 k47);have b_q5:=F_q5.binds (ps:= ["_law_rows"]) (by walk_at "u1");have F_q7:=BG X hT (C0 (st:=pE) l48 c48 k48);have b_q7:=F_q7.binds (ps:= ["_law_rows"]) (by walk_at "u1")
 have F_q9:=BG X hT (C0 (st:=lW) l49 c49 k49);have b_q9:=F_q9.binds (ps:= ["_law_rows"]) (by walk_at "u1");have F_q19:=BG X hT (C0 (st:=Z5) l50 c50 k50);have b_q19:=F_q19.binds (ps:= ["_law_rows"]) (by walk_at "u1");have F_q27:=BG X hT (C0 (st:=Z0) l51 c51 k51);have b_q27:=F_q27.binds (ps:= ["_law_levels_here","_law_plan_here","_law_model"]) (by walk_at "u3");have F_q24:=BG X hT (C0 (st:=aC) l52 c52 k52);have b_q24:=F_q24.binds (ps:= ["_law_levels_here","_law_trials","_law_model","_law_many"]) (by walk_at "u4");have F_law:=BG X hT (C0 (st:=PB) l53 c53 k53);have b_law:=F_law.binds (ps:= ["_law_script"]) (by walk_at "u1");have B:Bl mg:=⟨CW X G z0,CW X G z1,CW X G z2,CW X G z3,CW X G z4,CW X G z5,CW X G z6,CW X G z7,CW X G z8,CW X G z9,CW X G z10,CW X G z11⟩
 have K_S:Klass (BK K ((tbK ["best"] K).map (·.2))) C_S ["rows","leads","last"]:=UpK.klass (MK X hT) ⟨⟨pg_Stairs,hd_Stairs,po_Stairs,sa_Stairs⟩,fun f hf=>by
  simp only [AZ,BA,EH] at hf
  rcases hf with rfl | rfl | rfl
  . exact n_Stairs_rows
  . exact n_Stairs_leads
  . exact n_Stairs_last⟩
 have C_NOUGHT:e8 (BK K ((tbK ["best"] K).map (·.2))) mg "NOUGHT" c_NOUGHT:=⟨.ref t_NOUGHT, .ref t_NOUGHT,AE X G a_NOUGHT,rfl,fun H0=>Rep.tuple (xs:= [V.int 0,V.int 1]) (.inr ⟨_,_,_,IE (OP X hT l_NOUGHT (fun z=>by cases z)) l_NOUGHT,rfl,rfl,by show 2<=sizeLine;decide, .cons ⟨_,rfl⟩ (.cons ⟨_,rfl⟩ (.nil))⟩) (.cons (.int _) (.cons (.int _) .nil))⟩;refine ⟨o0 a53,PySem.W.fnOf "law" "law" (JS PB) (GD PB) (AN PB) .none kV53 dc53 pm53 an53 cd53 ct53,fun s v=> .of_eq rfl,fun base _ _ hC bm=> ?_⟩;have D_q22:Def l.prog w (BK K ((tbK ["best"] K).map (·.2))) mg base 1 "_law_mixed" ["_law_cell","_law_k"] (spD (BK K ((tbK ["best"] K).map (·.2))) JY):=⟨_,_,rV B F_q22,AE X G a1,F_q22.kp,b_q22⟩;have D_q21:Def l.prog w (BK K ((tbK ["best"] K).map (·.2))) mg base 2 "_law_levels" ["_law_cell","_law_most"] (spD (BK K ((tbK ["best"] K).map (·.2))) VN):=⟨_,_,sA B D_q22 F_q21,AE X G a2,F_q21.kp,b_q21⟩;have D_q20:Def l.prog w (BK K ((tbK ["best"] K).map (·.2))) mg base 2 "_law_effects" ["_law_cell","_law_levels_here","_law_most"] (spD (BK K ((tbK ["best"] K).map (·.2))) UE):=⟨_,_,uP B D_q22 F_q20,AE X G a3,F_q20.kp,b_q20⟩;have D_q23:Def l.prog w (BK K ((tbK ["best"] K).map (·.2))) mg base 2 "_law_plan" ["_law_cells","_law_levels_here"] (spD (BK K ((tbK ["best"] K).map (·.2))) RK):=⟨_,_,w5 B D_q22 F_q23,AE X G a4,F_q23.kp,b_q23⟩;have D_q44:Def l.prog w (BK K ((tbK ["best"] K).map (·.2))) mg base 1 "product_of" ["numbers"] (spD (BK K ((tbK ["best"] K).map (·.2))) U5):=⟨_,_,sR B F_q44,AE X G a5,F_q44.kp,b_q44⟩;have D_q48:Def l.prog w (BK K ((tbK ["best"] K).map (·.2))) mg base 1 "trial_at" ["levels","place"] (spD (BK K ((tbK ["best"] K).map (·.2))) UB):=⟨_,_,vQ B F_q48,AE X G a6,F_q48.kp,b_q48⟩;have D_q28:Def l.prog w (BK K ((tbK ["best"] K).map (·.2))) mg base 2 "all_trials" ["levels"] (spD (BK K ((tbK ["best"] K).map (·.2))) UL):=⟨_,_,wQ B D_q44 D_q48 F_q28,AE X G a7,F_q28.kp,b_q28⟩;have D_q38:Def l.prog w (BK K ((tbK ["best"] K).map (·.2))) mg base 3 "effect_columns" ["levels","effect"] (spD (BK K ((tbK ["best"] K).map (·.2))) V0):=⟨_,_,vK B D_q28 F_q38,AE X G a8,F_q38.kp,b_q38⟩;have D_q34:Def l.prog w (BK K ((tbK ["best"] K).map (·.2))) mg base 4 "columns_of" ["levels","model"] (spD (BK K ((tbK ["best"] K).map (·.2))) W4):=⟨_,_,vC B D_q38 F_q34,AE X G a9,F_q34.kp,b_q34⟩;have D_q36:Def l.prog w (BK K ((tbK ["best"] K).map (·.2))) mg base 1 "contrast" ["number","step"] (spD (BK K ((tbK ["best"] K).map (·.2))) U4):=⟨_,_,wB B F_q36,AE X G a10,F_q36.kp,b_q36⟩;have D_q49:Def l.prog w (BK K ((tbK ["best"] K).map (·.2))) mg base 2 "value_at" ["column","trial"] (spD (BK K ((tbK ["best"] K).map (·.2))) R5):=⟨_,_,sQ B D_q36 F_q49,AE X G a11,F_q49.kp,b_q49⟩;have D_q47:Def l.prog w (BK K ((tbK ["best"] K).map (·.2))) mg base 5 "table_of" ["levels","plan","model"] (spD (BK K ((tbK ["best"] K).map (·.2))) PJ):=⟨_,_,vN B D_q34 D_q49 F_q47,AE X G a12,F_q47.kp,b_q47⟩
 have D_q42:Def l.prog w (BK K ((tbK ["best"] K).map (·.2))) mg base 1 "longer_lists" ["lists","things"] (spD (BK K ((tbK ["best"] K).map (·.2))) UR):=⟨_,_,wL B F_q42,AE X G a13,F_q42.kp,b_q42⟩;have D_q31:Def l.prog w (BK K ((tbK ["best"] K).map (·.2))) mg base 2 "choices_of" ["count","many"] (spD (BK K ((tbK ["best"] K).map (·.2))) V4):=⟨_,_,tE B D_q42 F_q31,AE X G a14,F_q31.kp,b_q31⟩;have D_q40:Def l.prog w (BK K ((tbK ["best"] K).map (·.2))) mg base 1 "greatest_divisor" ["one","other"] (spD (BK K ((tbK ["best"] K).map (·.2))) NZ):=⟨_,_,vL B F_q40,AE X G a15,F_q40.kp,b_q40⟩;have D_q35:Def l.prog w (BK K ((tbK ["best"] K).map (·.2))) mg base 2 "common_bottom" ["row"] (spD (BK K ((tbK ["best"] K).map (·.2))) O7):=⟨_,_,vA B D_q40 F_q35,AE X G a16,F_q35.kp,b_q35⟩;have D_q50:Def l.prog w (BK K ((tbK ["best"] K).map (·.2))) mg base 3 "whole_row" ["row"] (spD (BK K ((tbK ["best"] K).map (·.2))) RD):=⟨_,_,t4 B D_q35 F_q50,AE X G a17,F_q50.kp,b_q50⟩;have D_q14:MDef l.prog w (BK K ((tbK ["best"] K).map (·.2))) mg base 1 C_S "place_of_lead" ["self","top","column"] (spM (BK K ((tbK ["best"] K).map (·.2))) C_S ["rows","leads","last"] O1):=⟨_,_,sH B K_S F_q14,UpK.meth (MK X hT) ⟨a18,i18,k18⟩,b_q14⟩;have D_q13:MDef l.prog w (BK K ((tbK ["best"] K).map (·.2))) mg base 1 C_S "exchange" ["self","top","place"] (spM (BK K ((tbK ["best"] K).map (·.2))) C_S ["rows","leads","last"] RM):=⟨_,_,tY B K_S F_q13,UpK.meth (MK X hT) ⟨a19,i19,k19⟩,b_q13⟩;have D_q32:Def l.prog w (BK K ((tbK ["best"] K).map (·.2))) mg base 1 "cleared_row" ["row","lead_row","column","last"] (spD (BK K ((tbK ["best"] K).map (·.2))) UD):=⟨_,_,uN B F_q32,AE X G a20,F_q32.kp,b_q32⟩;have D_q15:MDef l.prog w (BK K ((tbK ["best"] K).map (·.2))) mg base 2 C_S "step_down" ["self","column"] (spM (BK K ((tbK ["best"] K).map (·.2))) C_S ["rows","leads","last"] Q2):=⟨_,_,tG B D_q14 D_q13 D_q32 K_S F_q15,UpK.meth (MK X hT) ⟨a21,i21,k21⟩,b_q15⟩;have D_q12:KDef l.prog w (BK K ((tbK ["best"] K).map (·.2))) mg base 3 C_S "Stairs" ["self","rows"] (spM (BK K ((tbK ["best"] K).map (·.2))) C_S ["rows","leads","last"] PM):=⟨_,_,tN B D_q15 K_S F_q12,UpK.mk (MK X hT) ⟨mk_Stairs,a22,i22,kc_Stairs⟩,AE X G aC_Stairs,b_q12⟩;have D_q45:Def l.prog w (BK K ((tbK ["best"] K).map (·.2))) mg base 5 "stairs_of" ["table"] (spO (BK K ((tbK ["best"] K).map (·.2))) C_S ["rows","leads","last"] P5):=⟨_,_,vX B D_q50 D_q12 K_S F_q45,AE X G a23,F_q45.kp,b_q45⟩;have D_q39:Def l.prog w (BK K ((tbK ["best"] K).map (·.2))) mg base 2 "fraction" ["top","bottom"] (spD (BK K ((tbK ["best"] K).map (·.2))) UU):=⟨_,_,vW B D_q40 F_q39,AE X G a24,F_q39.kp,b_q39⟩;have D_q37:Def l.prog w (BK K ((tbK ["best"] K).map (·.2))) mg base 6 "determinant" ["table"] (spD (BK K ((tbK ["best"] K).map (·.2))) VE):=⟨_,_,wG B D_q45 D_q35 D_q39 C_NOUGHT K_S F_q37,AE X G a25,F_q37.kp,b_q37⟩
 have D_q41:Def l.prog w (BK K ((tbK ["best"] K).map (·.2))) mg base 1 "laid_over" ["table"] (spD (BK K ((tbK ["best"] K).map (·.2))) U8):=⟨_,_,vP B F_q41,AE X G a26,F_q41.kp,b_q41⟩;have D_q29:Def l.prog w (BK K ((tbK ["best"] K).map (·.2))) mg base 1 "as_fractions" ["numbers"] (spD (BK K ((tbK ["best"] K).map (·.2))) VV):=⟨_,_,u5 B F_q29,AE X G a27,F_q29.kp,b_q29⟩;have D_q46:Def l.prog w (BK K ((tbK ["best"] K).map (·.2))) mg base 1 "sum_of_products" ["one","other"] (spD (BK K ((tbK ["best"] K).map (·.2))) UO):=⟨_,_,vD B F_q46,AE X G a28,F_q46.kp,b_q46⟩;have D_q33:Def l.prog w (BK K ((tbK ["best"] K).map (·.2))) mg base 2 "column_products" ["rows"] (spD (BK K ((tbK ["best"] K).map (·.2))) UH):=⟨_,_,uM B D_q41 D_q29 D_q46 F_q33,AE X G a29,F_q33.kp,b_q33⟩;have D_q52:Def l.prog w (BK K ((tbK ["best"] K).map (·.2))) mg base 7 "worth_of" ["rows"] (spD (BK K ((tbK ["best"] K).map (·.2))) NW):=⟨_,_,sP B D_q37 D_q33 F_q52,AE X G a30,F_q52.kp,b_q52⟩;have D_q51:Def l.prog w (BK K ((tbK ["best"] K).map (·.2))) mg base 8 "worth" ["levels","plan","model"] (spD (BK K ((tbK ["best"] K).map (·.2))) PV):=⟨_,_,sK B D_q52 D_q47 F_q51,AE X G a31,F_q51.kp,b_q51⟩;have D_q30:Def l.prog w (BK K ((tbK ["best"] K).map (·.2))) mg base 11 "best" ["levels","trials","model","many"] (spA (BK K ((tbK ["best"] K).map (·.2))) U3):=⟨_,_,uX B D_q47 D_q31 D_q52 D_q51 rfl (hC _ (hZ (by simp) t32)) (lB (by simp) t32) bm F_q30,AE X G a32,F_q30.kp,b_q30⟩;have D_q0:Def l.prog w (BK K ((tbK ["best"] K).map (·.2))) mg base 1 "_law_chosen" ["_law_some","_law_t"] (spD (BK K ((tbK ["best"] K).map (·.2))) lE):=⟨_,_,xT B F_q0,AE X G a33,F_q0.kp,b_q0⟩;have D_q2:Def l.prog w (BK K ((tbK ["best"] K).map (·.2))) mg base 2 "_law_chosen" ["_law_some","_law_t"] (spD (BK K ((tbK ["best"] K).map (·.2))) dO):=⟨_,_,x8 B D_q0 F_q2,AE X G a34,F_q2.kp,b_q2⟩;have D_q4:Def l.prog w (BK K ((tbK ["best"] K).map (·.2))) mg base 3 "_law_chosen" ["_law_some","_law_t"] (spD (BK K ((tbK ["best"] K).map (·.2))) kM):=⟨_,_,yL B D_q2 F_q4,AE X G a35,F_q4.kp,b_q4⟩;have D_q6:Def l.prog w (BK K ((tbK ["best"] K).map (·.2))) mg base 4 "_law_chosen" ["_law_some","_law_t"] (spD (BK K ((tbK ["best"] K).map (·.2))) jV):=⟨_,_,xR B D_q4 F_q6,AE X G a36,F_q6.kp,b_q6⟩;have D_q8:Def l.prog w (BK K ((tbK ["best"] K).map (·.2))) mg base 5 "_law_chosen" ["_law_some","_law_t"] (spD (BK K ((tbK ["best"] K).map (·.2))) jB):=⟨_,_,xF B D_q6 F_q8,AE X G a37,F_q8.kp,b_q8⟩;have D_q10:Def l.prog w (BK K ((tbK ["best"] K).map (·.2))) mg base 6 "_law_chosen" ["_law_some","_law_t"] (spD (BK K ((tbK ["best"] K).map (·.2))) VT):=⟨_,_,tZ B D_q8 F_q10,AE X G a38,F_q10.kp,b_q10⟩;have D_q11:Def l.prog w (BK K ((tbK ["best"] K).map (·.2))) mg base 7 "_law_chosen" ["_law_some","_law_t"] (spD (BK K ((tbK ["best"] K).map (·.2))) VD):=⟨_,_,uU B D_q10 F_q11,AE X G a39,F_q11.kp,b_q11⟩
 have D_q16:Def l.prog w (BK K ((tbK ["best"] K).map (·.2))) mg base 8 "_law_chosen" ["_law_some","_law_t"] (spD (BK K ((tbK ["best"] K).map (·.2))) UY):=⟨_,_,vU B D_q11 F_q16,AE X G a40,F_q16.kp,b_q16⟩;have D_q26:Def l.prog w (BK K ((tbK ["best"] K).map (·.2))) mg base 1 "_law_whole" ["_law_found"] (spD (BK K ((tbK ["best"] K).map (·.2))) V5):=⟨_,_,uJ B F_q26,AE X G a41,F_q26.kp,b_q26⟩;have D_q17:Def l.prog w (BK K ((tbK ["best"] K).map (·.2))) mg base 1 "_law_columns" ["_law_levels_here","_law_model"] (spD (BK K ((tbK ["best"] K).map (·.2))) QL):=⟨_,_,vE B F_q17,AE X G a42,F_q17.kp,b_q17⟩;have D_q18:Def l.prog w (BK K ((tbK ["best"] K).map (·.2))) mg base 1 "_law_contrast" ["_law_k","_law_step"] (spD (BK K ((tbK ["best"] K).map (·.2))) W8):=⟨_,_,vM B F_q18,AE X G a43,F_q18.kp,b_q18⟩;have D_q25:Def l.prog w (BK K ((tbK ["best"] K).map (·.2))) mg base 2 "_law_table" ["_law_levels_here","_law_plan_here","_law_model"] (spD (BK K ((tbK ["best"] K).map (·.2))) QZ):=⟨_,_,rS B D_q17 D_q18 F_q25,AE X G a44,F_q25.kp,b_q25⟩;have D_q1:Def l.prog w (BK K ((tbK ["best"] K).map (·.2))) mg base 1 "_law_determinant" ["_law_rows"] (spD (BK K ((tbK ["best"] K).map (·.2))) n5):=⟨_,_,xE B F_q1,AE X G a45,F_q1.kp,b_q1⟩;have D_q3:Def l.prog w (BK K ((tbK ["best"] K).map (·.2))) mg base 2 "_law_determinant" ["_law_rows"] (spD (BK K ((tbK ["best"] K).map (·.2))) i6):=⟨_,_,xI B D_q1 F_q3,AE X G a46,F_q3.kp,b_q3⟩;have D_q5:Def l.prog w (BK K ((tbK ["best"] K).map (·.2))) mg base 3 "_law_determinant" ["_law_rows"] (spD (BK K ((tbK ["best"] K).map (·.2))) kE):=⟨_,_,yF B D_q3 F_q5,AE X G a47,F_q5.kp,b_q5⟩;have D_q7:Def l.prog w (BK K ((tbK ["best"] K).map (·.2))) mg base 4 "_law_determinant" ["_law_rows"] (spD (BK K ((tbK ["best"] K).map (·.2))) gP):=⟨_,_,wZ B D_q5 F_q7,AE X G a48,F_q7.kp,b_q7⟩;have D_q9:Def l.prog w (BK K ((tbK ["best"] K).map (·.2))) mg base 5 "_law_determinant" ["_law_rows"] (spD (BK K ((tbK ["best"] K).map (·.2))) eO):=⟨_,_,xX B D_q7 F_q9,AE X G a49,F_q9.kp,b_q9⟩;have D_q19:Def l.prog w (BK K ((tbK ["best"] K).map (·.2))) mg base 6 "_law_determinant" ["_law_rows"] (spD (BK K ((tbK ["best"] K).map (·.2))) VW):=⟨_,_,u8 B D_q9 F_q19,AE X G a50,F_q19.kp,b_q19⟩;have D_q27:Def l.prog w (BK K ((tbK ["best"] K).map (·.2))) mg base 7 "_law_worth" ["_law_levels_here","_law_plan_here","_law_model"] (spD (BK K ((tbK ["best"] K).map (·.2))) M4):=⟨_,_,rL B D_q25 D_q19 F_q27,AE X G a51,F_q27.kp,b_q27⟩;have D_q24:Def l.prog w (BK K ((tbK ["best"] K).map (·.2))) mg base 12 "_law_right" ["_law_levels_here","_law_trials","_law_model","_law_many"] (spD (BK K ((tbK ["best"] K).map (·.2))) UV):=⟨_,_,tX B D_q30 D_q16 D_q26 D_q27 F_q24,AE X G a52,F_q24.kp,b_q24⟩;exact (wR B D_q21 D_q20 D_q23 D_q24 F_law).imp (fun vs H Q E h=>mQ fU h)
theorem walk {l : PySem.W.OpenLaw} {q : Program} {loose : List Str} {XP : (Str -> Option Value) -> Heap -> Prop} {YP : World -> Heap -> Prop} {d : DefRec} {K : Params -> PySem.W.Frag} (hn : l.most = some 63) (hdf : d.params.defaults = [])
 (hY:∀(w:World) (h:Heap),YP w h->(K w.params).In h)
 (hrec:∀y ∈ (["best"]:List Str),∃e,(PyProof.Rows.recsOf q).find? (fun e=>e.name==y)=some e)
 (F:∀(w:World) (mg:Str->Option Value) (fa:Addr) (h:Heap),(K w.params).In h->h.Ns mainGlobals mg->mg d.name=some (.ref fa)->(∀p ∈ (tbK ["best"] (K w.params)).map (·.2),h.get? p=some (PySem.W.tabObj #[])) ->
  (∃o,(K w.params).lookup mainGlobals=some o)/\∃fd:FuncData,(∀(s:Shared) (u:Value),BindsTo s fd ⟨[u],[]⟩ [("_law_script",u)])/\∀base:Heap,(BK (K w.params) ((tbK ["best"] (K w.params)).map (·.2))).In base->base.Ns mainGlobals mg->(∀p ∈ tbK ["best"] (K w.params),PySem.W.CodeHd base p.1 p.2)->BM base mg->FnOk l.prog w (BK (K w.params) ((tbK ["best"] (K w.params)).map (·.2))) mg base CX0 13 fa fd ["_law_script"] (Z6 (BK (K w.params) ((tbK ["best"] (K w.params)).map (·.2))))) :
 PySem.W.WalkO q loose XP YP l.row.toRowW d [] (fun f vs=>PySem.call f vs) :=
 gH (n:=63) (k:=13) (x:= "_law_script") (sp:=Z6) hn (by decide) hdf ⟨rfl,by decide,by decide⟩ hY hrec F fun _ _ a ns hl hS=>⟨a,ns,rfl,hS,hl,fun _=>rfl⟩
end
end K87
namespace PySem.W.Fast
def tw9158802547019490087:=0
def tw5735346343941632489:=0
def tw7626803391405155458:=0
def tw6472807701685444830:=0
def tw11987714085580698669:=0
def tw7920793473172406090:=0
def tw18255116272886013659:=0
def tw12597659142975142198:=0
def tw11185879322054547338:=0
def tw14673173086881001702:=0
def tw3049691015776617368:=0
def tw15560340808506859317:=0
def tw14190737230347721493:=0
def tw7013344522759076587:=0
def tw17943162256879442540:=0
def tw13991625422549713285:=0
def tw11867430445998225147:=0
def tw2514699153789812530:=0
end PySem.W.Fast
open PySem PySem.W PyProof.Rows
set_option maxRecDepth 100000 in
set_option maxHeartbeats 0 in
theorem PySem.Challenge.cw_trialfield_k87_whole_best_holds : PySem.Challenge.rw_trialfield_k87_whole_best.Holds := by
 w_on;o_law;k_head;(case hw=>w_witness2)
 k_fill
 refine K87.walk (l := PySem.Challenge.rw_trialfield_k87_whole_best) rfl rfl (fun w h Y => PySem.W.km_in_of Y) ?R ?F
 case R=>
  intro y hy;simp only [AZ,BA,EH] at hy
  rcases hy with rfl <;> exact ⟨_,rfl⟩
 case F=>
  intro w mg fa h KX G hmg hT;refine' K87.all_mk KX G hmg hT ?_ ?_ ?_ ?_ ?_ ?_ ?_ ?_ ?_ ?_ ?_ ?_ ?_ ?_ ?_ ?_ ?_ ?_ ?_ ?_ ?_ ?_ ?_ ?_ ?_ ?_ ?_ ?_ ?_ ?_ ?_ ?_ ?_ ?_ ?_ ?_ ?_ ?_ ?_ ?_ ?_ ?_ ?_ ?_ ?_ ?_ ?_ ?_ ?_ ?_ ?_ ?_ ?_ ?_ ?_ ?_ ?_ ?_ ?_ ?_ ?_ ?_ ?_ ?_ ?_ ?_ ?_ ?_ ?_ ?_ ?_ ?_ ?_ ?_ ?_ ?_ ?_ ?_ ?_ ?_ ?_ ?_ ?_ ?_ ?_ ?_ ?_ ?_ ?_ ?_ ?_ ?_ ?_ ?_ ?_ ?_ ?_ ?_ ?_ ?_ ?_ ?_ ?_ ?_ ?_ ?_ ?_ ?_ ?_ ?_ ?_ ?_ ?_ ?_ ?_ ?_ ?_ ?_ ?_ ?_ ?_ ?_ ?_ ?_ ?_ ?_ ?_ ?_ ?_ ?_ ?_ ?_ ?_ ?_ ?_ ?_ ?_ ?_ ?_ ?_ ?_ ?v32 ?_ ?_ ?_ ?_ ?_ ?_ ?_ ?_ ?_ ?_ ?_ ?_ ?_ ?_ ?_ ?_ ?_ ?_ ?_ ?_ ?_ ?_ ?_ ?_ ?_ ?_ ?_ ?_ ?_ ?_ ?_ ?_ ?_ ?_ ?_ ?_ ?_ ?_ ?_ ?_ ?_ ?_ ?_ ?_ ?_ ?_ ?_ ?_ ?_ ?_ ?_ ?_ ?_ ?_ ?_ ?_ ?_ ?_ ?_ ?_ ?_ ?_ ?_ ?_ ?_ ?_ ?_ ?_ ?_ ?_ ?_ ?_ ?_ ?_ ?_ ?_ ?_ ?_ ?_ ?_ ?_ ?_ ?_ ?_ ?_ ?_ ?_ ?_ ?_ ?_ ?_ ?_ ?_ ?_ ?_ ?_ ?_ ?_ ?_ ?_
  all_goals (first | ((first | unfold K87.Na_ | unfold K87.Nz_ | unfold K87.Co_ | unfold K87.Ke_ | unfold K87.Lo_);k_is) | k_is | skip)
  (case v32=>exact rfl)
  all_goals (first | ((first | unfold K87.Na_ | unfold K87.Nz_ | unfold K87.Co_ | unfold K87.Ke_ | unfold K87.Lo_);k_is) | k_is | skip)
