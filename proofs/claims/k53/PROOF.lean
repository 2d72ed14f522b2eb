import PyProof.Rows.All
import Wide.All
import OpenK.AllK
import Wide.FinOn
import Lean
import PyProof.EqAt
import PyProof.EqKinds
import PyProof.TupleCall
import PyProof.DictRoadsH
import PySem.Challenge.RW_trialfield_k53_whole_squares_in_any_orde
set_option Elab.async false
set_option linter.all false
set_option maxRecDepth 100000
set_option maxHeartbeats 4000000
def A0:=@Option.bind_eq_some_iff
def A3:=@List.getElem?_append_right
def A4:=@List.length_map
def A5:=@PySem.Heap.get?_push_of_some
def A7:=@PySem.wpAny_bind
def A8:=@List.getElem?_eq_getElem
def A9:=@List.getElem?_append_left
def AA:=@Nat.le_refl
def AD:=@of_decide_eq_true
def AE:=@List.length_range
def AI:=@List.getElem?_set_ne
def AJ:=@List.mem_of_getElem?
def AL:=@PySem.W.mg_of
def AM:=@Nat.lt_of_lt_of_le
def AN:=@if_pos
def AR:=@if_neg
def AS:=@List.getElem?_map
def AT:=@List.length_append
def AU:=@List.size_toArray
def AX:=@PySem.wpAny_pure
def AY:=@Option.some.inj
def AZ:=@PySem.Heap.lt_size
def B5:=@PySem.PassesOwn.never
def B6:=@List.getElem?_eq_some_iff
def B7:=@PySem.Heap.get?_push_size
def B8:=@List.mem_cons
def B9:=@List.mem_singleton
def BC:=@List.map_congr_left
def BG:=@Nat.le_trans
def BH:=@Option.map_eq_some_iff
def BJ:=@List.map_append
def BK:=@List.not_mem_nil
def BO:=@List.getElem?_range
def BQ:=@Option.bind_some
def BS:=@List.take_of_length_le
def BV:=@List.mem_cons_of_mem
def BW:=@Nat.pow_le_pow_right
def BX:=@List.getElem?_cons_succ
def BZ:=@List.getElem?_eq_none
def C4:=@Int.mul_comm
def C5:=@List.mem_range
def C6:=@List.mem_append_right
def C7:=@PyProof.Rows.callWith_type1
def C8:=@List.length_cons
def CC:=@decide_eq_false
def CD:=@Int.mul_assoc
def CF:=@Or.inr
def CK:=@List.getElem?_set_self'
def CL:=@Int.mul_zero
def CM:=@List.getElem?_cons_zero
def CN:=@List.take_add_one
def CP:=@Int.natAbs_dvd_natAbs
def CT:=@List.map_cons
def CV:=@List.length_take
def CW:=@List.mem_map
def CY:=@Nat.add_sub_cancel_left
def D2:=@Nat.le_add_right
def D4:=@Nat.ne_of_lt
def D8:=@List.mem_cons_self
def D9:=@Nat.lt_of_le_of_lt
def DC:=@PySem.Heap.size_push
def DH:=@Int.mul_ne_zero
def DJ:=@True.intro
def DK:=@List.lookup_cons
def DU:=@List.mem_append
def DV:=@List.append_nil
def DX:=@List.length_set
def DY:=@Option.join_some
def DZ:=@Nat.zero_le
def E1:=@Or.inl
def E4:=@List.getElem?_replicate
def E9:=@List.mem_of_mem_take
def EA:=@PySem.W.mg_none_of
def EB:=@List.drop_eq_nil_of_le
def EC:=@Int.fmod_nonneg_of_pos
def EH:=@beq_iff_eq
def EM:=@or_false
def ET:=@decide_eq_true
def EU:=@Int.zero_mul
def EZ:=@List.drop_eq_getElem_cons
def F0:=@PySem.wpAny_newObj_type
def F2:=@Bool.false_ne_true
def F3:=@Bool.and_eq_true
def F5:=@Nat.mul_le_mul_right
def F6:=@Option.map_some
def F9:=@beq_eq_false_iff_ne
def FA:=@List.replicate_succ
def FP:=@List.all_eq_true
def FX:=@Int.mul_eq_zero
def FY:=@List.range_succ
def FZ:=@Int.neg_mul
def G0:=@PySem.F.slot_tuple_iterator_next
def G1:=@List.map_map
def G7:=@Int.mul_fdiv_cancel_left
def G9:=@Int.toNat_of_nonneg
def GA:=@Nat.mul_le_mul
def GG:=@Int.mul_one
def GI:=@List.getElem?_drop
def GJ:=@List.set_cons_zero
def GL:=@List.set_cons_succ
def GM:=@PySem.wpAny_callSpecial?_slot
def GS:=@List.length_replicate
def GU:=@List.take_append_drop
def GX:=@List.flatten_cons
def GZ:=@PySem.wpAny_mono
def H9:=@PySem.wpAny_Call_Name_kw
def HC:=@PySem.wpAny_passesOwn
def HD:=@Int.natAbs_mul
def HF:=@Nat.pow_pos
def HH:=@Int.mul_pos
def HP:=@Nat.le_of_lt
def HQ:=@Ne.symm
def HR:=@Nat.lt_succ_self
def HS:=@if_true
def HU:=@Int.le_of_lt
def HV:=@List.take_length
def HW:=@PySem.mem_of_lookup
def HX:=@List.flatMap_append
def I9:=@Nat.lt_irrefl
def ID:=@List.nodup_cons
def IE:=@Int.natCast_mul
def IF:=@Int.fmod_lt_of_pos
def IQ:=@List.getElem?_set_self
def IR:=@Int.toNat_natCast
def IS:=@List.reverse_cons
def IT:=@Nat.mul_comm
def IU:=@Bool.eq_false_iff
def JB:=@PyProof.Rows.slot_tuple_getitem
def JC:=@PySem.F.slot_zip_next
def JJ:=@List.length_drop
def JK:=@List.cons_append
def JL:=@List.getElem_mem
def JQ:=@List.mem_append_left
def JR:=@PySem.F.slot_list_append
def JS:=@PySem.wpAny_seqItems
def KH:=@PySem.wpAny_call_entry
def KI:=@PySem.wpAny_pyIter_zip
def KJ:=@Int.zero_add
def KM:=@congrArg
def KN:=@List.mem_filterMap
def KO:=@Int.fdiv_eq_ediv_of_nonneg
def M4:=@Int.eq_of_mul_eq_mul_left
def M5:=@Classical.byContradiction
def M7:=@List.append_assoc
def M8:=@Option.some.injEq
def M9:=@Int.gcd_dvd_right
def MA:=@Int.mul_neg
def MB:=@List.flatMap_cons
def MI:=@PySem.F.args_tuple_add_2
def MJ:=@Nat.le_of_dvd
def MX:=@PySem.F.entry_tuple_add
def MY:=@beq_self_eq_true
def MZ:=@PySem.F.plainAttrs_list
def NY:=@PySem.F.slot_tuple_add
def NZ:=@Nat.succ_mul
def O0:=@Nat.pow_succ
def OU:=@List.sum_append
def OV:=@Int.gcd_pos_iff
def PD:=@List.getElem?_reverse
def QA:=@List.forIn_nil
def QB:=@PySem.SeqAt.eqAt_reads
def QC:=@PySem.F.called_tuple
def QD:=@Int.mul_add
def QE:=@Int.one_mul
def QF:=@Int.natAbs_of_nonneg
def QG:=@List.take_zero
def SE:=@Array.length_toList
def SF:=@PySem.W.plainGet_of
def SG:=@PySem.Heap.get?_update_other
def SH:=@List.mem_map_of_mem
def SM:=@PySem.wpAny_execs_nil
def U1:=@PySem.W.callWith_K
def U2:=@PySem.F.args_tuple_iterator_next_1
def VB:=@PySem.F.entry_tuple_iterator_next
def VC:=@if_false
def VD:=@Int.natAbs_add_le
def VE:=@List.ext_getElem?
def VF:=@PySem.wpAny_updateSeq_pair
def VG:=@Int.add_zero
def XJ:=@Nat.Coprime.dvd_of_dvd_mul_left
def XL:=@Nat.min_le_right
def XM:=@List.Nodup.length_le_of_subset
def XN:=@Nat.min_eq_right
def Z0:=@PySem.wpAny_holding
def Z1:=@PySem.wpAny_standAt
def Z2:=@PySem.wpAny_onRaise
def Z3:=@Nat.pow_one
def cD:=@List.mem_filter
def cE:=@PySem.call_meets
def cF:=@PySem.wpAny_pyIter_tuple
def cG:=@PySem.wpAny_setField_rec
def cH:=@List.length_zip
def cI:=@Nat.min_eq_left
def fB:=@PySem.wpAny_truthy_bool
def fC:=@PySem.codeAny_mono
def fD:=@PySem.concat_meets
def lM:=@Int.natAbs_ediv_le_natAbs
def lN:=@Option.isSome_iff_exists
def lO:=@List.getElem?_take_of_lt
def lP:=@PySem.noFill_tuple_add
def lQ:=@PyProof.noPylong_of_log2
def lR:=@PySem.F.type_list_append
def lS:=@List.any_cons
def lT:=@List.cons.inj
def qP:=@PySem.sizeLine_eq
def qQ:=@PySem.F.plain_tuple_new
def qR:=@PySem.wpAny_field
def qS:=@PySem.F.args_zip_next_1
def qT:=@List.length_eq_zero_iff
def qU:=@Nat.le_mul_of_pos_right
def sD:=@Nat.ne_of_gt
def sE:=@Nat.le_of_eq
def sF:=@PySem.W.cellsFrom_some
def sG:=@List.map_nil
def sH:=@PySem.pushCells_keeps
def sI:=@Int.fmod_def
def sJ:=@PySem.F.entry_zip_next
def sK:=@Nat.add_zero
def sL:=@Nat.le_mul_of_pos_left
def sM:=@List.drop_of_length_le
def xM:=@PyProof.Rows.assignInOrder_cons
def xN:=@PySem.W.methodCall_KW
def xO:=@List.length_singleton
def xP:=@List.getElem?_zipWith
def xQ:=@Nat.div_lt_iff_lt_mul
def xR:=@PySem.Calls.Name_function_global
def xS:=@Nat.le_succ
def xT:=@Nat.pow_add
def xU:=@Bool.and_eq_true_iff
def xV:=@Int.sub_mul
def xW:=@Nat.mul_one
def xX:=@Nat.mul_pos
def zY:=@PySem.wpAny_letOwnedTupleGo_zip
def zZ:=@List.length_zipWith
def A00:=@Nat.pow_le_pow_left
def A02:=@PySem.seq_tuple_add
def A03:=@Int.sub_eq_add_neg
def A04:=@PySem.wpAny_comprehension_free
def A05:=@not_or
def A06:=@Int.gcd_zero_right
def A07:=@List.pairwise_cons
def A08:=@Nat.one_lt_two_pow
def A25:=@PyProof.Rows.IsTup.new
def A26:=@List.any_eq_false
def A27:=@List.take_sublist
def A28:=@PySem.list_append
def A29:=@List.Pairwise.nil
def A30:=@decide_eq_true_eq
def A31:=@Nat.le_succ_of_le
def A32:=@Nat.lt_succ_of_lt
def A33:=@Nat.mul_left_comm
def A34:=@List.nodup_append
def A35:=@PySem.wpAny_pyNext_range_end
def A36:=@PySem.wpAny_pyIter_rangeiter
def A37:=@PySem.seqIndex_neg
def A38:=@Int.gcd_dvd_left
def A41:=@PySem.wpAny_isTrue_Compare1
def A42:=@PySem.Heap.get?_update_self
def A43:=@PySem.builtinLookup_eq_fast
def A44:=@List.forIn_cons
def A45:=@PySem.seqIndex_of
def A46:=@PySem.F.args_list_append_2
def A47:=@PySem.wpAny_pyIter_revIter
def A48:=@PySem.wpAny_letGo
namespace L2
open PySem PySem.Spec PyProof.Rows
abbrev Key:=Sum Int Str
def rE:Key->Value->Bool
 | .inl k,v=>Value.isInt k v
 | .inr x,v=>Value.isStrOf x v
def A17(w:World):Key->Int
 | .inl k=>hashInt k
 | .inr x=>hashStr w x
theorem FB:∀ {k:Key} {v:Value},rE k v=true->(∃i t,k=Sum.inl i/\v=Value.int i t)\/(∃x t,k=Sum.inr x/\v=Value.str x t)
 | .inl i,v,h=>by
  obtain ⟨t,e⟩:=Value.isInt_shape (k:=i) (v:=v) h
  exact .inl ⟨i,t,rfl,e⟩
 | .inr x,v,h=>by
  obtain ⟨t,e⟩:=Value.isStrOf_shape (x:=x) (v:=v) h;exact .inr ⟨x,t,rfl,e⟩
theorem wC(a b:Int):decide ((Sum.inl a:Key)=Sum.inl b)=(a==b):=by
 by_cases e:a=b
 . subst e;simp
 . have h:¬(Sum.inl a:Key)=Sum.inl b:=fun q=>e (Sum.inl.inj q);rw [CC h];exact (F9.mpr e).symm
theorem vX(a b:Str):decide ((Sum.inr a:Key)=Sum.inr b)=decide (a=b):=by
 by_cases e:a=b
 . subst e;simp
 . have h:¬(Sum.inr a:Key)=Sum.inr b:=fun q=>e (Sum.inr.inj q);rw [CC h,CC e]
theorem uV(a:Int)(b:Str):decide ((Sum.inl a:Key)=Sum.inr b)=false:=CC (fun q=>nomatch q)
theorem uI(a:Str)(b:Int):decide ((Sum.inr a:Key)=Sum.inl b)=false:=CC (fun q=>nomatch q)
def aE(prog:Program)(w:World):PySem.KeyKind prog w Key where
 is:=rE
 hash:=A17 w
 inj:=fun v a b ha hb=>by
  rcases FB ha with ⟨i,t,rfl,rfl⟩ | ⟨x,t,rfl,rfl⟩
  . rcases FB hb with ⟨j,u,rfl,e⟩ | ⟨y,u,rfl,e⟩
    . injection e with e1 _;rw [e1]
    . exact nomatch e
  . rcases FB hb with ⟨j,u,rfl,e⟩ | ⟨y,u,rfl,e⟩
    . exact nomatch e
    . injection e with e1 _;rw [e1]
 byValue:=fun k v h=>by
  rcases FB h with ⟨i,t,rfl,rfl⟩ | ⟨x,t,rfl,rfl⟩ <;> rfl
 pyHash:=fun hv h=>by
  rcases FB hv with ⟨i,t,rfl,rfl⟩ | ⟨x,t,rfl,rfl⟩
  . exact wpAny_pyHash_int h
  . exact wpAny_pyHash_str h
 eqBool:=fun hu hv h=>by
  rcases FB hu with ⟨i,t,rfl,rfl⟩ | ⟨x,t,rfl,rfl⟩
  . rcases FB hv with ⟨j,u,rfl,rfl⟩ | ⟨y,u,rfl,rfl⟩
    . rw [wC] at h;exact wpAny_eqBool_int h
    . rw [uV] at h;exact SeqAt.EqAt.int_str i t y u _ _ _ _ h
  . rcases FB hv with ⟨j,u,rfl,rfl⟩ | ⟨y,u,rfl,rfl⟩
    . rw [uI] at h;exact SeqAt.EqAt.str_int x t j u _ _ _ _ h
    . rw [vX] at h;exact wpAny_eqBool_str h
 «strs» := fun k x t v h => by
  rcases FB h with ⟨i,u,rfl,e⟩ | ⟨y,u,rfl,e⟩
  . exact nomatch e
  . injection e with e1 _
    subst e1
    cases v <;> rfl
end L2
namespace L2
open PySem PySem.Spec PyProof.Rows
inductive V where
 | non | bl (b:Bool) | int (i:Int) | str (x:Str) | byt (b:Array UInt8) | flt (b:UInt64) | ref (a:Addr) | ty (n:String)
 deriving DecidableEq
def RelV:V->Value->Prop
 | .non,u=>u=Value.none
 | .bl b,u=>u=Value.bool b
 | .int i,u=>∃t,u=Value.int i t
 | .str x,u=>∃t,u=Value.str x t
 | .byt b,u=>∃t,u=Value.bytes b t
 | .flt b,u=>∃t,u=Value.float b t
 | .ref a,u=>u=Value.ref a
 | .ty n,u=>u=Value.type n
abbrev Vals:List V->List Value->Prop:=Paired RelV
theorem Vals.length{xs:List V}{us:List Value}(r:Vals xs us):xs.length=us.length:=Paired.length r
theorem Vals.get:∀ {xs:List V} {us:List Value} {i:Nat} {x:V},Vals xs us->xs[i]? = some x->∃u,us[i]? = some u/\RelV x u
 | _,_,_,_, .nil,e=>by simp at e
 | _,_,0,_, .cons r _,e=>by simp at e;subst e;exact ⟨_,rfl,r⟩
 | _,_,i+1,x, .cons _ t,e=>by
  obtain ⟨u,h1,h2⟩:=Vals.get (i:=i) (x:=x) t (by simpa using e);exact ⟨u,by simpa using h1,h2⟩
theorem Vals.set{x:V}{u:Value}(r:RelV x u):∀ {xs:List V} {us:List Value} (i:Nat),Vals xs us->Vals (xs.set i x) (us.set i u)
 | _,_,_, .nil=> .nil
 | _,_,0, .cons _ t=> .cons r t
 | _,_,i+1, .cons q t=> .cons q (Vals.set r i t)
theorem Vals.append:∀ {xs ys:List V} {us ws:List Value},Vals xs us->Vals ys ws->Vals (xs++ys) (us++ws)
 | _,_,_,_, .nil,s=>s
 | _,_,_,_, .cons r t,s=> .cons r (Vals.append t s)
theorem Vals.take:∀ {xs:List V} {us:List Value} (n:Nat),Vals xs us->Vals (xs.take n) (us.take n)
 | _,_,0,_=> .nil
 | _,_,_+1, .nil=> .nil
 | _,_,n+1, .cons r t=> .cons r (Vals.take n t)
theorem Vals.drop:∀ {xs:List V} {us:List Value} (n:Nat),Vals xs us->Vals (xs.drop n) (us.drop n)
 | _,_,0,r=>r
 | _,_,_+1, .nil=> .nil
 | _,_,n+1, .cons _ t=>Vals.drop n t
def RelO:Option V->Option Value->Prop
 | some v,some u=>RelV v u
 | none,none=>True
 | _,_=>False
def KV{κ:Type}:List (κ×V)->List (κ×Value)->Prop:=Paired fun (p:κ×V) (q:κ×Value)=>p.1=q.1/\RelV p.2 q.2
def kV:Key->V
 | .inl i=> .int i
 | .inr x=> .str x
inductive HO where
 | lst (xs:List V)
 | tup (xs:List V)
 | dK (kvs:List (Key×V)) | dT (kvs:List (List Key×V))
 | set (S:Int->Bool) (n:Nat)
 | ins (C dx:Addr) (fs:List (Str×V))
 | own (x:Addr)
 | xd (fs:List (Str×V))
 | met (f x:Addr)
 | rng (lo hi:Int)
 | frz (o:Obj) (u:HO)
 | tbl (ps:Array Value)
 | ext (φ:Heap->Prop)
abbrev Hp:=Addr->Option HO
def upd(H:Hp)(a:Addr)(o:HO):Hp:=fun b=>if b=a then some o else H b
theorem C9{H:Hp}{a:Addr}{o:HO}:upd H a o a=some o:=by unfold upd;rw [if_pos rfl]
theorem BP{H:Hp}{a b:Addr}{o:HO}(h:b≠a):upd H a o b=H b:=by unfold upd;rw [if_neg h]
theorem BT{H:Hp}{a b:Addr}{o:HO}(h:H a=some o)(h':H b=none):a≠b:=by
 intro e;subst e;rw [h] at h';cases h'
section
variable (P:Program) (w:World)
def ObjOk(H:Hp)(h:Heap)(a:Addr):HO->Prop
 | .lst xs=>xs.length<=sizeLine/\∃(its:List Value) (n:Nat),Vals xs its/\h.get? a=some {cls:= .type "list",data:= .seq its.toArray n}
 | .tup xs=>xs.length<=sizeLine/\∃its:List Value,Vals xs its/\IsTup h a its.toArray
 | .dK kvs=>kvs.length<=sizeLine/\(a==sysModules)=false/\∃vs,KV kvs vs/\h.DictOf (aE P w) a vs
 | .dT kvs => kvs.length <= sizeLine /\ (a == sysModules) = false /\ ∃ xs : List (List Key × Addr × Value),
  Paired (fun (p:List Key×V) (q:List Key×Addr×Value)=>p.1=q.1/\H q.2.1=some (.tup (p.1.map kV))/\RelV p.2 q.2.2) kvs xs /\
  ∃o es ep,h.get? a=some o/\o.ExactDict/\o.data = .dict es ep/\es.toList=xs.map (entryOfKey (tupleKind (aE P w)))/\(xs.map (·.1)).Nodup
 | .set S n=>h.SetOf (intKind P w) a S n
 | .ins C dx fs => H dx = some (.own a) /\ fs.length <= 1000 /\ dx ≠ a /\ h.get? a = some (PySem.W.instObj C dx) /\
  ∃mA,h.Ns1 dx mA/\(∀f,RelO (fs.lookup f) (mA f))/\PySem.Within mA (fs.map (·.1))
 | .own _=>∃o,h.get? a=some o
 | .xd fs=>∃mA,h.Ns1 a mA/\∀f,RelO (fs.lookup f) (mA f)
 | .rng lo hi=>∃t u v,h.get? a=some {cls:= .type "range",data:= .fields #[.int lo t, .int hi u, .int 1 v]}
 | .frz o u=>h.get? a=some o/\ObjOk H h a u
 | .tbl _=>∃qs:Array Value,h.get? a=some {cls:= .none,data:= .fields qs}/\TriplesOk qs.toList/\∀pos v,codeAmong pos qs.toList=some v->∃c oc vs x,v=Value.ref c/\H c=some (.frz oc (.own 0))/\oc.data = .fields vs/\vs[1]? = some x
 | .met f x=>h.get? a=some (PySem.W.methodObj (.ref f) (.ref x))
 | .ext φ=>φ h/\(∃o,h.get? a=some o)/\∀h1 h2:Heap,φ h1->(∀o,h1.get? a=some o->h2.get? a=some o)->φ h2
def HOk(H:Hp)(h:Heap):Prop:=∀a o,H a=some o->ObjOk P w H h a o
end
section
variable {P:Program} {w:World} {H H':Hp} {h h':Heap} {a:Addr} {o:HO}
theorem ObjOk.lt(x:ObjOk P w H h a o):a<h.objs.size:=by
 cases o with
 | lst xs=>obtain ⟨_,_,_,_,e⟩:=x;exact AZ e
 | tup xs=>obtain ⟨_,_,_,p⟩:=x;exact p.lt
 | dK kvs=>obtain ⟨_,_,_,_,o,_,_,e,_⟩:=x;exact AZ e
 | dT kvs=>obtain ⟨_,_,_,_,o,_,_,e,_⟩:=x;exact AZ e
 | set S n=>obtain ⟨o,_,_,_,e,_⟩:=x;exact AZ e
 | ins C dx fs=>obtain ⟨_,_,_,e,_⟩:=x;exact AZ e
 | own y=>obtain ⟨_,e⟩:=x;exact AZ e
 | xd fs=>obtain ⟨_,⟨_,_,_,e,_⟩,_⟩:=x;exact AZ e
 | rng lo hi=>obtain ⟨_,_,_,e⟩:=x;exact AZ e
 | frz ob u=>obtain ⟨e,_⟩:=x;exact AZ e
 | tbl ps=>obtain ⟨_,e,_⟩:=x;exact AZ e
 | met f y=>exact AZ (show h.get? a=some _ from x)
 | ext φ=>obtain ⟨_,⟨_,e⟩,_⟩:=x;exact AZ e
theorem Paired.mapP{α β:Type}{F G:α->β->Prop}:∀ {l₁:List α} {l₂:List β},Paired F l₁ l₂->(∀a b,F a b->G a b)->Paired G l₁ l₂
 | _,_, .nil,_=> .nil
 | _,_, .cons r t,f=> .cons (f _ _ r) (Paired.mapP t f)
theorem ObjOk.stay (x : ObjOk P w H h a o) (k : ∀ b u, (b = a \/ H b = some (.own a)) -> h.get? b = some u -> h'.get? b = some u)
 (ho:∀b,H b=some (.own a)->H' b=some (.own a)) (ht:∀b xs,H b=some (.tup xs)->H' b=some (.tup xs)) (hf:∀b o u,H b=some (.frz o u)->H' b=some (.frz o u):=by exact fun _ _ _ q=>q):ObjOk P w H' h' a o:=by
 induction o with
 | lst xs=>obtain ⟨z,its,n,r,e⟩:=x;exact ⟨z,its,n,r,k _ _ (.inl rfl) e⟩
 | tup xs=>obtain ⟨z,its,r,ob,e,c⟩:=x;exact ⟨z,its,r,ob,k _ _ (.inl rfl) e,c⟩
 | dK kvs=>obtain ⟨z,y,vs,r,ob,es,ep,e,c⟩:=x;exact ⟨z,y,vs,r,ob,es,ep,k _ _ (.inl rfl) e,c⟩
 | dT kvs=>
  obtain ⟨z,y,xs,r,ob,es,ep,e,c⟩:=x
  exact ⟨z,y,xs,Paired.mapP r fun p q z=>⟨z.1,ht _ _ z.2.1,z.2.2⟩,ob,es,ep,k _ _ (.inl rfl) e,c⟩
 | set S n=>obtain ⟨ob,es,ep,t,e,c⟩:=x;exact ⟨ob,es,ep,t,k _ _ (.inl rfl) e,c⟩
 | ins C dx fs=>
  obtain ⟨d,z,ne,e,mA,⟨od,es,ep,e2,c⟩,r⟩:=x
  exact ⟨ho _ d,z,ne,k _ _ (.inl rfl) e,mA,⟨od,es,ep,k _ _ (.inr d) e2,c⟩,r⟩
 | own y=>obtain ⟨ob,e⟩:=x;exact ⟨ob,k _ _ (.inl rfl) e⟩
 | xd fs=>obtain ⟨mA,⟨od,es,ep,e,c⟩,r⟩:=x;exact ⟨mA,⟨od,es,ep,k _ _ (.inl rfl) e,c⟩,r⟩
 | rng lo hi=>obtain ⟨t,u,v,e⟩:=x;exact ⟨t,u,v,k _ _ (.inl rfl) e⟩
 | frz ob u ih=>obtain ⟨e,q⟩:=x;exact ⟨k _ _ (.inl rfl) e,ih q⟩
 | tbl ps=>obtain ⟨qs,e,t,c⟩:=x;exact ⟨qs,k _ _ (.inl rfl) e,t,fun pos v q=>let ⟨c',oc,vs,y,e1,e2,e3⟩:=c pos v q;⟨c',oc,vs,y,e1,hf _ _ _ e2,e3⟩⟩
 | met f y=>
  have e:h.get? a=some (PySem.W.methodObj (.ref f) (.ref y)):=x;show h'.get? a=some (PySem.W.methodObj (.ref f) (.ref y))
  exact k a _ (.inl rfl) e
 | ext φ=>obtain ⟨p,⟨o,e⟩,st⟩:=x;exact ⟨st _ _ p fun o q=>k _ _ (.inl rfl) q,⟨o,k _ _ (.inl rfl) e⟩,st⟩
theorem HOk.lt(x:HOk P w H h)(e:H a=some o):a<h.objs.size:=(x a o e).lt
theorem HOk.fresh(x:HOk P w H h)(e:h.objs.size<=a):H a=none:=by
 cases q:H a with
 | none=>rfl
 | some u=>exact absurd (AM (x.lt q) e) (I9 _)
theorem HOk.kept(x:HOk P w H h)(k:∀b u,h.get? b=some u->h'.get? b=some u):HOk P w H h':=fun a o e=>
 (x a o e).stay (fun b u _ q=>k b u q) (fun _ q=>q) fun _ _ q=>q
theorem HOk.laid(x:HOk P w H h)(k:∀b u,h.get? b=some u->h'.get? b=some u)(hp:h.objs.size<=a)(new:ObjOk P w (upd H a o) h' a o):HOk P w (upd H a o) h':=fun b u e=>by
 have hn:=x.fresh hp
 by_cases hb:b=a
 . subst hb;rw [C9] at e;cases e;exact new
 . rw [BP hb] at e
   exact (x b u e).stay (fun c v _ q=>k c v q) (fun c q=>by rw [BP (BT q hn)];exact q) (fun c xs q=>by rw [BP (BT q hn)];exact q) fun c ob xs q=>by rw [BP (BT q hn)];exact q
end
def Rd(H:Hp)(a:Addr)(u:HO):Prop:=H a=some u\/∃o,H a=some (.frz o u)
theorem Rd.ok{P:Program}{w:World}{H:Hp}{h:Heap}{a:Addr}{u:HO}(r:Rd H a u)(x:HOk P w H h):ObjOk P w H h a u:=by
 rcases r with r | ⟨o,r⟩
 . exact x a u r
 . obtain ⟨_,q⟩:=x a _ r;exact q
def Mut:Option HO->Prop
 | some (.lst _)=>True
 | some (.dK _)=>True
 | some (.dT _)=>True
 | some (.set _ _)=>True
 | some (.ins _ _ _)=>True
 | some (.ext _)=>True
 | _=>False
section
variable {P:Program} {w:World} {H:Hp} {h h':Heap} {x e:Addr} {o':HO}
theorem HOk.write (ok : HOk P w H h) (mu : Mut (H x)) (he : e = x \/ H e = some (.own x)) (k : ∀ b u, b ≠ e -> h.get? b = some u -> h'.get? b = some u) (heo : ∃ u, h'.get? e = some u)
 (new:ObjOk P w (upd H x o') h' x o'):HOk P w (upd H x o') h':=fun b u q=>by
 have nown:∀c y,H c=some (.own y)->c≠x:=fun c y r z=>by subst z;rw [r] at mu;exact mu
 have ntup:∀c xs,H c=some (.tup xs)->c≠x:=fun c xs r z=>by subst z;rw [r] at mu;exact mu
 by_cases hb:b=x
 . subst hb;rw [C9] at q;cases q;exact new
 . rw [BP hb] at q
   by_cases hbe:b=e
   . have q' : H b = some (.own x) := by
      rcases he with z | z
      . exact absurd (hbe.trans z) hb
      . rw [hbe];exact z
     rw [q] at q';cases q'
     obtain ⟨v,hv⟩:=heo;exact ⟨v,by rw [hbe];exact hv⟩
   . refine (ok b u q).stay (fun c v hc r=>k c v ?_ r) (fun c r=>by rw [BP (nown c b r)];exact r) (fun c xs r=>by rw [BP (ntup c xs r)];exact r) fun c ob xs r=>by rw [BP (fun z=>by subst z;rw [r] at mu;exact mu)];exact r
     rcases hc with rfl | hc
     . exact hbe
     . rintro rfl;rcases he with z | z
       . exact nown c b hc z
       . rw [hc] at z;cases z;exact hb rfl
end
structure Un (fs ex:List Addr) (H H':Hp) (h h':Heap):Prop where
 keep:∀b o,h.get? b=some o->H b=none->b ∉ fs->b ∉ ex->h'.get? b=some o
 slot:∀b o,h.get? b=some o->H b=none->b ∈ fs->b ∉ ex->∃sl,h'.get? b=some {o with slots:=sl}
 free:∀b o,h.get? b=some o->H b=none->b ∉ ex->H' b=none
 there:∀b o,h.get? b=some o->b ∉ ex->∃o',h'.get? b=some o'
 tups:∀b xs,H b=some (.tup xs)->H' b=some (.tup xs)
 frzs:∀b o u,H b=some (.frz o u)->H' b=some (.frz o u)
 tbls:∀b ps,H b=some (.tbl ps)->∃more,H' b=some (.tbl (ps++more))
section
variable {fs fs' ex ex':List Addr} {H H1 H2:Hp} {h h1 h2 h':Heap} {a x e:Addr} {o:HO}
theorem Un.any(u:Un fs ex H H1 h h1){b:Addr}{ob:Obj}(q:h.get? b=some ob)(n:H b=none)(hx:b ∉ ex):∃sl,h1.get? b=some {ob with slots:=sl}:=by
 by_cases hb:b ∈ fs
 . exact u.slot b ob q n hb hx
 . exact ⟨ob.slots,u.keep b ob q n hb hx⟩
theorem Un.kept(k:∀b u,h.get? b=some u->h'.get? b=some u):Un fs ex H H h h' :=
 ⟨fun b ob q _ _ _=>k b ob q,fun b ob q _ _ _=>⟨ob.slots,k b ob q⟩,fun _ _ _ n _=>n,fun b ob q _=>⟨ob,k b ob q⟩,fun _ _ q=>q,fun _ _ _ q=>q,fun _ ps q=>⟨#[],by rw [q];simp⟩⟩
theorem Un.refl:Un fs ex H H h h:=Un.kept fun _ _ q=>q
theorem Un.laid(k:∀b u,h.get? b=some u->h'.get? b=some u)(hp:h.objs.size<=a)(hn:H a=none):Un fs ex H (upd H a o) h h' where
 keep:=fun b u q _ _ _=>k b u q
 slot:=fun b u q _ _ _=>⟨u.slots,k b u q⟩
 free:=fun b u q n _=>by rw [BP (D4 (AM (AZ q) hp))];exact n
 there:=fun b u q _=>⟨u,k b u q⟩
 tups:=fun b xs q=>by rw [BP (BT q hn)];exact q
 frzs:=fun b u xs q=>by rw [BP (BT q hn)];exact q
 tbls:=fun b ps q=>⟨#[],by rw [BP (BT q hn),q];simp⟩
theorem Un.write(mu:Mut (H x))(he:e=x\/H e=some (.own x))(k:∀b u,b≠e->h.get? b=some u->h'.get? b=some u)(heo:∃u,h'.get? e=some u):Un fs ex H (upd H x o) h h':=by
 have hx:∀b,H b=none->b≠x:=fun b n z=>by subst z;rw [n] at mu;exact mu
 have hb:∀b,H b=none->b≠e:=fun b n z=>by
  subst z;rcases he with r | r
  . exact hx b n r
  . rw [n] at r;cases r
 have hm:∀b u,H b=some u->¬Mut (some u)->b≠x:=fun b u q nm z=>by subst z;rw [q] at mu;exact nm mu
 refine ⟨fun b u q n _ _=>k b u (hb b n) q,fun b u q n _ _=>⟨u.slots,k b u (hb b n) q⟩,fun b u q n _=>by rw [BP (hx b n)];exact n,fun b u q _=> ?_,
  fun b xs q=>by rw [BP (hm b _ q fun z=>z)];exact q,fun b u xs q=>by rw [BP (hm b _ q fun z=>z)];exact q,fun b ps q=>⟨#[],by rw [BP (hm b _ q fun z=>z),q];simp⟩⟩
 by_cases hbe:b=e
 . subst hbe;exact heo
 . exact ⟨u,k b u hbe q⟩
end
def trk(h:Heap)(H:Hp):List Addr:=(List.range h.objs.size).filter fun a=>(H a).isSome
def S8(h:Heap)(H:Hp):Heap:=PySem.W.hideAll h (trk h H)
theorem cK(h:Heap)(H:Hp):(S8 h H).objs.size=h.objs.size:=PySem.W.hideAll_size _ _
theorem lD{h:Heap}{H:Hp}{b:Addr}{o:Obj}(e:h.get? b=some o)(n:H b=none):(S8 h H).get? b=some o:=
 PySem.W.hideAll_get _ e fun hm=>by
  have q:(H b).isSome=true:=(cD.mp hm).2;rw [n] at q;simp at q
theorem pK{h:Heap}{H:Hp}{b:Addr}{o:Obj}(e:(S8 h H).get? b=some o):h.get? b=some o/\H b=none:=by
 have e':h.get? b=some o:=PySem.W.of_hideAll (trk h H) e;refine ⟨e',?_⟩
 cases q:H b with
 | none=>rfl
 | some x=>
  have hm:b ∈ trk h H:=cD.mpr ⟨C5.mpr (AZ e'),by simp [q]⟩;have z:(S8 h H).get? b=none:=PySem.W.hideAll_none (trk h H) hm;rw [z] at e;cases e
def oT(g h:Heap)(L:Addr):List (Addr×Obj):=(List.range h.objs.size).filterMap fun a=>if a=L\/(g.get? a).isSome=true then none else (h.get? a).map fun o=>(a,o)
def IV(g h:Heap)(L d:Addr):List (Addr×Obj):=(oT g h L).filter fun p=>decide (p.1≠d)
end L2
namespace L2
open PySem PySem.Spec PyProof.Rows
def RH(K:PySem.W.Frag):List Addr:=match K.getLast? with
 | some (_,⟨.type "tables",_, .fields vs,_⟩)=>vs.toList.filterMap fun v=>match v with
  | .ref a=>some a
  | _=>none
 | _=> []
structure Mod (K:PySem.W.Frag) (mg:Str->Option Value) (base:Heap):Prop where
 kin:K.In base
 glob:base.Ns mainGlobals mg
 blt:∃mb,base.Ns builtinsNs mb/\∀x:Str,x ≠ "__name__" -> mb x=bootBuiltins x
 nolimit:base.NoLimit
structure Cx where
 prog:Program
 w:World
 K:PySem.W.Frag
 mg:Str->Option Value
 base:Heap
 A:Around
 N:List Str
 s₀:Shared
 H₀:Hp
 env:Env
 outer:List Env
 stack:List Env
 ex:List Addr
 fn:Str->Bool
 calm:Bool
 pn:List (Addr×Obj)
 xe:Value->Shared->Prop
def frs(l:List Env):List Addr:=l.filterMap (·.frame)
abbrev Cx.fs (X:Cx):List Addr:=frs X.outer
def Vis(sc:Scope)(x:Str):Prop:=sc.names.lookup x=some .local\/sc.names.lookup x=some .cell\/sc.names.lookup x=some .free
def Loc(sc:Scope)(x:Str):Prop:=sc.names.lookup x=some .local\/sc.names.lookup x=some .cell
def A09(env:Env)(h:Heap)(m:Str->Option Value)(x:Str)(u:Value):Prop:=
 (env.kindOf x=some .local/\m x=some u)\/((env.kindOf x=some .cell\/env.kindOf x=some .free)/\∃c,env.cells.lookup x=some c/\h.IsCell c (some u))
structure Cx.Ok (X:Cx):Prop where
 mod:Mod X.K X.mg X.base
 kind:X.env.scope.kind = .function
 glob:X.env.globals=mainGlobals
 blt:X.env.builtins=builtinsNs
 above:X.s₀.heap.objs.size<=X.env.locals
 inj:∀x y c,X.env.cells.lookup x=some c->X.env.cells.lookup y=some c->x=y
 has:∀x,(X.env.kindOf x=some .cell\/X.env.kindOf x=some .free)->∃c,X.env.cells.lookup x=some c
 cab:∀x c,X.fn x=true->X.env.cells.lookup x=some c->X.s₀.heap.objs.size<=c
 hd:X.calm=true->X.A.handled=none
 frames:X.A.frames=some X.stack
 stk:X.stack=X.outer\/(X.stack=X.env::X.outer/\X.env.frame=some X.env.locals)
 exf:∀b ∈ X.ex,b≠X.env.locals/\∀x c,X.env.cells.lookup x=some c->c≠b
 bs:∀b o,X.base.get? b=some o->X.s₀.heap.get? b=some o/\X.H₀ b=none
 bsz:X.base.objs.size<=X.s₀.heap.objs.size
 noex:∀b o,X.base.get? b=some o->b ∉ X.ex
 exfs:∀b ∈ X.ex,b ∉ X.fs
 funs:X.s₀.heap.FunFrames X.base X.outer
 frf:∀b ∈ X.fs,X.H₀ b=none
 tb:∀p ∈ RH X.K,∃ps,X.H₀ p=some (.tbl ps)
structure Inv (X:Cx) (pins:List (Addr×Obj)) (σ:List (Option V)) (H:Hp) (s:Shared):Prop where
 ok:X.Ok
 os:s.os=X.s₀.os
 bare:AllBare s.gens
 base:Un X.fs X.ex X.H₀ H X.s₀.heap s.heap
 loc:∃m,s.heap.Ns X.env.locals m/\∀(i:Nat) (x:Str) (v:V),X.N[i]? = some x->σ[i]? = some (some v)->Vis X.env.scope x->∃u,RelV v u/\A09 X.env s.heap m x u
 cell:∀x c,X.env.cells.lookup x=some c->∃v,s.heap.IsCell c v
 free:H X.env.locals=none
 freeC:∀x c,X.env.cells.lookup x=some c->H c=none
 pin:∀p ∈ X.pn++pins,s.heap.get? p.1=some p.2/\H p.1=none/\p.1≠X.env.locals/\p.1 ∉ X.fs/\∀v,p.2.data ≠ .cell v
 hok:HOk X.prog X.w H s.heap
 len:σ.length=X.N.length
section
variable {X:Cx} {pins:List (Addr×Obj)} {σ:List (Option V)} {H H':Hp} {s:Shared} {h':Heap}
theorem Cx.Ok.nofr(ok:X.Ok){b:Addr}{o:Obj}(e:X.base.get? b=some o):b ∉ X.fs:=fun hb=>by
 have:=(ok.funs.mem hb).1;rw [e] at this;cases this
theorem Inv.bs(I:Inv X pins σ H s):∀b o,X.base.get? b=some o->s.heap.get? b=some o/\H b=none:=fun b o e=>
 ⟨I.base.keep b o (I.ok.bs b o e).1 (I.ok.bs b o e).2 (I.ok.nofr e) (I.ok.noex b o e),I.base.free b o (I.ok.bs b o e).1 (I.ok.bs b o e).2 (I.ok.noex b o e)⟩
theorem Inv.bk(I:Inv X pins σ H s):∀b o,X.base.get? b=some o->s.heap.get? b=some o:=fun b o e=>(I.bs b o e).1
theorem Inv.tb(I:Inv X pins σ H s):∀p ∈ RH X.K,∃ps,H p=some (.tbl ps):=fun p hp=>by
 obtain ⟨ps,e⟩:=I.ok.tb p hp;obtain ⟨m,e2⟩:=I.base.tbls p ps e;exact ⟨_,e2⟩
theorem Inv.mod(I:Inv X pins σ H s):Mod X.K X.mg X.base:=I.ok.mod
theorem Inv.kIn(I:Inv X pins σ H s):X.K.In s.heap:=I.ok.mod.kin.keeps I.bk
theorem Inv.fr(I:Inv X pins σ H s):∃m,Fr X.base X.env.locals s.heap m:=
 let ⟨m,hn,_⟩:=I.loc
 ⟨m,hn,I.bk,BG I.ok.bsz I.ok.above⟩
theorem Inv.lt(I:Inv X pins σ H s):X.env.locals<s.heap.objs.size:=let ⟨_,hn,_⟩:=I.loc;hn.lt
theorem Inv.sz(I:Inv X pins σ H s):X.s₀.heap.objs.size<=s.heap.objs.size:=BG I.ok.above (HP I.lt)
theorem Inv.nofs(I:Inv X pins σ H s){a:Addr}(h:s.heap.objs.size<=a):a ∉ X.fs:=fun hb=>by
 obtain ⟨_,o,ho,_⟩:=I.ok.funs.mem hb;exact absurd (AM (AZ ho) (BG I.sz h)) (I9 _)
theorem Inv.cne(I:Inv X pins σ H s):∀x c,X.env.cells.lookup x=some c->c≠X.env.locals:=fun x c e z=>by
 obtain ⟨v,o,ho,hd⟩:=I.cell x c e;obtain ⟨m,⟨o',es,ep,ho',hd',_⟩,_⟩:=I.loc;rw [z,ho'] at ho;cases ho;rw [hd'] at hd;cases hd
theorem Inv.funs(I:Inv X pins σ H s):s.heap.FunFrames X.base X.outer:=by
 have all:∀(l:List Env),(∀b ∈ frs l,b ∈ X.fs)->X.s₀.heap.FunFrames X.base l->s.heap.FunFrames X.base l:=by
  intro l
  induction l with
  | nil=>intro _ _;trivial
  | cons env r ih=>
   intro hs hl;obtain ⟨hk,⟨L,o,hf,hn,ho,hd⟩,hr⟩:=hl;have hL:L ∈ X.fs:=hs L (by unfold frs;rw [List.filterMap_cons,hf];exact List.mem_cons_self);obtain ⟨sl,e⟩:=I.base.slot L o ho (I.ok.frf L hL) hL fun z=>I.ok.exfs L z hL;exact ⟨hk,⟨L,_,hf,hn,e,hd⟩,ih (fun b hb=>hs b (by unfold frs;rw [List.filterMap_cons,hf];exact List.mem_cons_of_mem _ hb)) hr⟩
 exact all X.outer (fun _ hb=>hb) I.ok.funs
theorem Inv.stack(I:Inv X pins σ H s):s.heap.FunFrames X.base X.stack:=by
 rcases I.ok.stk with e | ⟨e,hf⟩
 . rw [e];exact I.funs
 . rw [e];obtain ⟨m,hn,_⟩:=I.loc;refine .cons (by rw [I.ok.kind];decide) hf hn ?_ I.funs;exact Heap.get?_none_of_le (BG I.ok.bsz I.ok.above)
theorem Inv.stkSub(I:Inv X pins σ H s):∀b ∈ frs X.stack,b ∈ X.env.locals::X.fs:=fun b hb=>by
 rcases I.ok.stk with e | ⟨e,hf⟩
 . rw [e] at hb;exact BV _ hb
 . rw [e] at hb
   unfold frs at hb
   rw [List.filterMap_cons,hf] at hb
   exact hb
theorem Inv.stkFree(I:Inv X pins σ H s):∀b ∈ frs X.stack,H b=none:=fun b hb=>by
 rcases B8.mp (I.stkSub b hb) with e | hb
 . rw [e];exact I.free
 . obtain ⟨_,o,ho,_⟩:=I.ok.funs.mem hb;exact I.base.free b o ho (I.ok.frf b hb) fun z=>I.ok.exfs b z hb
theorem Inv.step {g' : Array GenState} {t' : Nat} {d' : Drawn} {ch : List Addr} (I : Inv X pins σ H s)
 (hch:∀b ∈ ch,(b ∈ X.ex\/X.s₀.heap.objs.size<=b)/\b≠X.env.locals/\(∀x c,X.env.cells.lookup x=some c->c≠b)/\∀p ∈ X.pn++pins,p.1≠b)
 (keep:∀b o,b≠X.env.locals->b ∉ X.fs->b ∉ ch->s.heap.get? b=some o->H b=none->h'.get? b=some o)
 (slot:∀b o,b≠X.env.locals->b ∈ X.fs->b ∉ ch->s.heap.get? b=some o->H b=none->∃sl,h'.get? b=some {o with slots:=sl}) (free:∀b o,b ∉ ch->s.heap.get? b=some o->H b=none->H' b=none)
 (there:∀b o,b ∉ ch->s.heap.get? b=some o->∃o',h'.get? b=some o')
 (tups:∀b xs,H b=some (.tup xs)->H' b=some (.tup xs)) (frzs:∀b o u,H b=some (.frz o u)->H' b=some (.frz o u)) (tbls:∀b ps,H b=some (.tbl ps)->∃more,H' b=some (.tbl (ps++more)))
 (ns:∀m,s.heap.Ns X.env.locals m->h'.Ns X.env.locals m) (hok:HOk X.prog X.w H' h') (hg:AllBare g') :
 Inv X pins σ H' {s with heap:=h',gens:=g',drawn:=d',toks:=t' }:=by
 have neL:∀b o,X.s₀.heap.get? b=some o->b≠X.env.locals:=fun b o e=>D4 (AM (AZ e) I.ok.above)
 have neC:∀b o,X.s₀.heap.get? b=some o->b ∉ X.ex->b ∉ ch:=fun b o e hx hb=>by
  rcases (hch b hb).1 with z | z
  . exact hx z
  . exact absurd (AM (AZ e) z) (I9 _)
 have cellK:∀x c,X.env.cells.lookup x=some c->∀v,s.heap.IsCell c v->h'.IsCell c v:=fun x c e v ⟨o,ho,hd⟩=>by
  have nch:c ∉ ch:=fun z=>(hch c z).2.2.1 x c e rfl
  by_cases hc:c ∈ X.fs
  . obtain ⟨sl,q⟩:=slot c o (I.cne x c e) hc nch ho (I.freeC x c e);exact ⟨_,q,hd⟩
  . exact ⟨o,keep c o (I.cne x c e) hc nch ho (I.freeC x c e),hd⟩
 refine ⟨I.ok,I.os,hg,⟨fun b o e n hb hx=> ?_,fun b o e n hb hx=> ?_,fun b o e n hx=> ?_,fun b o e hx=> ?_,fun b xs e=>tups b xs (I.base.tups b xs e),fun b o xs e=>frzs b o xs (I.base.frzs b o xs e),fun b ps e=> ?_⟩,?_,fun x c e=> ?_,?_,fun x c e=> ?_,fun p hp=> ?_,hok,I.len⟩
 . exact keep b o (neL b o e) hb (neC b o e hx) (I.base.keep b o e n hb hx) (I.base.free b o e n hx)
 . obtain ⟨sl,e1⟩:=I.base.slot b o e n hb hx;obtain ⟨sl',e2⟩:=slot b _ (neL b o e) hb (neC b o e hx) e1 (I.base.free b o e n hx);exact ⟨sl',e2⟩
 . obtain ⟨o',e1⟩:=I.base.there b o e hx;exact free b o' (neC b o e hx) e1 (I.base.free b o e n hx)
 . obtain ⟨o',e1⟩:=I.base.there b o e hx;exact there b o' (neC b o e hx) e1
 . obtain ⟨m1,e1⟩:=I.base.tbls b ps e;obtain ⟨m2,e2⟩:=tbls b _ e1;exact ⟨m1++m2,by rw [e2,Array.append_assoc]⟩
 . obtain ⟨m,hn,hl⟩:=I.loc;refine ⟨m,ns m hn,fun i x v e1 e2 e3=> ?_⟩;obtain ⟨u,r,l⟩:=hl i x v e1 e2 e3;refine ⟨u,r,?_⟩;rcases l with l | ⟨k,c,e,z⟩
   . exact .inl l
   . exact .inr ⟨k,c,e,cellK x c e _ z⟩
 . obtain ⟨v,z⟩:=I.cell x c e;exact ⟨v,cellK x c e v z⟩
 . obtain ⟨m,⟨o,_,_,ho,_⟩,_⟩:=I.loc;exact free _ o (fun z=>(hch _ z).2.1 rfl) ho I.free
 . obtain ⟨v,o,ho,hd⟩:=I.cell x c e;exact free c o (fun z=>(hch c z).2.2.1 x c e rfl) ho (I.freeC x c e)
 . obtain ⟨e,n,ne,nf,d⟩:=I.pin p hp;have nch:p.1 ∉ ch:=fun z=>(hch p.1 z).2.2.2 p hp rfl;exact ⟨keep p.1 p.2 ne nf nch e n,free p.1 p.2 nch e n,ne,nf,d⟩
theorem Inv.un{t':Nat}(I:Inv X pins σ H s)(u:Un X.fs [] H H' s.heap h')(hok:HOk X.prog X.w H' h'):Inv X pins σ H' {s with heap:=h',toks:=t' }:=by
 obtain ⟨m,⟨o,es,ep,ho,r⟩,_⟩:=id I.loc;obtain ⟨sl,hL⟩:=u.any ho I.free (by simp)
 exact I.step (g':=s.gens) (d':=s.drawn) (ch:= []) (fun _ z=>nomatch z) (fun b o _ hb _ e n=>u.keep b o e n hb (by simp)) (fun b o _ hb _ e n=>u.slot b o e n hb (by simp)) (fun b o _ e n=>u.free b o e n (by simp)) (fun b o _ e=>u.there b o e (by simp)) u.tups u.frzs u.tbls (fun m' hm=>by
  obtain ⟨o',es',ep',ho',r'⟩:=hm;rw [ho] at ho';cases ho'
  exact ⟨_,es',ep',hL,r'⟩) hok I.bare
theorem Inv.call {g' : Array GenState} {t' : Nat} {d' : Drawn} {ch : List Addr} (I : Inv X pins σ H s) (u : Un (frs X.stack) ch H H' s.heap h') (hok : HOk X.prog X.w H' h') (hg : AllBare g')
 (hch:∀b ∈ ch,(b ∈ X.ex\/X.s₀.heap.objs.size<=b)/\b≠X.env.locals/\(∀x c,X.env.cells.lookup x=some c->c≠b)/\∀p ∈ X.pn++pins,p.1≠b) :
 Inv X pins σ H' {s with heap:=h',gens:=g',drawn:=d',toks:=t' }:=by
 obtain ⟨m,⟨o,es,ep,ho,r⟩,_⟩:=id I.loc;obtain ⟨sl,hL⟩:=u.any ho I.free fun z=>(hch _ z).2.1 rfl
 exact I.step (ch:=ch) hch (fun b o hL hb hc e n=>u.keep b o e n (fun z=>(B8.mp (I.stkSub b z)).elim hL hb) hc) (fun b o _ _ hc e n=>u.any e n hc) (fun b o hc e n=>u.free b o e n hc) (fun b o hc e=>u.there b o e hc) u.tups u.frzs u.tbls (fun m' hm=>by
  obtain ⟨o',es',ep',ho',r'⟩:=hm;rw [ho] at ho';cases ho'
  exact ⟨_,es',ep',hL,r'⟩) hok hg
theorem Inv.turned {t' : Nat} {it : Addr} (I : Inv X pins σ H s) (k : ∀ b o, b ≠ it -> s.heap.get? b = some o -> h'.get? b = some o) (hn : H it = none) (hL : it ≠ X.env.locals)
 (h1:it ∈ X.ex\/X.s₀.heap.objs.size<=it) (h2:∀x c,X.env.cells.lookup x=some c->c≠it) (h3:∀p ∈ X.pn++pins,p.1≠it):Inv X pins σ H {s with heap:=h',toks:=t' }:=by
 have nit:∀b u,H b=some u->b≠it:=fun b u e z=>by rw [z,hn] at e;cases e
 refine I.step (g':=s.gens) (d':=s.drawn) (ch:= [it]) (fun b hb=> ?_) (fun b o _ _ hc e _=>k b o (fun z=>hc (by simp [z])) e) (fun b o _ _ hc e _=>⟨o.slots,k b o (fun z=>hc (by simp [z])) e⟩) (fun _ _ _ _ n=>n)
  (fun b o hc e=>⟨o,k b o (fun z=>hc (by simp [z])) e⟩) (fun _ _ e=>e) (fun _ _ _ e=>e) (fun b ps e=>⟨#[],by rw [e];simp⟩) (fun m hm=> ?_) (fun b u e=> ?_) I.bare
 . have e:b=it:=by simpa using hb
   subst e;exact ⟨h1,hL,h2,h3⟩
 . obtain ⟨o,es,ep,ho,r⟩:=hm;exact ⟨o,es,ep,k _ o (HQ hL) ho,r⟩
 . refine (I.hok b u e).stay (fun c v hc q=>k c v ?_ q) (fun _ q=>q) fun _ _ q=>q;rcases hc with z | z
   . rw [z];exact nit b u e
   . exact nit c _ z
theorem Inv.tok(I:Inv X pins σ H s)(t:Nat):Inv X pins σ H {s with toks:=t}:=I.un (h':=s.heap) (t':=t) Un.refl I.hok
theorem Inv.kept{t':Nat}(I:Inv X pins σ H s)(k:∀b u,s.heap.get? b=some u->h'.get? b=some u):Inv X pins σ H {s with heap:=h',toks:=t' }:=I.un (Un.kept k) (I.hok.kept k)
theorem Inv.laid {a : Addr} {o : HO} {t' : Nat} (I : Inv X pins σ H s) (k : ∀ b u, s.heap.get? b = some u -> h'.get? b = some u) (hp : s.heap.objs.size <= a) (new : ObjOk X.prog X.w (upd H a o) h' a o) :
 Inv X pins σ (upd H a o) {s with heap:=h',toks:=t' }:=I.un (Un.laid k hp (I.hok.fresh hp)) (I.hok.laid k hp new)
theorem Inv.write {x e : Addr} {o : HO} {t' : Nat} (I : Inv X pins σ H s) (mu : Mut (H x)) (he : e = x \/ H e = some (.own x)) (k : ∀ b u, b ≠ e -> s.heap.get? b = some u -> h'.get? b = some u) (heo : ∃ u, h'.get? e = some u)
 (new:ObjOk X.prog X.w (upd H x o) h' x o):Inv X pins σ (upd H x o) {s with heap:=h',toks:=t' }:=I.un (Un.write mu he k heo) (I.hok.write mu he k heo new)
theorem Inv.weak{σ':List (Option V)}(I:Inv X pins σ H s)(hl:σ'.length=σ.length)(w:∀(i:Nat) v,σ'[i]? = some (some v)->σ[i]? = some (some v)):Inv X pins σ' H s:=
 ⟨I.ok,I.os,I.bare,I.base,let ⟨m,hn,hl'⟩:=I.loc;⟨m,hn,fun i x v e1 e2 e3=>hl' i x v e1 (w i v e2) e3⟩,I.cell,I.free,I.freeC,I.pin,I.hok,hl.trans I.len⟩
theorem Inv.pins_of{pins':List (Addr×Obj)}(I:Inv X pins σ H s)(h:∀p ∈ pins',s.heap.get? p.1=some p.2/\H p.1=none/\p.1≠X.env.locals/\p.1 ∉ X.fs/\∀v,p.2.data ≠ .cell v):Inv X pins' σ H s:=
 ⟨I.ok,I.os,I.bare,I.base,I.loc,I.cell,I.free,I.freeC,fun p hp=>(DU.mp hp).elim (fun z=>I.pin p (JQ _ z)) (h p),I.hok,I.len⟩
theorem R6{N:List Str}(hN:N.Nodup){i j:Nat}{x:Str}(a:N[i]? = some x)(b:N[j]? = some x):i=j:=by
 obtain ⟨h1,e1⟩:=B6.mp a;obtain ⟨h2,e2⟩:=B6.mp b;exact (List.getElem_inj hN).mp (e1.trans e2.symm)
theorem TF {M : Model} {A : Around} {E : Value -> Shared -> Prop} {i : Nat} {x : Str} {v : V} {u : Value} {Q : Unit -> Shared -> Prop} (I : Inv X pins σ H s) (hN : X.N.Nodup) (hi : X.N[i]? = some x) (hx : Loc X.env.scope x) (r : RelV v u)
 (h:∀s',Inv X pins (σ.set i (some v)) H s'->(∃a,Heap.SameBut a s.heap s'.heap/\(a=X.env.locals\/X.env.cells.lookup x=some a))->Q () s') (hf:X.fn x=true\/X.env.scope.names.lookup x=some .local:=by first | exact .inl rfl | exact .inr rfl | assumption):wpAny M A (storeName X.env x u) Q E s:=by
 obtain ⟨m,hn,hl⟩:=id I.loc;have hcls:(X.env.scope.kind == .class || (X.env.scope.kind == .module && X.env.locals != X.env.globals))=false:=by rw [I.ok.kind];rfl
 have hiσ:i<σ.length:=by rw [I.len];exact (B6.mp hi).1
 have cne:=I.cne
 have tracked:∀ {a:Addr} {h':Heap},(∃o,s.heap.get? a=some o/\H a=none)->Heap.SameBut a s.heap h'->HOk X.prog X.w H h':=fun {a h'} ha hs b ob e=>by
  obtain ⟨_,_,hfree⟩:=ha;refine (I.hok b ob e).stay (fun c w' hc q=>(hs.2 c ?_).trans q) (fun _ q=>q) fun _ _ q=>q;rintro rfl;rcases hc with rfl | hc
  . rw [hfree] at e;cases e
  . rw [hfree] at hc;cases hc
 rcases hx with hk | hk
 . refine wpAny_storeName_local hk hn (fun h' hn' hs=> ?_) hcls;obtain ⟨oL,_,_,hoL,_⟩:=id hn;refine h _ ⟨I.ok,I.os,I.bare,⟨fun b o e n hb hx=> ?_,fun b o e n hb hx=> ?_,I.base.free,fun b o e hx=> ?_,I.base.tups,I.base.frzs,I.base.tbls⟩,⟨_,hn',fun j y v' e1 e2 e3=> ?_⟩,fun y c e=> ?_,I.free,I.freeC,fun p hp=> ?_,tracked ⟨oL,hoL,I.free⟩ hs,by simpa using I.len⟩ ⟨_,hs, .inl rfl⟩
   . exact (hs.2 b (D4 (AM (AZ e) I.ok.above))).trans (I.base.keep b o e n hb hx)
   . obtain ⟨sl,e1⟩:=I.base.slot b o e n hb hx;exact ⟨sl,(hs.2 b (D4 (AM (AZ e) I.ok.above))).trans e1⟩
   . obtain ⟨o',e1⟩:=I.base.there b o e hx;exact ⟨o',(hs.2 b (D4 (AM (AZ e) I.ok.above))).trans e1⟩
   . by_cases hj:j=i
     . subst hj;rw [hi] at e1;cases e1
       rw [IQ hiσ] at e2
       cases e2
       exact ⟨u,r, .inl ⟨hk,by simp⟩⟩
     . rw [AI (HQ hj)] at e2
       obtain ⟨u',r',q⟩:=hl j y v' e1 e2 e3;refine ⟨u',r',?_⟩;rcases q with ⟨k,e⟩ | ⟨k,c,e,z⟩
       . refine .inl ⟨k,?_⟩;have:y≠x:=fun e=>hj (R6 hN e1 (e ▸ hi));simp [this,e]
       . exact .inr ⟨k,c,e,z.sameBut hs (cne y c e)⟩
   . obtain ⟨w',z⟩:=I.cell y c e;exact ⟨w',z.sameBut hs (cne y c e)⟩
   . obtain ⟨e,n,ne,nf,d⟩:=I.pin p hp;exact ⟨(hs.2 p.1 ne).trans e,n,ne,nf,d⟩
 . have hfn : X.fn x = true := by
    rcases hf with z | z
    . exact z
    . rw [z] at hk;cases hk
   obtain ⟨c,hc⟩:=I.ok.has x (.inl hk);obtain ⟨w',z⟩:=I.cell x c hc;refine wpAny_storeName_cell I.ok.kind hk hc z (fun h' hc' hs=> ?_);obtain ⟨oc,hoc,hocd⟩:=id z;refine h {s with heap:=h' } ⟨I.ok,I.os,I.bare,⟨fun b o e n hb hx=> ?_,fun b o e n hb hx=> ?_,I.base.free,fun b o e hx=> ?_,I.base.tups,I.base.frzs,I.base.tbls⟩,⟨m,hn.sameBut hs (HQ (cne x c hc)),fun j y v' e1 e2 e3=> ?_⟩,fun y c' e=> ?_,I.free,I.freeC,fun p hp=> ?_,tracked ⟨oc,hoc,I.freeC x c hc⟩ hs,by simpa using I.len⟩ ⟨c,hs, .inr hc⟩
   . exact (hs.2 b (D4 (AM (AZ e) (I.ok.cab x c hfn hc)))).trans (I.base.keep b o e n hb hx)
   . obtain ⟨sl,e1⟩:=I.base.slot b o e n hb hx;exact ⟨sl,(hs.2 b (D4 (AM (AZ e) (I.ok.cab x c hfn hc)))).trans e1⟩
   . obtain ⟨o',e1⟩:=I.base.there b o e hx;exact ⟨o',(hs.2 b (D4 (AM (AZ e) (I.ok.cab x c hfn hc)))).trans e1⟩
   . by_cases hj:j=i
     . subst hj;rw [hi] at e1;cases e1
       rw [IQ hiσ] at e2
       cases e2
       exact ⟨u,r, .inr ⟨.inl hk,c,hc,hc'⟩⟩
     . rw [AI (HQ hj)] at e2
       obtain ⟨u',r',q⟩:=hl j y v' e1 e2 e3;refine ⟨u',r',?_⟩;rcases q with q | ⟨k,c',e,z'⟩
       . exact .inl q
       . refine .inr ⟨k,c',e,z'.sameBut hs ?_⟩;rintro rfl;exact hj (R6 hN e1 (I.ok.inj _ _ _ e hc ▸ hi))
   . by_cases hcc:c'=c
     . subst hcc;exact ⟨_,hc'⟩
     . obtain ⟨w2,z2⟩:=I.cell y c' e;exact ⟨w2,z2.sameBut hs hcc⟩
   . obtain ⟨e,n,ne,nf,d⟩:=I.pin p hp;refine ⟨(hs.2 p.1 ?_).trans e,n,ne,nf,d⟩;intro q;rw [q,hoc] at e
     have q':oc=p.2:=AY e;exact d w' (by rw [<-q'];exact hocd)
theorem NV {M : Model} {A : Around} {E : Value -> Shared -> Prop} {i : Nat} {x : Str} {v : V} {u : Value} {Q : Unit -> Shared -> Prop} (I : Inv X pins σ H s) (hN : X.N.Nodup) (hi : X.N[i]? = some x) (hx : Loc X.env.scope x) (r : RelV v u)
 (h:∀s',Inv X pins (σ.set i (some v)) H s'->Q () s') (hf:X.fn x=true\/X.env.scope.names.lookup x=some .local:=by first | exact .inl rfl | exact .inr rfl | assumption):wpAny M A (storeName X.env x u) Q E s:=
 TF I hN hi hx r (fun s' I' _=>h s' I') hf
theorem Inv.call' {s' : Shared} {ch : List Addr} (I : Inv X pins σ H s) (ho : s'.os = s.os) (u : Un (frs X.stack) ch H H' s.heap s'.heap) (hok : HOk X.prog X.w H' s'.heap) (hg : AllBare s'.gens)
 (hch:∀b ∈ ch,(b ∈ X.ex\/X.s₀.heap.objs.size<=b)/\b≠X.env.locals/\(∀x c,X.env.cells.lookup x=some c->c≠b)/\∀p ∈ X.pn++pins,p.1≠b):Inv X pins σ H' s':=by
 obtain ⟨h',g',d',t',o'⟩:=s';have e:o'=s.os:=ho;subst e;exact I.call (g':=g') (t':=t') (d':=d') u hok hg hch
end
abbrev XK:=Value->Option Addr->Hp->Prop
abbrev St:=List (Option V)
abbrev VK:=V->Hp->Prop
abbrev TE:=St->Hp->VK->Prop
abbrev TT:=St->Hp->(Bool->Hp->Prop)->Prop
abbrev TA:=St->Hp->(List V->Hp->Prop)->Prop
structure Ends where
 nx:St->Hp->Prop
 rt:VK
 bk:St->Hp->Prop:=fun _ _=>False
 ct:St->Hp->Prop:=fun _ _=>False
abbrev TS:=Ends->St->Hp->Prop
def EP(X:Cx)(pins:List (Addr×Obj))(σ:St)(Q:VK)(u:Value)(s':Shared):Prop:=∃v H',Inv X pins σ H' s'/\RelV v u/\Q v H'
def TP(X:Cx)(pins:List (Addr×Obj))(σ:St)(Q:Bool->Hp->Prop)(b:Bool)(s':Shared):Prop:=∃H',Inv X pins σ H' s'/\Q b H'
def AP(X:Cx)(pins:List (Addr×Obj))(σ:St)(Q:List V->Hp->Prop)(us:List Value)(s':Shared):Prop:=∃vs H',Inv X pins σ H' s'/\Vals vs us/\Q vs H'
def SP(X:Cx)(pins:List (Addr×Obj))(D:Ends)(f:Flow)(s':Shared):Prop:=
 match f with
 | .next=>∃σ' H',Inv X pins σ' H' s'/\D.nx σ' H'
 | .brk=>∃σ' H',Inv X pins σ' H' s'/\D.bk σ' H'
 | .cont=>∃σ' H',Inv X pins σ' H' s'/\D.ct σ' H'
 | .ret u=>∃v σ' H',Inv X pins σ' H' s'/\RelV v u/\D.rt v H'
def PE(X:Cx)(e:Expr)(t:TE):Prop:=
 ∀(pins:List (Addr×Obj)) (s:Shared) (σ:St) (H:Hp) (Q:VK),Inv X pins σ H s->t σ H Q->wpAny (model X.prog X.w) X.A (eval e X.env) (EP X pins σ Q) X.xe s
def PT(X:Cx)(e:Expr)(t:TT):Prop:=
 ∀(pins:List (Addr×Obj)) (s:Shared) (σ:St) (H:Hp) (Q:Bool->Hp->Prop),Inv X pins σ H s->t σ H Q->wpAny (model X.prog X.w) X.A (isTrue e X.env (eval e X.env)) (TP X pins σ Q) X.xe s
def PW(X:Cx)(e:Expr)(t:TT):Prop:=
 ∀(whole:Sem Value) (pins:List (Addr×Obj)) (s:Shared) (σ:St) (H:Hp) (Q:Bool->Hp->Prop),Inv X pins σ H s->t σ H Q->wpAny (model X.prog X.w) X.A (isTrue e X.env whole) (TP X pins σ Q) X.xe s
theorem PW.pt{X:Cx}{e:Expr}{t:TT}(h:PW X e t):PT X e t:=h _
def PA(X:Cx)(es:List Expr)(t:TA):Prop:=
 ∀(pos:Pos) (pins:List (Addr×Obj)) (s:Shared) (σ:St) (H:Hp) (Q:List V->Hp->Prop),Inv X pins σ H s->t σ H Q->wpAny (model X.prog X.w) X.A (spliced (backTo pos (starEach es X.env))) (AP X pins σ Q) X.xe s
def PS(X:Cx)(st:Stmt)(t:TS):Prop:=
 ∀(pins:List (Addr×Obj)) (s:Shared) (σ:St) (H:Hp) (D:Ends),Inv X pins σ H s->t D σ H->wpAny (model X.prog X.w) X.A (exec st X.env) (SP X pins D) X.xe s
def PSs(X:Cx)(st:List Stmt)(t:TS):Prop:=
 ∀(pins:List (Addr×Obj)) (s:Shared) (σ:St) (H:Hp) (D:Ends),Inv X pins σ H s->t D σ H->wpAny (model X.prog X.w) X.A (execs st X.env) (SP X pins D) X.xe s
theorem thn{α:Type}{t:Sem α}{Q Q':α->Shared->Prop}{M:Model}{A:Around}{E:Value->Shared->Prop}{s:Shared}(h:wpAny M A t Q E s)(hQ:∀a s,Q a s->Q' a s):wpAny M A t Q' E s:=GZ h hQ fun _ _ x=>x
end L2
namespace L2
open PySem PySem.Spec PyProof.Rows
section
variable {X:Cx}
theorem bin {a b : Expr} {ta tb : TE} (ha : PE X a ta) (hb : PE X b tb) {pins : List (Addr × Obj)} {s : Shared} {σ : St} {H : Hp} {R : V -> V -> Hp -> Prop} (I : Inv X pins σ H s) (h : ta σ H fun x H1 => tb σ H1 fun y H2 => R x y H2)
 {α:Type} {Q:α->Shared->Prop} {f:Value->Value->Sem α}
 (hf:∀v u s2 x y H2,Inv X pins σ H2 s2->RelV x v->RelV y u->R x y H2->wpAny (model X.prog X.w) X.A (f v u) Q X.xe s2) :
 wpAny (model X.prog X.w) X.A (eval a X.env) (fun v s₁=>wpAny (model X.prog X.w) X.A (eval b X.env) (fun u s₂=>wpAny (model X.prog X.w) X.A (f v u) Q X.xe s₂) X.xe s₁) X.xe s:=by
 refine thn (ha pins s σ H _ I h) fun v s1 ⟨x,H1,I1,r1,q1⟩ => ?_;refine thn (hb pins s1 σ H1 _ I1 q1) fun u s2 ⟨y,H2,I2,r2,q2⟩ => ?_;exact hf v u s2 x y H2 I2 r1 r2 q2
def KL(i:Nat):TE:=fun σ H Q=>∃v,σ[i]? = some (some v)/\Q v H
def tC(v:V):TE:=fun _ H Q=>Q v H
theorem GD {i:Nat} {x:Str} {pos:Pos} (hN:X.N[i]? = some x) (hv:Vis X.env.scope x) (hd:(x==("__debug__" : Str))=false:=by decide) (hcd:(x==("__classdict__" : Str))=false:=by decide):PE X (.Name x pos) (KL i):=by
 intro pins s σ H Q I h;obtain ⟨v,e,h⟩:=h;obtain ⟨m,hn,hl⟩:=I.loc;obtain ⟨u,r,l⟩:=hl i x v hN e hv;have fin:EP X pins σ Q u s:=⟨v,H,I,r,h⟩;rcases l with ⟨hk,hm⟩ | ⟨hk,c,hc,hcell⟩
 . exact wpAny_Name (wpAny_loadName_local I.ok.kind hk hn hm fin) hd
 . rcases hk with hk | hk
   . exact wpAny_Name (wpAny_loadName_cell I.ok.kind hk hc hcell fin) hd
   . exact wpAny_Name (wpAny_loadName_free I.ok.kind hk hc hcell fin hcd) hd
theorem vG{i j pos}:PE X (.Constant (.int i) j pos) (tC (.int i)):=fun _ _ _ H _ I h=>wpAny_Constant_int ⟨.int i,H,I.tok _,⟨_,rfl⟩,h⟩
theorem zV{b j pos}:PE X (.Constant (.bool b) j pos) (tC (.bl b)):=fun _ _ _ H _ I h=>Constant_bool ⟨.bl b,H,I,rfl,h⟩
theorem wT{j pos}:PE X (.Constant .none j pos) (tC .non):=fun _ _ _ H _ I h=>Constant_none ⟨.non,H,I,rfl,h⟩
theorem tW{x j pos}:PE X (.Constant (.str x) j pos) (tC (.str x)):=fun _ _ _ H _ I h=>Calls.Constant_str ⟨.str x,H,I.tok _,⟨_,rfl⟩,h⟩
def Gl(X:Cx)(x:Str):Prop:=X.env.kindOf x=some .globalImplicit
theorem UF {E : Value -> Shared -> Prop} {pins : List (Addr × Obj)} {s : Shared} {σ : St} {H : Hp} {x : Str} {u : Value} {pos : Pos} {Q : Value -> Shared -> Prop} (I : Inv X pins σ H s) (hg : Gl X x) (hm : X.mg x = some u) (h : Q u s)
 (hd:(x==("__debug__" : Str))=false:=by decide):wpAny (model X.prog X.w) X.A (eval (.Name x pos) X.env) Q E s:=
 xR I.ok.kind hg (Calls.loadGlobal_global (by rw [I.ok.glob];exact I.mod.glob.keeps I.bk) hm h) hd
theorem JA {E : Value -> Shared -> Prop} {pins : List (Addr × Obj)} {s : Shared} {σ : St} {H : Hp} {x : Str} {u : Value} {pos : Pos} {Q : Value -> Shared -> Prop} (I : Inv X pins σ H s) (hg : Gl X x) (hm : X.mg x = none) (hv : bootBuiltins x = some u) (h : Q u s)
 (hn:x ≠ "__name__" :=by decide) (hd:(x==("__debug__" : Str))=false:=by decide):wpAny (model X.prog X.w) X.A (eval (.Name x pos) X.env) Q E s:=by
 obtain ⟨mb,h1,h2⟩:=I.mod.blt;exact xR I.ok.kind hg (Calls.loadGlobal_builtin (by rw [I.ok.glob];exact I.mod.glob.keeps I.bk) hm (by rw [I.ok.blt];exact h1.keeps I.bk) ((h2 x hn).trans hv) h) hd
theorem mM {x:Str} {v:V} {u:Value} {pos:Pos} (hg:Gl X x) (hm:X.mg x=some u) (r:RelV v u) (hd:(x==("__debug__" : Str))=false:=by decide):PE X (.Name x pos) (tC v) :=
 fun _ _ _ H _ I h=>UF I hg hm ⟨v,H,I,r,h⟩ hd
variable {a b:Expr} {ta tb:TE} {pos:Pos}
def PC(X:Cx)(op:CmpOp)(a b:Expr)(t:TE):Prop:=
 ∀(pins:List (Addr×Obj)) (s:Shared) (σ:St) (H:Hp) (Q:VK),Inv X pins σ H s->t σ H Q ->
   wpAny (model X.prog X.w) X.A (eval a X.env) (fun v s₁=>wpAny (model X.prog X.w) X.A (eval b X.env) (fun u s₂=>wpAny (model X.prog X.w) X.A (compareOp op v u) (EP X pins σ Q) X.xe s₂) X.xe s₁) X.xe s
def tB(t:TE):TT:=fun σ H Q=>t σ H fun x H1=>∃c,x = .bl c/\Q c H1
theorem A16{op:CmpOp}{t:TE}(h:PC X op a b t)(h1:behindInMarks op b=false:=by first | exact nobehind _ (by decide) (by decide) | rfl):PT X (.Compare a [op] [b] pos) (tB t):=by
 intro pins s σ H Q I hw;refine A41 (thn (h pins s σ H _ I hw) fun v s1 h1=>thn h1 fun u s2 h2=>thn h2 fun c s3 ⟨x,H1,I1,r1,q1⟩ => ?_) h1;obtain ⟨d,rfl,q⟩:=q1
 cases r1
 exact fB ⟨H1,I1,q⟩
theorem wX{e:Expr}{t:TE}(h:PE X e t)(he:∀whole,isTrue e X.env whole=(do let v <-whole;standAt e.pos;holding [v] (truthy v)):=by intro _;rfl):PT X e (tB t):=by
 intro pins s σ H Q I hw;refine isTrue_plain (thn (h pins s σ H _ I hw) fun v s1 ⟨x,H1,I1,r1,q1⟩ => ?_) (he _);obtain ⟨d,rfl,q⟩:=q1
 cases r1
 exact fB ⟨H1,I1,q⟩
variable {tA tB':TT} {IV:List Expr}
def yG(t u:TT):TT:=fun σ H Q=>t σ H fun c H1=>if c=true then u σ H1 Q else Q false H1
def zL(t:TT):TT:=fun σ H Q=>t σ H fun c H1=>Q (!c) H1
theorem nI(ha:PT X a tA):PW X (.BoolOp .And [a] pos) tA:=by
 intro wh pins s σ H Q I h;refine isTrue_and (thn (ha pins s σ H Q I h) fun c s1 e=> ?_)
 cases c with
 | true=>exact isTrue_and_nil e
 | false=>exact e
theorem vQ(ha:PT X a tA)(hb:PW X (.BoolOp .And (b::IV) pos) tB'):PW X (.BoolOp .And (a::b::IV) pos) (yG tA tB'):=by
 intro wh pins s σ H Q I h;refine isTrue_and (thn (ha pins s σ H _ I h) fun c s1 ⟨H1,I1,q1⟩ => ?_)
 cases c with
 | true=>exact hb wh pins s1 σ H1 Q I1 q1
 | false=>exact ⟨H1,I1,q1⟩
theorem vA(ha:PT X a tA):PT X (.UnaryOp .Not a pos) (zL tA):=by
 intro pins s σ H Q I h;exact isTrue_not (ha pins s σ H (fun c H1=>Q (!c) H1) I h)
end
end L2
namespace L2
open PySem PySem.Spec PyProof.Rows
def SqL(K:PySem.W.Frag)(H:Hp)(a:Addr)(xs:List V):Prop:=
 Rd H a (.lst xs) \/
  ∃(o:Obj) (its:Array Value) (n:Nat),K.lookup a=some o/\o.cls = .type "list" /\ o.dict=none/\o.data = .seq its n/\its.size<=sizeLine/\Vals xs its.toList
def SqT(K:PySem.W.Frag)(H:Hp)(a:Addr)(xs:List V):Prop:=
 Rd H a (.tup xs) \/
  ∃(o:Obj) (its:Array Value) (n:Nat),K.lookup a=some o/\o.cls = .type "tuple" /\ o.data = .seq its n/\its.size<=sizeLine/\Vals xs its.toList
def A21:Value->Option V
 | .none=>some .non
 | .bool b=>some (.bl b)
 | .int i _=>some (.int i)
 | .str x _=>some (.str x)
 | .bytes b _=>some (.byt b)
 | .float b _=>some (.flt b)
 | .ref a=>some (.ref a)
 | .type n=>some (.ty n)
 | _=>none
theorem RelV.abs{x:V}{u:Value}(r:RelV x u):A21 u=some x:=by
 cases x with
 | non=>cases r;rfl
 | bl _=>cases r;rfl
 | int _=>obtain ⟨t,rfl⟩:=r;rfl
 | str _=>obtain ⟨t,rfl⟩:=r;rfl
 | byt _=>obtain ⟨t,rfl⟩:=r;rfl
 | flt _=>obtain ⟨t,rfl⟩:=r;rfl
 | ref _=>cases r;rfl
 | ty _=>cases r;rfl
theorem RelV.inj{x y:V}{u:Value}(r:RelV x u)(q:RelV y u):x=y:=AY (r.abs.symm.trans q.abs)
theorem Vals.inj:∀ {xs ys:List V} {us:List Value},Vals xs us->Vals ys us->xs=ys
 | _,_,_, .nil, .nil=>rfl
 | _,_,_, .cons r t, .cons r' t'=>by rw [r.inj r',Vals.inj t t']
section
variable {X:Cx} {pins:List (Addr×Obj)} {σ:St} {H:Hp} {s:Shared} {a:Addr} {xs ys:List V}
theorem SqL.of{K:PySem.W.Frag}(h:H a=some (.lst xs)):SqL K H a xs:= .inl (.inl h)
theorem SqT.of{K:PySem.W.Frag}(h:H a=some (.tup xs)):SqT K H a xs:= .inl (.inl h)
theorem Inv.list(I:Inv X pins σ H s)(h:SqL X.K H a xs):∃its:List Value,Vals xs its/\PlainL s.heap a its.toArray/\xs.length<=sizeLine:=by
 rcases h with h | ⟨o,its,n,hk,hc,hd,hs,hz,r⟩
 . obtain ⟨z,its,n,r,e⟩:=h.ok I.hok;exact ⟨its,r,⟨_,n,e,rfl,rfl,rfl⟩,z⟩
 . refine ⟨its.toList,r,⟨o,n,I.kIn a o hk,hc,hd,by simpa using hs⟩,?_⟩;have e:=r.length;simp only [SE] at e
   omega
theorem Inv.tuple(I:Inv X pins σ H s)(h:SqT X.K H a xs):∃its:List Value,Vals xs its/\IsTup s.heap a its.toArray/\xs.length<=sizeLine:=by
 rcases h with h | ⟨o,its,n,hk,hc,hs,hz,r⟩
 . obtain ⟨z,its,r,p⟩:=h.ok I.hok;exact ⟨its,r,p,z⟩
 . refine ⟨its.toList,r,⟨o,I.kIn a o hk,hc,n,by simpa using hs⟩,?_⟩;have e:=r.length;simp only [SE] at e
   omega
theorem Inv.list_inj(I:Inv X pins σ H s)(h:SqL X.K H a xs)(h':SqL X.K H a ys):xs=ys:=by
 obtain ⟨its,r,⟨o,n,e,_,_,d⟩,_⟩:=I.list h;obtain ⟨its',r',⟨o',n',e',_,_,d'⟩,_⟩:=I.list h';rw [e] at e';cases e'
 rw [d] at d'
 injection d' with d1 _
 have:its=its':=by simpa using KM Array.toList d1
 subst this;exact r.inj r'
theorem Inv.tuple_inj(I:Inv X pins σ H s)(h:SqT X.K H a xs)(h':SqT X.K H a ys):xs=ys:=by
 obtain ⟨its,r,⟨o,e,_,n,d⟩,_⟩:=I.tuple h;obtain ⟨its',r',⟨o',e',_,n',d'⟩,_⟩:=I.tuple h';rw [e] at e';cases e'
 rw [d] at d'
 injection d' with d1 _
 have:its=its':=by simpa using KM Array.toList d1
 subst this;exact r.inj r'
end
abbrev Cx.wish (X:Cx) (E:Value->Shared->Prop):Cx:={ X with xe:=E}
abbrev Cx.nox (X:Cx):Cx:=X.wish fun _ _=>False
theorem Cx.Ok.wish{X:Cx}(ok:X.Ok)(E:Value->Shared->Prop):(X.wish E).Ok:=
 ⟨ok.mod,ok.kind,ok.glob,ok.blt,ok.above,ok.inj,ok.has,ok.cab,ok.hd,ok.frames,ok.stk,ok.exf,ok.bs,ok.bsz,ok.noex,ok.exfs,ok.funs,ok.frf,ok.tb⟩
theorem Cx.Ok.unwish{X:Cx}{E:Value->Shared->Prop}(ok:(X.wish E).Ok):X.Ok:=
 ⟨ok.mod,ok.kind,ok.glob,ok.blt,ok.above,ok.inj,ok.has,ok.cab,ok.hd,ok.frames,ok.stk,ok.exf,ok.bs,ok.bsz,ok.noex,ok.exfs,ok.funs,ok.frf,ok.tb⟩
section
variable {X:Cx} {pins:List (Addr×Obj)} {σ:St} {H:Hp} {s:Shared} {E:Value->Shared->Prop}
theorem Inv.wish(I:Inv X pins σ H s)(E:Value->Shared->Prop):Inv (X.wish E) pins σ H s:=⟨I.ok.wish E,I.os,I.bare,I.base,I.loc,I.cell,I.free,I.freeC,I.pin,I.hok,I.len⟩
theorem Inv.unwish(I:Inv (X.wish E) pins σ H s):Inv X pins σ H s:=⟨I.ok.unwish,I.os,I.bare,I.base,I.loc,I.cell,I.free,I.freeC,I.pin,I.hok,I.len⟩
theorem SP.unwish{D:Ends}{f:Flow}{s':Shared}(h:SP (X.wish E) pins D f s'):SP X pins D f s':=by
 cases f with
 | next=>obtain ⟨σ',H',I,q⟩:=h;exact ⟨σ',H',I.unwish,q⟩
 | brk=>obtain ⟨σ',H',I,q⟩:=h;exact ⟨σ',H',I.unwish,q⟩
 | cont=>obtain ⟨σ',H',I,q⟩:=h;exact ⟨σ',H',I.unwish,q⟩
 | ret u=>obtain ⟨v,σ',H',I,r,q⟩:=h;exact ⟨v,σ',H',I.unwish,r,q⟩
theorem PSs.nox{st:List Stmt}{t:TS}(h:PSs X.nox st t):PSs X st t:=fun pins s σ H D I hw=>
 GZ (h pins s σ H D (I.wish _) hw) (fun _ _ q=>q.unwish) fun _ _ z=>False.elim z
end
section
variable {X:Cx} {st:Stmt} {IV:List Stmt} {t u:TS} {e:Expr} {te:TE} {pos:Pos}
def tNext:TS:=fun D σ H=>D.nx σ H
def xF(t u:TS):TS:=fun D σ H=>t { D with nx:=u D} σ H
theorem o3:PSs X [] tNext:=fun _ _ σ H _ I h=>SM ⟨σ,H,I,h⟩
theorem VP(h1:PS X st t)(h2:PSs X IV u):PSs X (st::IV) (xF t u):=by
 intro pins s σ H D I h;refine wpAny_execs_cons (thn (h1 pins s σ H { D with nx:=u D} I h) fun f s1 q=> ?_)
 cases f with
 | next=>
  obtain ⟨σ',H',I',q⟩:=q
  exact h2 pins s1 σ' H' D I' q
 | ret v=>exact q
 | brk=>exact q
 | cont=>exact q
theorem b8(h1:PS X st t):PSs X [st] t:=by
 intro pins s σ H D I h;refine wpAny_execs_cons (thn (h1 pins s σ H D I h) fun f s1 q=> ?_)
 cases f with
 | next=>exact SM q
 | ret v=>exact q
 | brk=>exact q
 | cont=>exact q
theorem Inv.quiet{pins:List (Addr×Obj)}{σ:St}{H:Hp}{s:Shared}(I:Inv X pins σ H s):interactive X.env=false:=by simp [interactive,I.ok.kind]
def WR(te:TE):TS:=fun D σ H=>te σ H fun _ H1=>D.nx σ H1
theorem Q2(he:PE X e te)(hs:swapsWith e none pos.line X.env=pure false:=by rfl):PS X (.Expr e pos) (WR te):=by
 intro pins s σ H D I h;exact wpAny_Expr_any (thn (he pins s σ H _ I h) fun v s1 ⟨x,H1,I1,r1,q1⟩=>⟨σ,H1,I1,q1⟩) I.quiet hs
def wP(te:TE):TS:=fun D σ H=>te σ H D.rt
theorem YD(he:PE X e te):PS X (.Return (some e) pos) (wP te):=by
 intro pins s σ H D I h;exact wpAny_Return_some (thn (he pins s σ H _ I h) fun v s1 ⟨x,H1,I1,r1,q1⟩=>⟨x,σ,H1,I1,r1,q1⟩)
def tRetN:TS:=fun D _ H=>D.rt .non H
theorem qC:PS X (.Return none pos) tRetN:=fun _ _ σ H _ I h=>wpAny_Return_none ⟨.non,σ,H,I,rfl,h⟩
def zT(c:TT)(t u:TS):TS:=fun D σ H=>c σ H fun b H1=>if b=true then t D σ H1 else u D σ H1
theorem zX{c:Expr}{a b:List Stmt}{tc:TT}(hc:PT X c tc)(ha:PSs X a t)(hb:PSs X b u):PS X (.If c a b pos) (zT tc t u):=by
 intro pins s σ H D I h;refine wpAny_If (thn (hc pins s σ H _ I h) fun d s1 ⟨H1,I1,q1⟩ => ?_)
 cases d with
 | true=>exact ha pins s1 σ H1 D I1 q1
 | false=>exact hb pins s1 σ H1 D I1 q1
end
abbrev TG:=V->St->Hp->(St->Hp->Prop)->Prop
abbrev TGs:=List V->St->Hp->(St->Hp->Prop)->Prop
def PG(X:Cx)(target:Expr)(t:TG):Prop:=
 ∀(pins:List (Addr×Obj)) (s:Shared) (σ:St) (H:Hp) (v:V) (u:Value) (Q:St->Hp->Prop),Inv X pins σ H s->RelV v u->t v σ H Q ->
   wpAny (model X.prog X.w) X.A (assign target X.env u) (fun _ s'=>∃σ' H',Inv X pins σ' H' s'/\Q σ' H') X.xe s
def PGs(X:Cx)(ts:List Expr)(t:TGs):Prop:=
 ∀(pins:List (Addr×Obj)) (s:Shared) (σ:St) (H:Hp) (vs:List V) (us:List Value) (Q:St->Hp->Prop),Inv X pins σ H s->Vals vs us->t vs σ H Q ->
   wpAny (model X.prog X.w) X.A (assignInOrder ((assignEach ts X.env).map (·.2)) us) (fun _ s'=>∃σ' H',Inv X pins σ' H' s'/\Q σ' H') X.xe s
abbrev t8:=V->V->V->Hp->(Hp->Prop)->Prop
def yS(X:Cx)(t:t8):Prop:=
 ∀(pins:List (Addr×Obj)) (s:Shared) (σ:St) (H:Hp) (o i v:V) (ov iv u:Value) (Q:Hp->Prop),Inv X pins σ H s->RelV o ov->RelV i iv->RelV v u->t o i v H Q ->
   wpAny (model X.prog X.w) X.A (setItem ov iv u) (fun _ s'=>∃H',Inv X pins σ H' s'/\Q H') X.xe s
section
variable {X:Cx} {pos:Pos}
def QY(i:Nat):TG:=fun v σ H Q=>Q (σ.set i (some v)) H
theorem ZV{i:Nat}{x:Str}(hN:X.N.Nodup)(hi:X.N[i]? = some x)(hx:Loc X.env.scope x)(hf:X.fn x=true\/X.env.scope.names.lookup x=some .local:=by first | exact .inl rfl | exact .inr rfl | assumption):PG X (.Name x pos) (QY i):=by
 intro pins s σ H v u Q I r h;exact wpAny_assign_Name (NV I hN hi hx r (fun s' I'=>⟨_,H,I',h⟩) hf)
def gNil:TGs:=fun vs σ H Q=>vs = []/\Q σ H
def kG(t:TG)(u:TGs):TGs:=fun vs σ H Q=>∃v r,vs=v::r/\t v σ H fun σ' H'=>u r σ' H' Q
theorem ZJ:PGs X [] gNil:=by
 intro pins s σ H vs us Q I r h;obtain ⟨e,h⟩:=h;subst e
 cases r
 exact assignInOrder_nil ⟨σ,H,I,h⟩
theorem VO {e : Expr} {es : List Expr} {t : TG} {u : TGs} (h1 : PG X e t) (h2 : PGs X es u)
 (hs:(assignEach (e::es) X.env).map (·.2)=assign e X.env::(assignEach es X.env).map (·.2):=by rfl):PGs X (e::es) (kG t u):=by
 intro pins s σ H vs us Q I r h;obtain ⟨v,vr,e1,h⟩:=h;subst e1
 cases r with
 | cons r rr=>
  rw [hs];refine xM (thn (h1 pins s σ H _ _ _ I r h) fun _ s1 ⟨σ1,H1,I1,q1⟩ => ?_);exact h2 pins s1 σ1 H1 _ _ Q I1 rr q1
def tQ(K:PySem.W.Frag)(n:Nat)(t:TGs):TG:=fun v σ H Q=>∃a xs,v = .ref a/\SqT K H a xs/\xs.length=n/\t xs σ H Q
theorem lC {es : List Expr} {k : Nat} {t : TGs} {n : Nat} (hc : X.calm = true) (h : PGs X es t)
 (hn:(assignEach es X.env).length=n:=by rfl) (hst:(assignEach es X.env).findIdx? (·.1)=none:=by rfl):PG X (.Tuple es k pos) (tQ X.K n t):=by
 intro pins s σ H v u Q I r hw;obtain ⟨a,xs,e1,hq,hl,hw⟩:=hw;subst e1
 cases r
 obtain ⟨its,rv,ht,hz⟩:=I.tuple hq;refine assign_Tuple_tuple (I.ok.hd hc) ht (by simp [hn, <-hl,rv.length]) hst fun h' hx=> ?_;have I1:Inv X pins σ H {s with heap:=h' }:=I.kept (t':=s.toks) fun b o e=>hx b o (D4 (AZ e)) e;exact h pins _ σ H xs _ Q I1 (by simpa using rv) hw
def sX(to ti:TE)(t:t8):TG:=fun v σ H Q=>to σ H fun o H1=>ti σ H1 fun i H2=>t o i v H2 fun H3=>Q σ H3
theorem fT {o i : Expr} {to ti : TE} {t : t8} (ho : PE X o to) (hi : PE X i ti) (hs : yS X t)
 (ha:∀v,assign (.Subscript o i pos) X.env v=(do
  let ov <-holding [v] (eval o X.env)
  let iv <-holding [v,ov] (eval i X.env)
  standAt pos
  holding [v,ov,iv] (setItem ov iv v)
  release [v,ov,iv] []):=by intro _;rfl):PG X (.Subscript o i pos) (sX to ti t):=by
 intro pins s σ H v u Q I r h;rw [ha];refine A7 (Z0 (thn (ho pins s σ H _ I h) fun ov s1 ⟨x,H1,I1,r1,q1⟩ => ?_));refine A7 (Z0 (thn (hi pins s1 σ H1 _ I1 q1) fun iv s2 ⟨y,H2,I2,r2,q2⟩ => ?_));refine A7 (Z1 (A7 (Z0 (thn (hs pins s2 σ H2 x y v ov iv u _ I2 r1 r2 r q2) fun _ s3 ⟨H3,I3,q3⟩ => ?_))));exact wpAny_release ⟨σ,H3,I3,q3⟩
def YQ(te:TE)(g:TG):TS:=fun D σ H=>te σ H fun x H1=>g x σ H1 D.nx
theorem jS {tg e : Expr} {te : TE} {g : TG} (he : PE X e te) (hg : PG X tg g) (hs : swapsWithSole [tg] e pos.line X.env = pure false := by rfl) (hw : swappedStores [tg] e X.env = pure none := by rfl)
 (h1:(assignEach [tg] X.env).map (·.2) = [assign tg X.env]:=by rfl):PS X (.Assign [tg] e pos) (YQ te g):=by
 intro pins s σ H D I h;refine wpAny_Assign_stores (thn (he pins s σ H _ I h) fun v s1 ⟨x,H1,I1,r1,q1⟩ => ?_) hs hw;rw [h1];exact thn (hg pins s1 σ H1 x v _ I1 r1 q1) fun _ s2 q=>q
theorem YY {i : Nat} {x : Str} {e : Expr} {te : TE} {pos' : Pos} (hN : X.N.Nodup) (hi : X.N[i]? = some x) (hx : Loc X.env.scope x) (he : PE X e te) (hs : swapsWith e (some (.Name x pos')) pos.line X.env = pure false := by rfl) (hf : X.fn x = true \/ X.env.scope.names.lookup x = some .local := by first | exact .inl rfl | exact .inr rfl | assumption) :
 PS X (.Assign [.Name x pos'] e pos) (YQ te (QY i)):=by
 intro pins s σ H D I h;refine wpAny_Assign_Name (thn (he pins s σ H _ I h) fun v s1 ⟨y,H1,I1,r1,q1⟩ => ?_) hs;exact NV I1 hN hi hx r1 (fun s2 I2=>⟨_,H1,I2,q1⟩) hf
def y8(i j:Nat)(ta:TA):TS:=fun D σ H=>ta σ H fun vs H1=>∃v w,vs = [v,w]/\D.nx ((σ.set i (some v)).set j (some w)) H1
theorem t4 {i j : Nat} {x y : Str} {a b : Expr} {ta : TA} {px py pt : Pos} {kt k2 pt2} (hc : X.calm = true) (hN : X.N.Nodup) (hi : X.N[i]? = some x) (hj : X.N[j]? = some y) (hij : i ≠ j)
 (hx:X.env.scope.names.lookup x=some .local) (hy:X.env.scope.names.lookup y=some .local) (ha:PA X [a,b] ta)
 (hw:swappedStores [.Tuple [.Name x px, .Name y py] kt pt] (.Tuple [a,b] k2 pt2) X.env=pure (some [x,y]))
 (hs:swapsWithSole [.Tuple [.Name x px, .Name y py] kt pt] (.Tuple [a,b] k2 pt2) pos.line X.env=pure false:=by rfl) :
 PS X (.Assign [.Tuple [.Name x px, .Name y py] kt pt] (.Tuple [a,b] k2 pt2) pos) (y8 i j ta):=by
 intro pins s σ H D I h;rw [exec_Assign_arm];refine A7 (Z1 ?_);rw [hs];refine A7 (AX ?_);rw [AR (by decide)];refine A7 (Tuple_ (thn (ha _ pins s σ H _ I h) fun us s1 ⟨vs,H1,I1,r1,q1⟩ => ?_));obtain ⟨v,w,e1,q1⟩:=q1;subst e1
 obtain ⟨u1,u2,rfl,rv,rw'⟩:∃u1 u2,us = [u1,u2]/\RelV v u1/\RelV w u2:=by
  cases r1 with
  | cons p q=>
   cases q with
   | cons p' q' =>
    cases q'
    exact ⟨_,_,rfl,p,p'⟩
 refine F0 ?_ (by show 2<=sizeLine;decide);have I2:Inv X pins σ H1 {s1 with heap:=s1.heap.push {cls:= .type "tuple",data:= .seq [u1,u2].toArray} }:=I1.kept (t':=s1.toks) fun b o e=>A5 _ e;rw [hw];refine A7 (AX ?_);show wpAny (model X.prog X.w) X.A (do rule "assign.swapped-stores";let items <-unpackItems (.ref s1.heap.objs.size) 2 none;assignInOrder [fun v=>bindName X.env y v,fun v=>bindName X.env x v] items.reverse;pure Flow.next) _ _ _;refine A7 (wpAny_rule (A7 (unpackItems_tuple (items:= #[u1,u2]) (I.ok.hd hc) (A25 s1.heap _) fun h' hx' => ?_)));have I3:=I2.kept (h':=h') (t':=s1.toks) fun b o e=>hx' b o (D4 (AZ e)) e;show wpAny _ _ (assignInOrder [fun v=>bindName X.env y v,fun v=>bindName X.env x v] [u2,u1] >>= fun _=>pure Flow.next) _ _ _;refine A7 (xM (wpAny_bindName (NV I3 hN hj (.inl hy) rw' (fun s2 I4=> ?_) (.inr hy))));refine xM (wpAny_bindName (NV I4 hN hi (.inl hx) rv (fun s3 I5=>assignInOrder_nil (AX ?_)) (.inr hx)));rw [List.set_comm _ _ (HQ hij)] at I5
 exact ⟨_,H1,I5,q1⟩
end
section
variable {X:Cx} {pos:Pos}
def jP(c:TT)(tb:TS):TS:=fun D σ H=>∃W:Nat->St->Hp->Prop,(∃m,W m σ H)/\∀m σ H,W m σ H ->
 c σ H fun b H1=>if b=true then ∃N:St->Hp->Prop,(∀σ' H',N σ' H'->∃m',m'<m/\W m' σ' H')/\tb { D with nx:=N,ct:=N,bk:=D.nx} σ H1 else D.nx σ H1
theorem kL{c:Expr}{body:List Stmt}{tc:TT}{tb:TS}(hp:PassesOwn (model X.prog X.w) X.A X.env X.xe)(hc:PT X c tc)(hb:PSs X body tb):PS X (.While c body [] pos) (jP tc tb):=by
 intro pins s σ H D I h;obtain ⟨W,⟨m0,w0⟩,turn⟩:=h;refine wpAny_While (codeAny_whileLoop (fun n s'=>∃σ' H',Inv X pins σ' H' s'/\W n σ' H') ?_ m0 ⟨σ,H,I,w0⟩);rintro n s1 ⟨σ1,H1,I1,w1⟩;refine HC hp (thn (hc pins s1 σ1 H1 _ I1 (turn n σ1 H1 w1)) fun b s2 ⟨H2,I2,q2⟩ => ?_)
 cases b with
 | true=>
  obtain ⟨N,hN,q2⟩:=q2;rw [AN rfl];refine HC hp (thn (hb pins s2 σ1 H2 _ I2 q2) fun f s3 q3=> ?_)
  cases f with
  | next=>
   obtain ⟨σ3,H3,I3,n3⟩:=q3;obtain ⟨m',hm,w3⟩:=hN σ3 H3 n3
   exact ⟨m',hm,σ3,H3,I3,w3⟩
  | cont=>
   obtain ⟨σ3,H3,I3,n3⟩:=q3;obtain ⟨m',hm,w3⟩:=hN σ3 H3 n3
   exact ⟨m',hm,σ3,H3,I3,w3⟩
  | brk=>exact q3
  | ret v=>exact q3
 | false=>
  rw [AR F2];exact SM ⟨σ1,H2,I2,q2⟩
end
structure It where
 go:Nat->Hp->Prop
 yld:Nat->Hp->V->Hp->Prop
 stop:Nat->Hp->Prop
def UX(X:Cx)(pins:List (Addr×Obj))(H:Hp)(b:Addr):Prop:=
 H b=none/\b≠X.env.locals/\b ∉ X.fs/\(b ∈ X.ex\/X.s₀.heap.objs.size<=b)/\(∀x c,X.env.cells.lookup x=some c->c≠b)/\∀p ∈ X.pn++pins,p.1≠b
theorem Inv.fpOk{X:Cx}{pins:List (Addr×Obj)}{σ:St}{H H':Hp}{s:Shared}{b:Addr}(I:Inv X pins σ H s)(hb:s.heap.objs.size<=b)(hn:H' b=none):UX X pins H' b:=by
 refine ⟨hn,sD (AM I.lt hb),I.nofs hb, .inr (BG I.sz hb),fun x c e z=> ?_,fun p hp z=> ?_⟩
 . obtain ⟨v,q⟩:=I.cell x c e;exact absurd (AM q.lt (by rw [z];exact hb)) (I9 _)
 . exact absurd (AM (AZ (I.pin p hp).1) (by rw [z];exact hb)) (I9 _)
structure Turn (P:Program) (w:World) (K:PySem.W.Frag) (tg:Expr) (J:It) (fp:List Addr) (it:Addr) (tn:Nat->Heap->Prop):Prop where
 mem:it ∈ fp
 obj:∀i h,tn i h->∀b ∈ fp,∃o,h.get? b=some o/\∀v,o.data ≠ .cell v
 keep:∀i h h',tn i h->(∀b ∈ fp,∀o,h.get? b=some o->h'.get? b=some o)->tn i h'
 item:∀(X:Cx),X.prog=P->X.w=w->X.K=K->X.calm=true->∀(i:Nat) (pins:List (Addr×Obj)) (s:Shared) (σ:St) (H:Hp) (E:Value->Shared->Prop),Inv X pins σ H s->(∀b ∈ fp,UX X pins H b)->tn i s.heap->J.go i H ->
  wpAny (model P w) X.A (pyNext (.ref it)) (fun r s1=>∃u,r=some u /\
   wpAny (model P w) X.A (letOwnedTupleGo tg (.ref it) u) (fun _ s2=>∃x H',Inv X pins σ H' s2/\RelV x u/\J.yld i H x H'/\tn (i+1) s2.heap/\∀b ∈ fp,H' b=none) E s1) E s
 done:∀(X:Cx),X.prog=P->X.w=w->X.K=K->X.calm=true->∀(i:Nat) (pins:List (Addr×Obj)) (s:Shared) (σ:St) (H:Hp) (E:Value->Shared->Prop),Inv X pins σ H s->(∀b ∈ fp,UX X pins H b)->tn i s.heap->J.stop i H ->
  wpAny (model P w) X.A (pyNext (.ref it)) (fun r s1=>r=none/\Inv X pins σ H s1) E s
 self:∀(A:Around) (i:Nat) (s:Shared) (Q:Value->Shared->Prop) (E:Value->Shared->Prop),tn i s.heap->Q (.ref it) s->wpAny (model P w) A (pyIter (.ref it)) Q E s
abbrev TI:=St->Hp->(It->Hp->Prop)->Prop
def PIE(X:Cx)(pins:List (Addr×Obj))(σ:St)(tg:Expr)(R:It->Hp->Prop)(itv:Value)(s2:Shared):Prop:=
 ∃(it:Addr) (fp:List Addr) (tn:Nat->Heap->Prop) (J:It) (H':Hp),itv = .ref it/\Inv X pins σ H' s2/\Turn X.prog X.w X.K tg J fp it tn/\tn 0 s2.heap/\(∀b ∈ fp,UX X pins H' b)/\R J H'
def PI(X:Cx)(tg iter:Expr)(wi:TI):Prop:=
 ∀(pins:List (Addr×Obj)) (s:Shared) (σ:St) (H:Hp) (R:It->Hp->Prop),Inv X pins σ H s->wi σ H R ->
   wpAny (model X.prog X.w) X.A (eval iter X.env) (fun v s1=>wpAny (model X.prog X.w) X.A (pyIter v) (PIE X pins σ tg R) X.xe s1) X.xe s
theorem W0 {M : Model} {A : Around} {E : Value -> Shared -> Prop} {s : Shared} {tg : Expr} {it : Addr} {u : Value} {o : Obj} {n : String} {vs : Array Value} {Q : Unit -> Shared -> Prop} (ho : s.heap.get? it = some o) (hc : o.cls = .type n) (hd : o.data = .fields vs)
 (hn : ["enumerate","zip","dict_itemiterator","dict_reverseitemiterator","odict_iterator","itertools.zip_longest","itertools.pairwise"].contains n=false) (hQ:Q () s):wpAny M A (letOwnedTupleGo tg (.ref it) u) Q E s:=by
 unfold letOwnedTupleGo
 cases tg <;> first
  | exact AX hQ
  | (cases u <;> first
   | exact AX hQ
   | (refine A7 (wpAny_load ho ?_)
      rw [hc,hd];show wpAny M A (if (["enumerate","zip","dict_itemiterator","dict_reverseitemiterator","odict_iterator","itertools.zip_longest","itertools.pairwise"].contains n && vs[0]? ==some (rawInt _))=true then _ else _) Q E s;rw [AR (by intro h;rw [hn,Bool.false_and] at h;cases h)];exact AX hQ))
def Itl(K:PySem.W.Frag)(a:Addr):It:=
 ⟨fun i H=>∃xs x,SqL K H a xs/\xs[i]? = some x,fun i H x H'=>H'=H/\∀xs,SqL K H a xs->xs[i]? = some x,fun i H=>∃xs,SqL K H a xs/\xs.length<=i⟩
def Itt(K:PySem.W.Frag)(a:Addr):It:=
 ⟨fun i H=>∃xs x,SqT K H a xs/\xs[i]? = some x,fun i H x H'=>H'=H/\∀xs,SqT K H a xs->xs[i]? = some x,fun i H=>∃xs,SqT K H a xs/\xs.length<=i⟩
def Itr(lo:Int)(n:Nat):It:=⟨fun i _=>i<n,fun i H x H'=>H'=H/\x = .int (lo+i),fun i _=>n<=i⟩
theorem TM{P:Program}{w:World}{K:PySem.W.Frag}{tg:Expr}(a it:Addr):Turn P w K tg (Itl K a) [it] it (fun i h=>h.IsListIter it a i) where
 mem:=by simp
 obj:=fun i h st b hb=>by
  have e:b=it:=by simpa using hb
  subst e;obtain ⟨o,e,c,d⟩:=st;exact ⟨o,e,fun v z=>by rw [d] at z;cases z⟩
 keep:=fun i h h' st k=>st.at fun o e=>k it (by simp) o e
 item:=by
  intro X hP hw hK hc i pins s σ H E I hf st hg;subst hP hw hK;obtain ⟨xs,x,hq,hx⟩:=hg;obtain ⟨its,rv,p,hz⟩:=I.list hq;obtain ⟨u,hu,ru⟩:=rv.get hx;obtain ⟨f0,f1,f2,f3,f4,f5⟩:=hf it (by simp);refine wpAny_pyNext_list_item st p.isList (x:=u) (by simpa using hu) fun h' st' sb=> ?_;have I1:Inv X pins σ H {s with heap:=h' }:=I.turned (t':=s.toks) (fun b o hb e=>(sb.2 b hb).trans e) f0 f1 f3 f4 f5;obtain ⟨o,e,c,d⟩:=id st';exact ⟨u,rfl,W0 (s:={s with heap:=h' }) e c d (by decide) ⟨x,H,I1,ru,⟨rfl,fun ys hy=>by rw [I.list_inj hy hq];exact hx⟩,st',fun b hb=>(hf b hb).1⟩⟩
 done:=by
  intro X hP hw hK hc i pins s σ H E I hf st hg;subst hP hw hK;obtain ⟨xs,hq,hx⟩:=hg;obtain ⟨its,rv,p,hz⟩:=I.list hq;obtain ⟨f0,f1,f2,f3,f4,f5⟩:=hf it (by simp);have hl:=rv.length;exact wpAny_pyNext_list_end (I.ok.hd hc) st p.isList (by simp;omega) fun h' eb=>⟨rfl,I.turned (t':=s.toks) (fun b o hb e=>eb b o hb e) f0 f1 f3 f4 f5⟩
 self:=fun _ _ _ _ _ st h=>wpAny_pyIter_listiter st h
theorem XY{P:Program}{w:World}{K:PySem.W.Frag}{tg:Expr}(a it:Addr):Turn P w K tg (Itt K a) [it] it (fun i h=>h.IsTupleIter it a i) where
 mem:=by simp
 obj:=fun i h st b hb=>by
  have e:b=it:=by simpa using hb
  subst e;obtain ⟨o,e,c,d⟩:=st;exact ⟨o,e,fun v z=>by rw [d] at z;cases z⟩
 keep:=fun i h h' st k=>st.at fun o e=>k it (by simp) o e
 item:=by
  intro X hP hw hK hc i pins s σ H E I hf st hg;subst hP hw hK;obtain ⟨xs,x,hq,hx⟩:=hg;obtain ⟨its,rv,p,hz⟩:=I.tuple hq;obtain ⟨u,hu,ru⟩:=rv.get hx;obtain ⟨f0,f1,f2,f3,f4,f5⟩:=hf it (by simp);refine wpAny_pyNext_tuple_item st (show s.heap.IsTuple a its.toArray from p) (x:=u) (by simpa using hu) fun h' st' sb=> ?_;have I1:Inv X pins σ H {s with heap:=h' }:=I.turned (t':=s.toks) (fun b o hb e=>(sb.2 b hb).trans e) f0 f1 f3 f4 f5;obtain ⟨o,e,c,d⟩:=id st';exact ⟨u,rfl,W0 (s:={s with heap:=h' }) e c d (by decide) ⟨x,H,I1,ru,⟨rfl,fun ys hy=>by rw [I.tuple_inj hy hq];exact hx⟩,st',fun b hb=>(hf b hb).1⟩⟩
 done:=by
  intro X hP hw hK hc i pins s σ H E I hf st hg;subst hP hw hK;obtain ⟨xs,hq,hx⟩:=hg;obtain ⟨its,rv,p,hz⟩:=I.tuple hq;obtain ⟨f0,f1,f2,f3,f4,f5⟩:=hf it (by simp);have hl:=rv.length;exact wpAny_pyNext_tuple_end (I.ok.hd hc) st (show s.heap.IsTuple a its.toArray from p) (by simp;omega) fun h' eb=>⟨rfl,I.turned (t':=s.toks) (fun b o hb e=>eb b o hb e) f0 f1 f3 f4 f5⟩
 self:=fun _ _ _ _ _ st h=>wpAny_pyIter_tupleiter st h
theorem YU{P:Program}{w:World}{K:PySem.W.Frag}{tg:Expr}(it:Addr)(lo:Int)(n:Nat):Turn P w K tg (Itr lo n) [it] it (fun i h=>IsRangeIter h it (lo+(i:Nat)*1) ((n:Int) - (i:Nat)) 1) where
 mem:=by simp
 obj:=fun i h st b hb=>by
  have e:b=it:=by simpa using hb
  subst e
  exact ⟨_,st,fun v z=>by
   have z':Data.fields _=Data.cell v:=z
   cases z'⟩
 keep:=fun i h h' st k=>k it (by simp) _ st
 item:=by
  intro X hP hw hK hc i pins s σ H E I hf st hg;subst hP hw hK;obtain ⟨f0,f1,f2,f3,f4,f5⟩:=hf it (by simp);have W:=Walks.range (prog:=X.prog) (w:=X.w) (I.ok.hd hc) it lo 1 n;refine W.item i s _ _ hg st fun v h' tk hv st' kk=> ?_;obtain ⟨t,rfl⟩:=hv;have I1:Inv X pins σ H {s with heap:=h',toks:=tk}:=I.turned (fun b o hb e=>kk b o (by simpa using hb) e) f0 f1 f3 f4 f5;refine ⟨_,rfl,W0 (s:={s with heap:=h',toks:=tk}) (n:= "range_iterator") st' rfl rfl (by decide) ⟨.int (lo+i),H,I1,⟨t,?_⟩,⟨rfl,rfl⟩,st',fun b hb=>(hf b hb).1⟩⟩;rw [GG]
 done:=by
  intro X hP hw hK hc i pins s σ H E I hf st hg;subst hP hw hK;obtain ⟨f0,f1,f2,f3,f4,f5⟩:=hf it (by simp);exact A35 (I.ok.hd hc) st (by have:n<=i:=hg;omega) fun h' eb=>⟨rfl,I.turned (t':=s.toks) (fun b o hb e=>eb b o hb e) f0 f1 f3 f4 f5⟩
 self:=fun _ _ _ _ _ st h=>A36 st h
end L2
namespace L2
open PySem PySem.Spec PyProof.Rows
section
variable {X:Cx} {tg:Expr}
def jJ(K:PySem.W.Frag)(tl:TE):TI:=fun σ H R=>tl σ H fun x H1=>∃a,x = .ref a/\(∃xs,SqL K H1 a xs)/\R (Itl K a) H1
theorem c0{l:Expr}{tl:TE}(hl:PE X l tl):PI X tg l (jJ X.K tl):=by
 intro pins s σ H R I h;refine thn (hl pins s σ H _ I h) fun v s1 ⟨x,H1,I1,r1,q1⟩ => ?_;obtain ⟨a,e,⟨xs,hq⟩,q⟩:=q1;subst e
 cases r1
 obtain ⟨its,rv,p,hz⟩:=I1.list hq;refine wpAny_pyIter_list p.isList ?_;refine ⟨s1.heap.objs.size,[s1.heap.objs.size],_,_,H1,rfl,I1.kept (t':=s1.toks) fun b o e=>A5 _ e,TM a _,⟨_,B7 _ rfl,rfl,rfl⟩,fun b hb=> ?_,q⟩;have e:b=s1.heap.objs.size:=by simpa using hb
 subst e;exact I1.fpOk (AA _) (I1.hok.fresh (AA _))
theorem WM {pins : List (Addr × Obj)} {σ : St} {H : Hp} {s : Shared} {R : It -> Hp -> Prop} {E : Value -> Shared -> Prop} {lo hi : Int} {t u v : Tok} {tk : Nat} (I : Inv X pins σ H s) (h1 : -(2 ^ 62) <= lo) (h2 : lo < 2 ^ 62) (h3 : -(2 ^ 62) <= hi) (h4 : hi < 2 ^ 62)
 (q:R (Itr lo (hi - lo).toNat) H):wpAny (model X.prog X.w) X.A (pyIter (.ref s.heap.objs.size)) (PIE X pins σ tg R) E {s with heap:=s.heap.push {cls:= .type "range",data:= .fields #[.int lo t, .int hi u, .int 1 v]},toks:=tk}:=by
 refine wpAny_pyIter_range (IsRange.new ..) (small_one h1 h2 h3 h4) ?_;have I1:Inv X pins σ H {s with heap:=s.heap.push {cls:= .type "range",data:= .fields #[.int lo t, .int hi u, .int 1 v]},toks:=tk}:=I.kept fun b o e=>A5 _ e
 refine ⟨(s.heap.push {cls:= .type "range",data:= .fields #[.int lo t, .int hi u, .int 1 v]}).objs.size,[(s.heap.push {cls:= .type "range",data:= .fields #[.int lo t, .int hi u, .int 1 v]}).objs.size],_,_,H,rfl,
  I1.kept (t':=tk) fun b o e=>A5 _ e,YU _ lo (hi - lo).toNat,?_,fun b hb=> ?_,q⟩
 . have e1:lo+((0:Nat):Int)*1=lo:=by simp
   have e2:(((hi - lo).toNat:Nat):Int) - ((0:Nat):Int)=Builtin.Range.rangeSize lo hi 1:=by rw [rangeSize_one];split <;> omega
   show IsRangeIter _ _ (lo+((0:Nat):Int)*1) ((((hi - lo).toNat:Nat):Int) - ((0:Nat):Int)) 1;rw [e1,e2];exact B7 _ rfl
 . have e:b=(s.heap.push {cls:= .type "range",data:= .fields #[.int lo t, .int hi u, .int 1 v]}).objs.size:=by simpa using hb
   subst e;exact I1.fpOk (AA _) (I1.hok.fresh (AA _))
def rO(ta:TA):TI:=fun σ H R=>ta σ H fun vs H1=>∃j:Int,vs = [.int j] /\ -(2 ^ 62)<=j/\j<2 ^ 62/\R (Itr 0 j.toNat) H1
def qZ(ta:TA):TI:=fun σ H R=>ta σ H fun vs H1=>∃i j:Int,vs = [.int i, .int j]/\(-(2 ^ 62)<=i/\i<2 ^ 62 /\ -(2 ^ 62)<=j/\j<2 ^ 62)/\R (Itr i (j - i).toNat) H1
theorem dF {a:Expr} {ta:TA} {p pos:Pos} (hg:Gl X "range") (hm:X.mg "range" = none) (ha:PA X [a] ta) (hs:starEach [a] X.env = [(false,eval a X.env)]:=by rfl):PI X tg (.Call (.Name "range" p) [a] [] pos) (rO ta):=by
 intro pins s σ H R I h;refine Call_ (JA I hg hm boot_range (C7 (thn (ha pos pins s σ H _ I h) fun us s1 ⟨vs,H1,I1,r1,q1⟩ => ?_) hs rfl));obtain ⟨j,e,q1,q2,q⟩:=q1;subst e
 cases r1 with
 | cons r rr=>
  cases rr
  obtain ⟨t,rfl⟩:=r;exact call_range_1 (WM I1 (by omega) (by omega) q1 q2 (by simpa using q))
theorem dU {a b : Expr} {ta : TA} {p pos : Pos} (hg : Gl X "range") (hm : X.mg "range" = none) (ha : PA X [a, b] ta) (hs : starEach [a, b] X.env = [(false, eval a X.env), (false, eval b X.env)] := by rfl) (hs2 : starEach [b] X.env = [(false, eval b X.env)] := by rfl) :
 PI X tg (.Call (.Name "range" p) [a,b] [] pos) (qZ ta):=by
 intro pins s σ H R I h;refine Call_ (JA I hg hm boot_range (C7 (thn (ha pos pins s σ H _ I h) fun us s1 ⟨vs,H1,I1,r1,q1⟩ => ?_) (by rw [hs,hs2]) (by rw [hs2];rfl)));obtain ⟨i,j,e,⟨q1,q2,q3,q4⟩,q⟩:=q1;subst e
 cases r1 with
 | cons r rr=>
  cases rr with
  | cons r' rr=>
   cases rr
   obtain ⟨t,rfl⟩:=r;obtain ⟨t',rfl⟩:=r';exact call_range_2 (WM I1 q1 q2 q3 q4 q)
def wM(wi:TI)(g:TG)(tb:TS):TS:=fun D σ H=>wi σ H fun J H1=>∃W:Nat->Nat->St->Hp->Prop,(∃m,W 0 m σ H1)/\∀i m σ H,W i m σ H ->
 (J.stop i H/\D.nx σ H)\/(J.go i H/\∃N:St->Hp->Prop,(∀σ' H',N σ' H'->∃m',m'<m/\W (i+1) m' σ' H')/\∀x H',J.yld i H x H'->g x σ H' fun σ2 H2=>tb { D with nx:=N,ct:=N,bk:=D.nx} σ2 H2)
def SB(fp:List Addr)(h:Heap):List (Addr×Obj):=fp.filterMap fun b=>(h.get? b).map fun o=>(b,o)
theorem K0{fp:List Addr}{h:Heap}{b:Addr}{o:Obj}(hb:b ∈ fp)(e:h.get? b=some o):(b,o) ∈ SB fp h:=KN.mpr ⟨b,hb,by rw [e];rfl⟩
theorem dL{fp:List Addr}{h:Heap}{p:Addr×Obj}(hp:p ∈ SB fp h):p.1 ∈ fp/\h.get? p.1=some p.2:=by
 obtain ⟨b,hb,e⟩:=KN.mp hp
 cases q:h.get? b with
 | none=>rw [q] at e;cases e
 | some o=>
  rw [q] at e
  have e':(b,o)=p:=AY e;subst e';exact ⟨hb,q⟩
theorem Inv.pinned{pins:List (Addr×Obj)}{σ:St}{H:Hp}{s:Shared}{fp:List Addr}(I:Inv X pins σ H s)(hf:∀b ∈ fp,UX X pins H b)(ho:∀b ∈ fp,∃o,s.heap.get? b=some o/\∀v,o.data ≠ .cell v):Inv X (pins++SB fp s.heap) σ H s:=
 I.pins_of fun p hp=>(DU.mp hp).elim (fun z=>I.pin p (C6 _ z)) fun z=>by
  obtain ⟨hb,e⟩:=dL z;obtain ⟨f0,f1,f2,_⟩:=hf p.1 hb;obtain ⟨o,e',d⟩:=ho p.1 hb;rw [e] at e';cases e'
  exact ⟨e,f0,f1,f2,d⟩
theorem Inv.unpinned{pins pl:List (Addr×Obj)}{σ:St}{H:Hp}{s:Shared}(I:Inv X (pins++pl) σ H s):Inv X pins σ H s:=I.pins_of fun p hp=>I.pin p (C6 _ (JQ _ hp))
theorem iE {iter : Expr} {body : List Stmt} {wi : TI} {g : TG} {tb : TS} {pos : Pos} (hp : PassesOwn (model X.prog X.w) X.A X.env X.xe) (hc : X.calm = true) (hi : PI X tg iter wi) (hg : PG X tg g) (hb : PSs X body tb)
 (hs:∀x,foldedSetIterable iter X.env x=pure x:=by intro _;rfl):PS X (.For tg iter body [] pos) (wM wi g tb):=by
 intro pins s σ H D I h;refine wpAny_For (thn (hi pins s σ H _ I h) fun v s1 h1=>thn h1 fun itv s2 h2=> ?_) hs;obtain ⟨it,fp,tn,J,H2,e,I2,T,st2,f2,W,⟨m0,w0⟩,turn⟩:=h2;subst e;have stat:∀ {H':Hp},(∀b ∈ fp,H' b=none)->∀b ∈ fp,UX X pins H' b:=fun hn b hb=>⟨hn b hb,(f2 b hb).2⟩;refine codeAny_forLoop_any (fun n s'=>∃i σ' H',Inv X pins σ' H' s'/\tn i s'.heap/\(∀b ∈ fp,H' b=none)/\W i n σ' H') ?_ m0 ⟨0,σ,H2,I2,st2,fun b hb=>(f2 b hb).1,w0⟩;rintro n s3 ⟨i,σ3,H3,I3,st3,fr3,w3⟩;rcases turn i n σ3 H3 w3 with ⟨stop,qn⟩ | ⟨go,N,hN,step⟩
 . refine HC hp (thn (T.done X rfl rfl rfl hc i pins s3 σ3 H3 X.xe I3 (stat fr3) st3 stop) fun r s4 ⟨hr,I4⟩ => ?_);subst hr;exact SM ⟨σ3,H3,I4,qn⟩
 . refine HC hp (thn (T.item X rfl rfl rfl hc i pins s3 σ3 H3 X.xe I3 (stat fr3) st3 go) fun r s4 ⟨u,hr,h4⟩ => ?_);subst hr;refine HC hp (thn h4 fun _ s5 ⟨x,H5,I5,r5,y5,st5,fr5⟩ => ?_);have I5':=I5.pinned (stat fr5) (T.obj _ _ st5);refine HC hp (thn (hg _ s5 σ3 H5 x u _ I5' r5 (step x H5 y5)) fun _ s6 ⟨σ6,H6,I6,q6⟩ => ?_);refine HC hp (thn (hb _ s6 σ6 H6 _ I6 q6) fun f s7 q7=> ?_)
   have again:∀ {σ7:St} {H7:Hp},Inv X (pins++SB fp s5.heap) σ7 H7 s7->N σ7 H7->∃m,m<n/\∃i σ' H',Inv X pins σ' H' s7/\tn i s7.heap/\(∀b ∈ fp,H' b=none)/\W i m σ' H':=fun {σ7 H7} I7 n7=>by
    obtain ⟨m',hm,w7⟩:=hN σ7 H7 n7;refine ⟨m',hm,i+1,σ7,H7,I7.unpinned,T.keep _ _ _ st5 fun b hb o e=>(I7.pin (b,o) (C6 _ (C6 _ (K0 hb e)))).1,fun b hb=> ?_,w7⟩;obtain ⟨o,e,d⟩:=T.obj _ _ st5 b hb;exact (I7.pin (b,o) (C6 _ (C6 _ (K0 hb e)))).2.1
   cases f with
   | next=>obtain ⟨σ7,H7,I7,n7⟩:=q7;exact again I7 n7
   | cont=>obtain ⟨σ7,H7,I7,n7⟩:=q7;exact again I7 n7
   | brk=>obtain ⟨σ7,H7,I7,q7⟩:=q7;exact ⟨σ7,H7,I7.unpinned,q7⟩
   | ret v=>obtain ⟨x7,σ7,H7,I7,r7,q7⟩:=q7;exact ⟨x7,σ7,H7,I7.unpinned,r7,q7⟩
end
end L2
namespace L2
open PySem PySem.Spec PyProof.Rows
abbrev R2:=V->V->Hp->VK->Prop
def OpR(X:Cx)(f:Value->Value->Sem Value)(r:R2):Prop:=
 ∀(pins:List (Addr×Obj)) (s:Shared) (σ:St) (H:Hp) (x y:V) (v u:Value) (Q:VK),Inv X pins σ H s->RelV x v->RelV y u->r x y H Q ->
   wpAny (model X.prog X.w) X.A (f v u) (EP X pins σ Q) X.xe s
def UnR(X:Cx)(f:Value->Sem Value)(r:V->Hp->VK->Prop):Prop:=
 ∀(pins:List (Addr×Obj)) (s:Shared) (σ:St) (H:Hp) (x:V) (v:Value) (Q:VK),Inv X pins σ H s->RelV x v->r x H Q ->
   wpAny (model X.prog X.w) X.A (f v) (EP X pins σ Q) X.xe s
def MD(X:Cx)(f:Value)(r:List V->Hp->VK->Prop):Prop:=
 ∀(pins:List (Addr×Obj)) (s:Shared) (σ:St) (H:Hp) (xs:List V) (us:List Value) (Q:VK),Inv X pins σ H s->Vals xs us->r xs H Q ->
   wpAny (model X.prog X.w) X.A (call f us) (EP X pins σ Q) X.xe s
def tOp(r:R2)(ta tb:TE):TE:=fun σ H Q=>ta σ H fun x H1=>tb σ H1 fun y H2=>r x y H2 Q
def tUn(r:V->Hp->VK->Prop)(ta:TE):TE:=fun σ H Q=>ta σ H fun x H1=>r x H1 Q
def rI(C:Int->Int->Prop)(g:Int->Int->V):R2:=fun x y H Q=>∃i j,x = .int i/\y = .int j/\C i j/\Q (g i j) H
def rI0(g:Int->Int->V):R2:=fun x y H Q=>∃i j,x = .int i/\y = .int j/\Q (g i j) H
def rU(g:Int->V):V->Hp->VK->Prop:=fun x H Q=>∃i,x = .int i/\Q (g i) H
section
variable {X:Cx} {a b c:Expr} {ta tb tc:TE} {pos:Pos}
theorem wA (ha : PE X a ta) (hb : PE X b tb) {pins : List (Addr × Obj)} {s : Shared} {σ : St} {H : Hp} {R : V -> V -> Hp -> Prop} (I : Inv X pins σ H s)
 (h:ta σ H fun x H1=>tb σ H1 fun y H2=>R x y H2) {Q:Value->Shared->Prop} {f:Value->Value->Sem Value}
 (hf:∀v u s2 x y H2,Inv X pins σ H2 s2->RelV x v->RelV y u->R x y H2->wpAny (model X.prog X.w) X.A (f v u) Q X.xe s2) :
 wpAny (model X.prog X.w) X.A (eval a X.env) (fun v s₁=>wpAny (model X.prog X.w) X.A (eval b X.env) (fun u s₂=>wpAny (model X.prog X.w) X.A (f v u) Q X.xe s₂) X.xe s₁) X.xe s:=by
 refine thn (ha pins s σ H _ I h) fun v s1 ⟨x,H1,I1,r1,q1⟩ => ?_;refine thn (hb pins s1 σ H1 _ I1 q1) fun u s2 ⟨y,H2,I2,r2,q2⟩ => ?_;exact hf v u s2 x y H2 I2 r1 r2 q2
theorem yF{op:Operator}{r:R2}(ho:OpR X (binaryOp op) r)(ha:PE X a ta)(hb:PE X b tb):PE X (.BinOp a op b pos) (tOp r ta tb):=by
 intro pins s σ H Q I h;exact wpAny_BinOp (wA ha hb I h fun v u s2 x y H2 I2 rx ry q=>ho pins s2 σ H2 x y v u Q I2 rx ry q)
theorem yQ{op:UnaryOp}{r:V->Hp->VK->Prop}(ho:UnR X (unaryOp op) r)(ha:PE X a ta):PE X (.UnaryOp op a pos) (tUn r ta):=by
 intro pins s σ H Q I h;exact UnaryOp_ (thn (ha pins s σ H _ I h) fun v s1 ⟨x,H1,I1,r1,q1⟩=>ho pins s1 σ H1 x v Q I1 r1 q1)
theorem opI {f : Value -> Value -> Sem Value} {C : Int -> Int -> Prop} {g : Int -> Int -> Int}
 (rule:∀(i j:Int) (t u:Tok) (s:Shared) (Q:Value->Shared->Prop) (E:Value->Shared->Prop),C i j->Q (.int (g i j) s.toks) {s with toks:=s.toks+1}->wpAny (model X.prog X.w) X.A (f (.int i t) (.int j u)) Q E s) :
 OpR X f (rI C fun i j=> .int (g i j)):=by
 intro pins s σ H x y v u Q I rx ry h;obtain ⟨i,j,rfl,rfl,hc,q⟩:=h;obtain ⟨t,rfl⟩:=rx;obtain ⟨t',rfl⟩:=ry;exact rule i j t t' s _ _ hc ⟨.int (g i j),H,I.tok _,⟨_,rfl⟩,q⟩
theorem yC {f : Value -> Value -> Sem Value} {g : Int -> Int -> Int}
 (rule:∀(i j:Int) (t u:Tok) (s:Shared) (Q:Value->Shared->Prop) (E:Value->Shared->Prop),Q (.int (g i j) s.toks) {s with toks:=s.toks+1}->wpAny (model X.prog X.w) X.A (f (.int i t) (.int j u)) Q E s) :
 OpR X f (rI0 fun i j=> .int (g i j)):=by
 intro pins s σ H x y v u Q I rx ry h;obtain ⟨i,j,rfl,rfl,q⟩:=h;obtain ⟨t,rfl⟩:=rx;obtain ⟨t',rfl⟩:=ry;exact rule i j t t' s _ _ ⟨.int (g i j),H,I.tok _,⟨_,rfl⟩,q⟩
theorem tO {f : Value -> Value -> Sem Value} {g : Int -> Int -> Bool}
 (rule:∀(i j:Int) (t u:Tok) (s:Shared) (Q:Value->Shared->Prop) (E:Value->Shared->Prop),Q (.bool (g i j)) s->wpAny (model X.prog X.w) X.A (f (.int i t) (.int j u)) Q E s) :
 OpR X f (rI0 fun i j=> .bl (g i j)):=by
 intro pins s σ H x y v u Q I rx ry h;obtain ⟨i,j,rfl,rfl,q⟩:=h;obtain ⟨t,rfl⟩:=rx;obtain ⟨t',rfl⟩:=ry;exact rule i j t t' s _ _ ⟨.bl (g i j),H,I,rfl,q⟩
def q5(i j:Int):Prop:=0<=j/\j<=1000000/\i.natAbs<2 ^ 64
def CMul(i j:Int):Prop:=(-(2 ^ 64)<i/\i<2 ^ 64)\/(-(2 ^ 64)<j/\j<2 ^ 64)
theorem CMul.ok{i j:Int}(h:CMul i j):IntMulOk i j:=by
 rcases h with ⟨h1,h2⟩ | ⟨h1,h2⟩
 . exact .of_left (intBits_le_64 h1 h2)
 . exact .of_right (intBits_le_64 h1 h2)
theorem vJ:OpR X (binaryOp .Add) (rI0 fun i j=> .int (i+j)):=yC fun _ _ _ _ _ _ _ q=>add_int q
theorem wY:OpR X (binaryOp .Sub) (rI0 fun i j=> .int (i - j)):=yC fun _ _ _ _ _ _ _ q=>sub_int q
theorem o8:OpR X (binaryOp .Mod) (rI (fun _ j=>j≠0) fun i j=> .int (i.fmod j)):=opI fun _ _ _ _ _ _ _ hc q=>mod_int' hc q
theorem t6:OpR X (binaryOp .Pow) (rI q5 fun i j=> .int (i ^ j.toNat)):=opI fun _ _ _ _ _ _ _ hc q=>pow_int_small hc.1 hc.2.1 hc.2.2 q
theorem unI {f : Value -> Sem Value} {g : Int -> Int}
 (rule:∀(i:Int) (t:Tok) (s:Shared) (Q:Value->Shared->Prop) (E:Value->Shared->Prop),Q (.int (g i) s.toks) {s with toks:=s.toks+1}->wpAny (model X.prog X.w) X.A (f (.int i t)) Q E s) :
 UnR X f (rU fun i=> .int (g i)):=by
 intro pins s σ H x v Q I rx h;obtain ⟨i,rfl,q⟩:=h;obtain ⟨t,rfl⟩:=rx;exact rule i t s _ _ ⟨.int (g i),H,I.tok _,⟨_,rfl⟩,q⟩
theorem wI:UnR X (unaryOp .USub) (rU fun i=> .int (-i)):=unI fun _ _ _ _ _ q=>neg_int q
end
section
variable {X:Cx} {a b c:Expr} {ta tb tc:TE} {pos:Pos}
theorem sY{pins:List (Addr×Obj)}{σ:St}{H:Hp}{s:Shared}{Q:VK}{k k':Bool}(I:Inv X pins σ H s)(q:Q (.bl k) H)(e:k=k'):EP X pins σ Q (.bool k') s:=by
 subst e;exact ⟨.bl k,H,I,rfl,q⟩
theorem zI:OpR X (compareOp .Lt) (rI0 fun i j=> .bl (decide (i<j))):=tO fun _ _ _ _ _ _ _ q=>lt_int q
theorem zM:OpR X (compareOp .LtE) (rI0 fun i j=> .bl (decide (i<=j))):=tO fun _ _ _ _ _ _ _ q=>le_int q
theorem yU:OpR X (compareOp .Gt) (rI0 fun i j=> .bl (decide (j<i))):=tO fun _ _ _ _ _ _ _ q=>gt_int q
theorem uQ:OpR X (compareOp .Is) (fun x y H Q=>y = .non/\Q (.bl (decide (x = .non))) H):=by
 intro pins s σ H x y v u Q I rx ry h;obtain ⟨rfl,q⟩:=h
 cases ry
 refine is_none_gen (sY I q ?_)
 cases x <;> first
  | (cases rx;rfl)
  | (obtain ⟨t,rfl⟩:=rx;rfl)
theorem OpR.or{f:Value->Value->Sem Value}{r r':R2}(h:OpR X f r)(h':OpR X f r'):OpR X f (fun x y H Q=>r x y H Q\/r' x y H Q):=by
 intro pins s σ H x y v u Q I rx ry q;rcases q with q | q
 . exact h pins s σ H x y v u Q I rx ry q
 . exact h' pins s σ H x y v u Q I rx ry q
theorem MK(b:Expr){op:CmpOp}(h:op ≠ .In:=by decide)(h2:op ≠ .NotIn:=by decide):behindInMarks op b=false:=by
 have e1:(op==CmpOp.In)=false:=by cases op <;> first | rfl | exact absurd rfl h
 have e2:(op==CmpOp.NotIn)=false:=by cases op <;> first | rfl | exact absurd rfl h2
 cases b <;> simp [behindInMarks,e1,e2]
theorem nW{op:CmpOp}{r:R2}(ho:OpR X (compareOp op) r)(ha:PE X a ta)(hb:PE X b tb)(hm:behindInMarks op b=false):PE X (.Compare a [op] [b] pos) (tOp r ta tb):=by
 intro pins s σ H Q I h;exact wpAny_Compare1 (wA ha hb I h fun v u s2 x y H2 I2 rx ry q=>ho pins s2 σ H2 x y v u Q I2 rx ry q) hm
def s9(t:TE):TT:=fun σ H Q=>t σ H fun x H'=>∃k,x = .bl k/\Q k H'
theorem nL{op:CmpOp}{r:R2}(ho:OpR X (compareOp op) r)(ha:PE X a ta)(hb:PE X b tb)(hm:behindInMarks op b=false):PT X (.Compare a [op] [b] pos) (s9 (tOp r ta tb)):=by
 intro pins s σ H Q I h
 refine A41 (thn (ha pins s σ H _ I h) fun v s1 ⟨x,H1,I1,r1,q1⟩=>thn (hb pins s1 σ H1 _ I1 q1) fun u s2 ⟨y,H2,I2,r2,q2⟩ =>
  thn (ho pins s2 σ H2 x y v u _ I2 r1 r2 q2) fun c s3 ⟨z,H3,I3,r3,k,e,q3⟩ => ?_) hm
 subst e
 cases r3
 exact fB ⟨H3,I3,q3⟩
theorem R8:(sizeLine:Nat)<2 ^ 63:=by rw [qP];decide
theorem XZ:OpR X (binaryOp .Add) (fun x y H Q=>∃i j,x = .str i/\y = .str j/\i.length+j.length<=sizeLine/\Q (.str (i++j)) H):=by
 intro pins s σ H x y v u Q I rx ry h;obtain ⟨i,j,rfl,rfl,hz,q⟩:=h;obtain ⟨t,rfl⟩:=rx;obtain ⟨t',rfl⟩:=ry;exact add_str (fun t' tk=>⟨.str (i++j),H,I.tok _,⟨_,rfl⟩,q⟩) hz
theorem L3{x:V}{us:List Value}(r:Vals [x] us):∃u,us = [u]/\RelV x u:=by
 cases r with
 | cons r1 r2=>cases r2;exact ⟨_,rfl,r1⟩
theorem rS{x y:V}{us:List Value}(r:Vals [x,y] us):∃u w',us = [u,w']/\RelV x u/\RelV y w':=by
 cases r with
 | cons r1 r2=>
  cases r2 with
  | cons r3 r4=>cases r4;exact ⟨_,_,rfl,r1,r3⟩
theorem j8:MD X (.builtin "abs") (fun xs H Q=>∃i,xs = [.int i]/\Q (.int (if i<0 then -i else i)) H):=by
 intro pins s σ H xs us Q I r h;obtain ⟨i,rfl,q⟩:=h;obtain ⟨u,rfl,t,rfl⟩:=L3 r;exact call_abs_int fun u tk=>⟨.int (if i<0 then -i else i),H,I.tok _,⟨_,rfl⟩,q⟩
theorem d6:MD X (.type "int") (fun xs H Q=>(∃i,xs = [.int i]/\Q (.int i) H)\/∃k,xs = [.bl k]/\Q (.int (if k then 1 else 0)) H):=by
 intro pins s σ H xs us Q I r h;rcases h with ⟨i,rfl,q⟩ | ⟨k,rfl,q⟩
 . obtain ⟨u,rfl,t,rfl⟩:=L3 r;exact call_int_int ⟨.int i,H,I,⟨_,rfl⟩,q⟩
 . obtain ⟨u,rfl,r1⟩:=L3 r
   cases r1
   exact call_int_bool ⟨.int (if k then 1 else 0),H,I.tok _,⟨_,rfl⟩,q⟩
end
end L2
namespace L2
open PySem PySem.Spec PyProof.Rows
structure ObjM (h:Heap) (x dx C:Addr) (mA:Str->Option Value):Prop where
 obj:h.get? x=some (PySem.W.instObj C dx)
 ns:h.Ns1 dx mA
 ne:dx≠x
theorem dA{h:Heap}{dx:Addr}{mA:Str->Option Value}(n:h.Ns1 dx mA):∃od,h.get? dx=some od/\∀name,PySem.W.lookIn name od=some (mA name):=by
 obtain ⟨o,es,ep,ho,hd,hk,_,hm⟩:=n;refine ⟨o,ho,fun name=> ?_⟩;have e:=hm name;unfold nsFind findBy at e
 rw [<-Array.find?_toList] at e
 unfold PySem.W.lookIn;rw [hd]
 dsimp only
 split
 . rename_i y q;rw [q] at e
   exact KM some e
 . rename_i q;rw [q] at e
   have a:es.toList.any (·.refKey)=false:=by
    rw [A26];intro y hy;obtain ⟨z,t,hkey⟩:=hk y (Array.mem_toList_iff.mp hy);simp [DictEntry.refKey,hkey]
   have a':¬es.toList.any (·.refKey)=true:=by rw [a];exact F2
   rw [AR a'];exact KM some e
theorem ObjM.look{h:Heap}{x dx C:Addr}{mA:Str->Option Value}(I:ObjM h x dx C mA):∃od,PySem.W.InstAt h x (PySem.W.instObj C dx) C (some od)/\∀name,PySem.W.lookIn name od=some (mA name) :=
 let ⟨od,ho,hl⟩:=dA I.ns
 ⟨od,⟨I.obj,rfl,rfl,ho⟩,hl⟩
section
variable {prog:Program} {w:World} {A:Around} {E:Value->Shared->Prop} {s:Shared} {K:PySem.W.Frag} {x dx C f:Addr} {mA:Str->Option Value} {name:Str} {v:Value}
theorem p6 {expr : Bool} {Q : Value -> Shared -> Prop} (X : K.In s.heap) (I : ObjM s.heap x dx C mA) (hg : PySem.W.plainGet K C name = true) (hh : PySem.W.hasDictIn K C = true)
 (ha:PySem.W.findIn K (.ref C) name=some none) (hv:mA name=some v) (hv':PySem.W.handedIn v=true) (h:Q v {s with toks:=s.toks+1}) :
 wpAny (model prog w) A (getAttr (.ref x) name expr) Q E s:=by
 obtain ⟨od,J,hl⟩:=I.look;exact PySem.W.get_value X J (SF hg).1 (PySem.W.findObj_own hh ha rfl (by rw [hl,hv])) hv' h
theorem jG {pl : Sem Bool} {Q : Value × List Value -> Shared -> Prop} (X : K.In s.heap) (I : ObjM s.heap x dx C mA) (hg : PySem.W.plainGet K C name = true)
 (hf:PySem.W.findIn K (.ref C) name=some (some (.ref f))) (ht:PySem.W.isFn K (.ref f)=true) (hv:mA name=none) (h:Q (.ref f,[.ref x]) s) :
 wpAny (model prog w) A (getMethod (.ref x) name pl) Q E s:=by
 obtain ⟨od,J,hl⟩:=I.look;exact PySem.W.method_fn X J (SF hg).1 (SF hg).2 hf (EH.mp ht) (by show (PySem.W.lookIn name od).map (·.isSome)=some false;rw [hl,hv];rfl) h
theorem nU {ns : List Str} {Q : Unit -> Shared -> Prop} (X : K.In s.heap) (I : ObjM s.heap x dx C mA)
 (hs:PySem.W.findIn K (.ref C) "__setattr__" = some (some (.builtin "object.__setattr__"))) (hp:PySem.W.plainOver K C=true) (ht:PySem.W.takerIn K C name=some none) (hh:PySem.W.hasDictIn K C=true)
 (hw:PySem.Within mA ns) (hsz:ns.length<=sizeLine)
 (h:∀h',ObjM h' x dx C (fun y=>if y=name then some v else mA y)->Heap.SameBut dx s.heap h'->Q () {s with heap:=h',toks:=s.toks+2}) :
 wpAny (model prog w) A (setAttr (.ref x) name v) Q E s:=by
 obtain ⟨od,J,hl⟩:=I.look;refine PySem.W.set_plain X J hs (PySem.W.osa_open (s:={s with toks:=s.toks+1}) (r:=none) X J hp ht fun b=> ?_);obtain ⟨cd,hc,hd'⟩:=PySem.W.any_some hh;have hx:s.heap.get? x=some ⟨.ref C,some dx, .plain, #[]⟩:=I.obj;refine A7 (AX (A7 (A7 (wpAny_loadPart hx (A7 (PySem.W.Looks.here (s:={s with toks:=s.toks+1}) (PySem.W.looks_clsIn X hc) ?_))))));rw [hd'];refine AX (a:=some dx) (A7 (AX (A7 ?_)));refine wpAny_nsSet1 (s:={s with toks:=s.toks+1}) I.ns fun h' hn2 hs2=> ?_;obtain ⟨oD,esD,epD,hoD,hdD,hcD⟩:=hn2.count (PySem.Within.cons name v hw);refine A7 (wpAny_lookBehind hoD (by rw [hdD];exact pastItsLine_dict (BG hcD (by rw [C8];omega))) ?_);exact AX (h _ ⟨(hs2.2 _ (HQ I.ne)).trans I.obj,hn2,I.ne⟩ hs2)
theorem jZ {R : Result -> Shared -> Prop} {vs : List Value} {kw : List (Str × Value)} (X : K.In s.heap) (hm : PySem.W.makesIn K C = true)
 (hi:PySem.W.findIn K (.ref C) "__init__" = some (some (.ref f))) (hf:PySem.W.typeIn K (.ref f)=some (.type "function"))
 (h:codeAny (model prog w) (A.under (.builtin "type.__call__" ⟨.ref C::vs,kw⟩)) (.call (.ref f) ⟨.ref (s.heap.objs.size+1)::vs,kw⟩) (PySem.W.InitBack (s.heap.objs.size+1) R)
  {s with heap:=(s.heap.push PySem.W.emptyDict).push (PySem.W.instObj C s.heap.objs.size)}) :
 codeAny (model prog w) A (.call (.ref C) ⟨vs,kw⟩) R s:=by
 obtain ⟨hh,g,d,t,os⟩:=s;exact PySem.W.make_core (PySem.W.makes_of X hm) (PySem.W.looks_findIn X hi) (fun self=>PySem.W.bind_fn X self hf) (.inl rfl) h
end
def K7(f:Str)(v:V):List (Str×V)->List (Str×V)
 | []=> [(f,v)]
 | (g,x)::r=>if g=f then (g,v)::r else (g,x)::K7 f v r
theorem JI(f g:Str)(v:V):∀fs:List (Str×V),(K7 f v fs).lookup g=if g=f then some v else fs.lookup g
 | []=>by
  show List.lookup g [(f,v)]=_
  by_cases h:g=f
  . have hb:(g==f)=true:=EH.mpr h;simp only [List.lookup,hb,AN h]
  . have hb:(g==f)=false:=F9.mpr h
    simp only [List.lookup,hb,AR h]
 | (k,x)::r=>by
  have ih:=JI f g v r;rw [show K7 f v ((k,x)::r)=(if k=f then (k,v)::r else (k,x)::K7 f v r) from rfl]
  by_cases hk:k=f
  . rw [AN hk]
    by_cases h:g=k
    . have hb:(g==k)=true:=EH.mpr h;simp only [List.lookup,hb,AN (h.trans hk)]
    . have hb:(g==k)=false:=F9.mpr h;simp only [List.lookup,hb,AR (fun e:g=f=>h (e.trans hk.symm))]
  . rw [AR hk]
    by_cases h:g=k
    . have hb:(g==k)=true:=EH.mpr h;simp only [List.lookup,hb,AR (fun e:g=f=>hk (h.symm.trans e))]
    . have hb:(g==k)=false:=F9.mpr h;simp only [List.lookup,hb];exact ih
theorem OK(f:Str)(v:V):∀fs:List (Str×V),f ∈ (K7 f v fs).map (·.1)/\∀g,g ∈ fs.map (·.1)->g ∈ (K7 f v fs).map (·.1)
 | []=>⟨by simp [K7],fun g h=>by simp at h⟩
 | (k,x)::r=>by
  obtain ⟨i1,i2⟩:=OK f v r;rw [show K7 f v ((k,x)::r)=(if k=f then (k,v)::r else (k,x)::K7 f v r) from rfl]
  by_cases hk:k=f
  . rw [AN hk];subst hk;exact ⟨by simp,fun g h=>by simpa using h⟩
  . rw [AR hk];refine ⟨?_,fun g h=> ?_⟩
    . rw [CT];exact BV _ i1
    . rw [CT] at h ⊢
      rcases B8.mp h with e | e
      . exact B8.mpr (.inl e)
      . exact BV _ (i2 g e)
theorem L8(f:Str)(v:V):∀fs:List (Str×V),(K7 f v fs).length<=fs.length+1
 | []=>by simp [K7]
 | (k,x)::r=>by
  have ih:=L8 f v r;rw [show K7 f v ((k,x)::r)=(if k=f then (k,v)::r else (k,x)::K7 f v r) from rfl]
  by_cases hk:k=f
  . rw [AN hk,C8,C8];omega
  . rw [AR hk,C8,C8];omega
theorem RelO.some_of{v:V}{o:Option Value}(r:RelO (some v) o):∃u,o=some u/\RelV v u:=by
 cases o with
 | none=>exact (show False from r).elim
 | some u=>exact ⟨u,rfl,r⟩
theorem RelO.none_of{o:Option Value}(r:RelO none o):o=none:=by
 cases o with
 | none=>rfl
 | some u=>exact (show False from r).elim
theorem cQ{v:V}{u:Value}(r:RelV v u):PySem.W.handedIn u=true:=by
 cases v with
 | non=>cases (show u=Value.none from r);rfl
 | bl b=>cases (show u=Value.bool b from r);rfl
 | int i=>obtain ⟨t,e⟩:=(show ∃t,u=Value.int i t from r);cases e;rfl
 | str x=>obtain ⟨t,e⟩:=(show ∃t,u=Value.str x t from r);cases e;rfl
 | byt b=>obtain ⟨t,e⟩:=(show ∃t,u=Value.bytes b t from r);cases e;rfl
 | flt b=>obtain ⟨t,e⟩:=(show ∃t,u=Value.float b t from r);cases e;rfl
 | ref a=>cases (show u=Value.ref a from r);rfl
 | ty n=>cases (show u=Value.type n from r);rfl
section
variable {P:Program} {w:World} {H H':Hp} {h h':Heap} {a C dx:Addr} {fs fs':List (Str×V)}
theorem UO(hok:HOk P w H h)(e:H a=some (.ins C dx fs)):∃mA,ObjM h a dx C mA/\(∀f,RelO (fs.lookup f) (mA f))/\PySem.Within mA (fs.map (·.1))/\fs.length<=1000/\H dx=some (.own a):=by
 obtain ⟨d,z,ne,ob,mA,n,r,q⟩:=(show ObjOk P w H h a (.ins C dx fs) from hok a _ e);exact ⟨mA,⟨ob,n,ne⟩,r,q,z,d⟩
end
structure Cls (K:PySem.W.Frag) (C:Addr):Prop where
 pg:PySem.W.plainGet K C Str.empty=true
 hd:PySem.W.hasDictIn K C=true
 po:PySem.W.plainOver K C=true
 sa:PySem.W.findIn K (.ref C) "__setattr__" = some (some (.builtin "object.__setattr__"))
theorem Cls.get{K:PySem.W.Frag}{C:Addr}(c:Cls K C)(f:Str):PySem.W.plainGet K C f=true:=c.pg
def NoAttr(K:PySem.W.Frag)(C:Addr)(f:Str):Prop:=PySem.W.findIn K (.ref C) f=some none
theorem NoAttr.taker{K:PySem.W.Frag}{C:Addr}{f:Str}(n:NoAttr K C f):PySem.W.takerIn K C f=some none:=by
 unfold PySem.W.takerIn;rw [show PySem.W.findIn K (.ref C) f=some none from n];rfl
structure Con (K:PySem.W.Frag) (C:Addr) (f:Str) (v:V) (u:Value):Prop where
 at_:PySem.W.findIn K (.ref C) f=some (some u)
 rel:RelV v u
 get:PySem.W.specialIn K u "__get__" = some none
 cp:PySem.W.copiedNames.contains f=false
structure Meth (K:PySem.W.Frag) (C:Addr) (m:Str) (f:Addr):Prop where
 at_:PySem.W.findIn K (.ref C) m=some (some (.ref f))
 fn:PySem.W.isFn K (.ref f)=true
 kp:PySem.W.keepIn K (.ref f)=true
section
variable {X:Cx} {pins:List (Addr×Obj)} {σ:St} {H:Hp} {s:Shared} {a C dx:Addr} {fs:List (Str×V)} {f:Str} {v:V} {A:Around} {E:Value->Shared->Prop}
theorem YA {b : Bool} {Q : Value -> Shared -> Prop} (I : Inv X pins σ H s) (e : H a = some (.ins C dx fs)) (c : Cls X.K C) (n : NoAttr X.K C f) (l : fs.lookup f = some v)
 (h:∀u s',Inv X pins σ H s'->RelV v u->Q u s'):wpAny (model X.prog X.w) A (getAttr (.ref a) f b) Q E s:=by
 obtain ⟨mA,O,r,_,_,_⟩:=UO I.hok e;obtain ⟨u,hu,ru⟩:=RelO.some_of (v:=v) (o:=mA f) (by rw [<-l];exact r f);exact p6 I.kIn O (c.get f) c.hd n hu (cQ ru) (h u _ (I.tok _) ru)
theorem RZ {m : Str} {g : Addr} {pl : Sem Bool} {Q : Value × List Value -> Shared -> Prop} (I : Inv X pins σ H s) (e : H a = some (.ins C dx fs)) (c : Cls X.K C) (k : Meth X.K C m g) (l : fs.lookup m = none)
 (h:Q (.ref g,[.ref a]) s):wpAny (model X.prog X.w) A (getMethod (.ref a) m pl) Q E s:=by
 obtain ⟨mA,O,r,_,_,_⟩:=UO I.hok e;have hn:mA m=none:=RelO.none_of (by rw [<-l];exact r m);exact jG I.kIn O (c.get m) k.at_ k.fn hn h
theorem XR {y : V} {u : Value} {Q : Unit -> Shared -> Prop} (I : Inv X pins σ H s) (e : H a = some (.ins C dx fs)) (c : Cls X.K C) (n : NoAttr X.K C f) (hl : fs.length < 1000) (ry : RelV y u)
 (h:∀s',Inv X pins σ (upd H a (.ins C dx (K7 f y fs))) s'->Q () s'):wpAny (model X.prog X.w) A (setAttr (.ref a) f u) Q E s:=by
 obtain ⟨mA,O,r,wi,_,ho⟩:=UO I.hok e;have hz:(fs.map (·.1)).length<=sizeLine:=by rw [A4,qP];omega
 refine nU I.kIn O c.sa c.po n.taker c.hd wi hz fun h' O' sb=>h _ ?_;have hd:∃o,h'.get? dx=some o:=let ⟨o,_,_,e',_⟩:=O'.ns;⟨o,e'⟩;refine I.write (x:=a) (e:=dx) (by rw [e];exact DJ) (.inr ho) (fun b q hb z=>(sb.2 b hb).trans z) hd ?_;refine ⟨by rw [BP O.ne];exact ho,?_,O.ne,O'.obj,_,O'.ns,fun g=> ?_,fun g hg=> ?_⟩
 . have:=L8 f y fs;omega
 . show RelO ((K7 f y fs).lookup g) (if g=f then some u else mA g);rw [JI]
   by_cases q:g=f
   . rw [AN q,AN q];exact ry
   . rw [AR q,AR q];exact r g
 . by_cases q:g=f
   . rw [q];exact (OK f y fs).1
   . refine (OK f y fs).2 g (wi g fun z=>hg ?_);show (if g=f then some u else mA g)=none;rw [AR q];exact z
theorem Inv.made (I : Inv X pins σ H s) : Inv X pins σ (upd (upd H s.heap.objs.size (.own (s.heap.objs.size + 1))) (s.heap.objs.size + 1) (.ins C s.heap.objs.size []))
 {s with heap:=(s.heap.push PySem.W.emptyDict).push (PySem.W.instObj C s.heap.objs.size)}:=by
 have e1:(s.heap.push PySem.W.emptyDict).get? s.heap.objs.size=some PySem.W.emptyDict:=B7 s.heap rfl
 have e2:((s.heap.push PySem.W.emptyDict).push (PySem.W.instObj C s.heap.objs.size)).get? (s.heap.objs.size+1)=some (PySem.W.instObj C s.heap.objs.size):=by
  have:=B7 (s.heap.push PySem.W.emptyDict) (o:=PySem.W.instObj C s.heap.objs.size) rfl
  rwa [DC] at this
 have e3:(s.heap.push PySem.W.emptyDict).Ns s.heap.objs.size (fun _=>none):=⟨PySem.W.emptyDict, #[],_,e1,rfl,(fun e he=>absurd he (by simp)),fun _=>rfl⟩;have I1:=I.laid (a:=s.heap.objs.size) (o:= .own (s.heap.objs.size+1)) (h':=s.heap.push PySem.W.emptyDict) (t':=s.toks) (fun b u q=>A5 _ q) (AA _) ⟨_,e1⟩;refine I1.laid (a:=s.heap.objs.size+1) (o:= .ins C s.heap.objs.size []) (t':=s.toks) (fun b u q=>A5 _ q) (sE (DC _ _)) ?_;have ne:s.heap.objs.size≠s.heap.objs.size+1:=D4 (HR _);refine ⟨by rw [BP ne,C9],DZ _,ne,e2,fun _=>none,(Heap.Ns1.of_empty e3).at fun o q=>A5 _ q,fun _=>DJ,fun y hy=>absurd rfl hy⟩
theorem lZ {prog : Program} {w : World} {env : Env} {e : Expr} {f : Str} {pos : Pos} {s : Shared} {Q : Value -> Shared -> Prop} (hb : attributeBase e f env (eval e env) = eval e env)
 (h:wpAny (model prog w) A (eval e env) (fun o s₁=>wpAny (model prog w) A (getAttr o f true) Q E s₁) E s):wpAny (model prog w) A (eval (.Attribute e f pos) env) Q E s:=
 Attribute_any_ h (by rw [arm_eval_Attribute,hb])
end
def cP(K:PySem.W.Frag)(ta:TE)(f:Str):TE:=fun σ H Q=>ta σ H fun x H1=>∃a C dx fs v,x = .ref a/\H1 a=some (.ins C dx fs)/\Cls K C/\NoAttr K C f/\fs.lookup f=some v/\Q v H1
def yB(K:PySem.W.Frag)(ta tv:TE)(f:Str):TS:=fun D σ H=>tv σ H fun y H1=>ta σ H1 fun x H2=>∃a C dx fs,x = .ref a/\H2 a=some (.ins C dx fs)/\Cls K C/\NoAttr K C f/\fs.length<1000 /\
 D.nx σ (upd H2 a (.ins C dx (K7 f y fs)))
section
variable {X:Cx} {o e value:Expr} {f:Str} {pos pos' tpos:Pos} {ta tv:TE}
theorem RU(he:PE X e ta)(hb:attributeBase e f X.env (eval e X.env)=eval e X.env):PE X (.Attribute e f pos) (cP X.K ta f):=by
 intro pins s σ H Q I h;refine lZ hb (thn (he pins s σ H _ I h) fun u s1 ⟨x,H1,I1,rx,a,C,dx,fs,v,ex,ea,c,n,l,q⟩ => ?_);subst ex;obtain rfl:u=Value.ref a:=rx;exact YA I1 ea c n l fun u' s2 I2 ru=>⟨v,H1,I2,ru,q⟩
theorem vT(ha:PE X o ta)(hv:PE X value tv)(hs:swapsWith value (some (.Attribute o f pos')) pos.line X.env=pure false):PS X (.Assign [.Attribute o f pos'] value pos) (yB X.K ta tv f):=by
 intro pins s σ H D I h;refine plainObj_wpAny_Assign_Attribute (thn (hv pins s σ H _ I h) fun u s1 ⟨y,H1,I1,ry,q⟩=>thn (ha pins s1 σ H1 _ I1 q) fun ov s2 ⟨x,H2,I2,rx,a,C,dx,fs,ex,ea,c,n,l,q2⟩ => ?_) hs;subst ex;obtain rfl:ov=Value.ref a:=rx;exact XR I2 ea c n l ry fun s3 I3=>⟨σ,_,I3,q2⟩
theorem rB {pl : Sem Bool} {m : Str} {apos : Pos} {args : List Expr} {pins : List (Addr × Obj)} {s : Shared} {σ : St} {H : Hp} {Q : Value -> Shared -> Prop} {te : TE} (he : PE X e te) (I : Inv X pins σ H s)
 (h:te σ H fun x H1=>∃a C dx fs g,x = .ref a/\H1 a=some (.ins C dx fs)/\Cls X.K C/\Meth X.K C m g/\fs.lookup m=none /\
  ∀s1,Inv X pins σ H1 s1->wpAny (model X.prog X.w) X.A (callWith pos (.ref g) [.ref a] (backTo pos (starEach args X.env)) (backToKw pos (keywordEach [] X.env))) Q X.xe s1)
 (ht:eval (.Call (.Attribute e m apos) args [] pos) X.env=(do
  let ov <-eval e X.env
  standAt apos.atName
  let (f,first) <-holding [ov] (getMethod ov m pl)
  callWith pos f first (backTo pos (starEach args X.env)) (backToKw pos (keywordEach [] X.env)))) :
 wpAny (model X.prog X.w) X.A (eval (.Call (.Attribute e m apos) args [] pos) X.env) Q X.xe s:=by
 refine xN (pl:=pl) (thn (he pins s σ H _ I h) fun u s1 ⟨x,H1,I1,rx,a,C,dx,fs,g,ex,ea,c,k,l,q⟩ => ?_) ht;subst ex;obtain rfl:u=Value.ref a:=rx;exact RZ I1 ea c k l (q s1 I1)
end
section
variable {X:Cx} {pins:List (Addr×Obj)} {σ:St} {H:Hp} {s:Shared} {A:Around} {E:Value->Shared->Prop} {Q:Value->Shared->Prop} {c:Value} {b:Bool}
inductive TyOf (K:PySem.W.Frag) (H:Hp):V->Value->Prop where
 | non:TyOf K H .non (.type "NoneType")
 | bl (x:Bool):TyOf K H (.bl x) (.type "bool")
 | int (i:Int):TyOf K H (.int i) (.type "int")
 | str (x:Str):TyOf K H (.str x) (.type "str")
 | flt (x:UInt64):TyOf K H (.flt x) (.type "float")
 | lst {a:Addr} {xs:List V} (e:H a=some (.lst xs)):TyOf K H (.ref a) (.type "list")
 | frz {a:Addr} {o:Obj} {xs:List V} (e:H a=some (.frz o (.lst xs))):TyOf K H (.ref a) (.type "list")
 | tup {a:Addr} {xs:List V} (e:H a=some (.tup xs)):TyOf K H (.ref a) (.type "tuple")
 | dK {a:Addr} {kvs:List (Key×V)} (e:H a=some (.dK kvs)):TyOf K H (.ref a) (.type "dict")
 | dT {a:Addr} {kvs:List (List Key×V)} (e:H a=some (.dT kvs)):TyOf K H (.ref a) (.type "dict")
 | ins {a C dx : Addr} {fs : List (Str × V)} (e : H a = some (.ins C dx fs)) (cl : Cls K C) (ha : PySem.W.findIn K (.ref C) "__class__" = some (some (.builtin "object.__class__")))
  (hn:PySem.W.specialIn K (.builtin "object.__class__") "__get__" = some (some (.builtin "getset_descriptor.__get__"))) (htk:PySem.W.takesIn K (.builtin "object.__class__")=some true)
  (hm:PySem.W.mroIn K C (.type "object")=some true):TyOf K H (.ref a) (.ref C)
end
end L2
namespace L2
open PySem PySem.Spec PyProof.Rows
structure Room (k:Nat) (A:Around):Prop where
 hd:A.handled=none
 dp:A.depth+3*k+5<recursionLimit
 un:A.units+16*k+200<cLine
theorem Room.mono{j k:Nat}{A:Around}(r:Room k A)(h:j<=k):Room j A:=⟨r.hd,by have:=r.dp;omega,by have:=r.un;omega⟩
theorem Room.deeper{k:Nat}{A:Around}(r:Room (k+1) A)(env:Env):Room k (A.deeper env) :=
 ⟨r.hd,by have:=r.dp;show A.depth+1+3*k+5<_;omega,by have:=r.un;show A.units+3+16*k+200<_;omega⟩
theorem YB{A:Around}{C:Addr}{us:List Value}{kw:List (Str×Value)}:(A.under (.builtin "type.__call__" ⟨.ref C::us,kw⟩)).depth=A.depth+1:=by
 first | rfl | simp [Around.under,Code.weight,Code.isCreation,Code.isGuard,Code.isCaller,Code.frames,Code.isFrame,guardIds]
theorem Y6{A:Around}{C:Addr}{us:List Value}{kw:List (Str×Value)}:(A.under (.builtin "type.__call__" ⟨.ref C::us,kw⟩)).units=A.units+1:=by
 first | rfl | simp [Around.under,Code.cUnits,Code.frames,Code.isFrame]
theorem Room.make{k:Nat}{A:Around}(r:Room (k+1) A)(C:Addr)(us:List Value)(kw:List (Str×Value)):Room k (A.under (.builtin "type.__call__" ⟨.ref C::us,kw⟩)) :=
 ⟨r.hd,by have:=r.dp;rw [YB];omega,by have:=r.un;rw [Y6];omega⟩
theorem Room.depth{k:Nat}{A:Around}(r:Room k A):A.depth<recursionLimit:=by have:=r.dp;omega
theorem Room.units{k:Nat}{A:Around}(r:Room k A):A.units+64<cLine:=by have:=r.un;omega
def tNil:TA:=fun _ H Q=>Q [] H
def SQ(ta:TE)(tr:TA):TA:=fun σ H Q=>ta σ H fun x H1=>tr σ H1 fun xs H2=>Q (x::xs) H2
section
variable {X:Cx} {e:Expr} {es:List Expr} {te:TE} {t:TA} {pos:Pos}
theorem S7:PA X [] tNil:=fun _ _ _ _ H Q I h=>Calls.spliced_nil ⟨[],H,I, .nil,h⟩
theorem NJ(ha:PE X e te)(hr:PA X es t)(hs:starEach (e::es) X.env=(false,eval e X.env)::starEach es X.env:=by rfl):PA X (e::es) (SQ te t):=by
 intro pos pins s σ H Q I h;rw [hs];show wpAny _ _ (spliced ((false,eval e X.env)::backTo pos (starEach es X.env))) _ _ s;refine Calls.spliced_cons (thn (ha pins s σ H _ I h) fun u s1 ⟨x,H1,I1,r1,q1⟩ => ?_);exact thn (hr pos pins s1 σ H1 _ I1 q1) fun us s2 ⟨xs,H2,I2,r2,q2⟩=>⟨x::xs,H2,I2, .cons r1 r2,q2⟩
def yK(t:TA):TE:=fun σ H Q=>t σ H fun xs H1=>xs.length<=sizeLine/\∀p,H1 p=none->Q (.ref p) (upd H1 p (.tup xs))
def yE(t:TA):TE:=fun σ H Q=>t σ H fun xs H1=>xs.length<=sizeLine/\∀p,H1 p=none->Q (.ref p) (upd H1 p (.lst xs))
theorem vS{x1}(h:PA X es t):PE X (.Tuple es x1 pos) (yK t):=by
 intro pins s σ H Q I hq;refine wpAny_Tuple_spliced (thn (h pos pins s σ H _ I hq) fun us s1 ⟨xs,H1,I1,r,z,q⟩=>⟨by rw [<-r.length];exact z,?_⟩);have hf:H1 s1.heap.objs.size=none:=I1.hok.fresh (AA _);refine ⟨.ref s1.heap.objs.size,upd H1 s1.heap.objs.size (.tup xs),I1.laid (t':=s1.toks) (fun b u e=>A5 _ e) (AA _) ?_,rfl,q _ hf⟩;exact ⟨z,us,r,⟨_,B7 _ rfl,rfl,_,rfl⟩⟩
theorem uM(h:PA X es t):PE X (.List es pos) (yE t):=by
 intro pins s σ H Q I hq;refine wpAny_List_spliced (thn (h pos pins s σ H _ I hq) fun us s1 ⟨xs,H1,I1,r,z,q⟩=>⟨by rw [<-r.length];exact z,?_⟩);have hf:H1 s1.heap.objs.size=none:=I1.hok.fresh (AA _);refine ⟨.ref s1.heap.objs.size,upd H1 s1.heap.objs.size (.lst xs),I1.laid (t':=s1.toks) (fun b u e=>A5 _ e) (AA _) ?_,rfl,q _ hf⟩;exact ⟨z,us,0,r,B7 _ rfl⟩
end
abbrev Sp:=List V->Hp->VK->XK->Prop
abbrev CXT:=List Env->Hp->Shared->XK->Value->Shared->Prop
structure Env0 (P:Program) (w:World) (K:PySem.W.Frag) (mg:Str->Option Value) (base:Heap) (A:Around) (outer:List Env) (s:Shared) (H:Hp):Prop where
 frames:A.frames=some outer
 mod:Mod K mg base
 bs:∀b o,base.get? b=some o->s.heap.get? b=some o/\H b=none
 bsz:base.objs.size<=s.heap.objs.size
 funs:s.heap.FunFrames base outer
 frf:∀b ∈ frs outer,H b=none
 hok:HOk P w H s.heap
 bare:AllBare s.gens
 tb:∀p ∈ RH K,∃ps,H p=some (.tbl ps)
def CE(outer:List Env)(P:Program)(w:World)(H:Hp)(s:Shared)(Q:VK)(u:Value)(s':Shared):Prop:=
 ∃v H',s'.os=s.os/\AllBare s'.gens/\Un (frs outer) [] H H' s.heap s'.heap/\HOk P w H' s'.heap/\RelV v u/\Q v H'
def CR(CX:CXT)(outer:List Env)(P:Program)(w:World)(H:Hp)(s:Shared)(Q:VK)(E:XK)(r:Result)(s':Shared):Prop:=
 match r with
 | .ok (.ret u)=>CE outer P w H s Q u s'
 | .ok _=>False
 | .error e=>CX outer H s E e s'
structure FnOk (P:Program) (w:World) (K:PySem.W.Frag) (mg:Str->Option Value) (base:Heap) (CX:CXT) (k:Nat) (f:Addr) (fd:FuncData) (ps:List Str) (sp:Sp):Prop where
 len:∀vs H Q E,sp vs H Q E->vs.length=ps.length
 run:∀(A:Around) (outer:List Env) (s:Shared) (H:Hp) (args:Args) (us:List Value) (vs:List V) (Q:VK) (E:XK),Room k A->Env0 P w K mg base A outer s H->BindsTo s fd args (ps.zip us)->Vals vs us->sp vs H Q E ->
  codeAny (model P w) A (.call (.ref f) args) (CR CX outer P w H s Q E) s
theorem FnOk.imp {P : Program} {w : World} {K : PySem.W.Frag} {mg : Str -> Option Value} {base : Heap} {CX : CXT} {k : Nat} {f : Addr} {fd : FuncData} {ps : List Str} {sp sp' : Sp} (F : FnOk P w K mg base CX k f fd ps sp)
 (h:∀vs H Q E,sp' vs H Q E->sp vs H Q E):FnOk P w K mg base CX k f fd ps sp' :=
 ⟨fun vs H Q E q=>F.len vs H Q E (h _ _ _ _ q),fun A outer s H args us vs Q E hr he hb hv hs=>F.run A outer s H args us vs Q E hr he hb hv (h _ _ _ _ hs)⟩
theorem Env0.make {P : Program} {w : World} {K : PySem.W.Frag} {mg : Str -> Option Value} {base : Heap} {A : Around} {outer : List Env} {s : Shared} {H : Hp} (e : Env0 P w K mg base A outer s H) (C : Addr) (us : List Value) (kw : List (Str × Value)) :
 Env0 P w K mg base (A.under (.builtin "type.__call__" ⟨.ref C::us,kw⟩)) outer s H:=⟨by first | exact e.frames | (simpa [Around.under,Code.envs,Code.isFrame,pushEnvs] using e.frames),e.mod,e.bs,e.bsz,e.funs,e.frf,e.hok,e.bare,e.tb⟩
section
variable {X:Cx} {pins:List (Addr×Obj)} {σ:St} {H:Hp} {s s':Shared}
theorem Inv.env0(I:Inv X pins σ H s):Env0 X.prog X.w X.K X.mg X.base X.A X.stack s H:=
 ⟨I.ok.frames,I.ok.mod,I.bs,BG I.ok.bsz I.sz,I.stack,I.stkFree,I.hok,I.bare,I.tb⟩
theorem Inv.after{Q:VK}{u:Value}(I:Inv X pins σ H s)(h:CE X.stack X.prog X.w H s Q u s'):EP X pins σ Q u s':=by
 obtain ⟨v,H',os,bare,un,hok,r,q⟩:=h;obtain ⟨hh,g,d,t,os'⟩:=s';obtain rfl:os'=s.os:=os;exact ⟨v,H',I.call (h':=hh) (g':=g) (d':=d) (t':=t) (ch:= []) un hok bare (fun b z=>absurd z (by simp)),r,q⟩
end
def ZH(sp:Sp)(dvs:List V)(E:XK)(t:TA):TE:=fun σ H Q=>t σ H fun vs H1=>sp (vs++dvs) H1 Q E
def ZZ(C:Addr)(m:Str)(sp:Sp)(dvs:List V)(E:XK)(ta:TE)(t:TA):TE:=fun σ H Q=>ta σ H fun x H1=>∃a dx fs,x = .ref a/\H1 a=some (.ins C dx fs)/\fs.lookup m=none /\
 t σ H1 fun vs H2=>sp (x::(vs++dvs)) H2 Q E
def r0(C:Addr)(sp:Sp)(dvs:List V)(E:XK)(t:TA):TE:=fun σ H Q=>t σ H fun vs H1=>∀x dx,H1 x=none->H1 dx=none->dx≠x ->
 sp (.ref x::(vs++dvs)) (upd (upd H1 dx (.own x)) x (.ins C dx [])) (fun v H2=>v = .non/\Q (.ref x) H2) E
def Binds(K:PySem.W.Frag)(fd:FuncData)(ps:List Str)(ds:List Value):Prop:=
 ∀(s:Shared) (us:List Value),K.In s.heap->(us++ds).length=ps.length->BindsTo s fd ⟨us,[]⟩ (ps.zip (us++ds))
theorem Binds.all{K:PySem.W.Frag}{fd:FuncData}{ps:List Str}(h:∀us:List Value,us.length=ps.length->bindArgs fd ⟨us,[]⟩=pure (ps.zip us)):Binds K fd ps []:=fun s us _ hl=>by
 rw [DV] at hl ⊢
 exact .of_eq (h us hl)
def OH(CX:CXT)(X:Cx)(E:XK):Prop:=∀(pins:List (Addr×Obj)) (σ:St) (H:Hp) (s:Shared) (e:Value) (s':Shared),Inv X pins σ H s->CX X.stack H s E e s'->X.xe e s'
section
variable {X:Cx} {CX:CXT} {k:Nat} {f C:Addr} {fd:FuncData} {ps:List Str} {sp:Sp} {dvs:List V} {ds:List Value} {E:XK} {x m:Str} {p pos apos:Pos} {e o:Expr} {es:List Expr} {ta:TE} {t:TA}
theorem iL {pins : List (Addr × Obj)} {σ : St} {H : Hp} {s : Shared} {Q : VK} {us : List Value} {vs : List V} (F : FnOk X.prog X.w X.K X.mg X.base CX k f fd ps sp) (hr : Room k X.A) (hb : Binds X.K fd ps ds) (hd : Vals dvs ds) (hx : OH CX X E)
 (I:Inv X pins σ H s) (r:Vals vs us) (h:sp (vs++dvs) H Q E):wpAny (model X.prog X.w) X.A (call (.ref f) us) (EP X pins σ Q) X.xe s:=by
 have r2:Vals (vs++dvs) (us++ds):=r.append hd;have hl:(us++ds).length=ps.length:=by rw [<-r2.length];exact F.len _ _ _ _ h
 refine wpAny_call (fC (F.run X.A X.stack s H ⟨us,[]⟩ (us++ds) (vs++dvs) Q E hr I.env0 (hb s us I.kIn hl) r2 h) fun r s' hq=> ?_)
 cases r with
 | error e=>exact hx pins σ H s e s' I hq
 | ok fl=>
  cases fl with
  | ret u=>exact I.after hq
  | next=>exact False.elim hq
  | brk=>exact False.elim hq
  | cont=>exact False.elim hq
theorem oI (F : FnOk X.prog X.w X.K X.mg X.base CX k f fd ps sp) (hr : Room k X.A) (hg : Gl X x) (hm : X.mg x = some (.ref f)) (hk : PySem.W.keepIn X.K (.ref f) = true) (hb : Binds X.K fd ps ds) (hd : Vals dvs ds) (hx : OH CX X E)
 (ha:PA X (e::es) t) (hdb:(x==("__debug__" : Str))=false:=by decide) (he:starEach (e::es) X.env=(false,eval e X.env)::starEach es X.env:=by rfl) (hpl:(backTo pos (starEach es X.env)).any (·.1)=false:=by rfl) :
 PE X (.Call (.Name x p) (e::es) [] pos) (ZH sp dvs E t):=by
 intro pins s σ H Q I h;refine H9 (UF I hg hm ?_ hdb);refine U1 (h₀:=X.base) I.ok.mod.kin hk (thn (ha pos pins s σ H _ I h) fun us s1 ⟨vs,H1,I1,r,q⟩=>⟨I1.kIn,?_⟩) he hpl;exact iL F hr hb hd hx I1 r q
theorem UQ {pl : Sem Bool} (he : PE X o ta) (c : Cls X.K C) (hm : Meth X.K C m f) (F : FnOk X.prog X.w X.K X.mg X.base CX k f fd ps sp) (hr : Room k X.A) (hb : Binds X.K fd ps ds) (hd : Vals dvs ds) (hx : OH CX X E) (ha : PA X (e :: es) t)
 (hst:starEach (e::es) X.env=(false,eval e X.env)::starEach es X.env:=by rfl) (hpl:(backTo pos (starEach es X.env)).any (·.1)=false:=by rfl)
 (ht:eval (.Call (.Attribute o m apos) (e::es) [] pos) X.env=(do
  let ov <-eval o X.env
  standAt apos.atName
  let (f,first) <-holding [ov] (getMethod ov m pl)
  callWith pos f first (backTo pos (starEach (e::es) X.env)) (backToKw pos (keywordEach [] X.env))):=by rfl) :
 PE X (.Call (.Attribute o m apos) (e::es) [] pos) (ZZ C m sp dvs E ta t):=by
 intro pins s σ H Q I h;refine xN (pl:=pl) (thn (he pins s σ H _ I h) fun u s1 ⟨x,H1,I1,rx,a,dx,fs,ex,ea,l,q⟩ => ?_) ht;subst ex;obtain rfl:u=Value.ref a:=rx;refine RZ I1 ea c hm l ?_;refine U1 (first:= [.ref a]) (h₀:=X.base) I.ok.mod.kin hm.kp (thn (ha pos pins s1 σ H1 _ I1 q) fun us s2 ⟨vs,H2,I2,r,q2⟩=>⟨I2.kIn,?_⟩) hst hpl;exact iL (us:= .ref a::us) (vs:= .ref a::vs) F hr hb hd hx I2 (.cons rfl r) q2
structure Mk (K:PySem.W.Frag) (C f:Addr):Prop where
 makes:PySem.W.makesIn K C=true
 init:PySem.W.findIn K (.ref C) "__init__" = some (some (.ref f))
 fn:PySem.W.isFn K (.ref f)=true
 kp:PySem.W.keepIn K (.ref C)=true
theorem kJ {pins : List (Addr × Obj)} {σ : St} {H : Hp} {s : Shared} {Q : VK} {us : List Value} {vs : List V} (M : Mk X.K C f) (F : FnOk X.prog X.w X.K X.mg X.base CX k f fd ps sp) (hr : Room (k + 1) X.A) (hb : Binds X.K fd ps ds) (hd : Vals dvs ds)
 (hx:OH CX X E) (I:Inv X pins σ H s) (r:Vals vs us)
 (h:∀x dx,H x=none->H dx=none->dx≠x->sp (.ref x::(vs++dvs)) (upd (upd H dx (.own x)) x (.ins C dx [])) (fun v H2=>v = .non/\Q (.ref x) H2) E) :
 wpAny (model X.prog X.w) X.A (call (.ref C) us) (EP X pins σ Q) X.xe s:=by
 have hq:=h (s.heap.objs.size+1) s.heap.objs.size (I.hok.fresh (xS _)) (I.hok.fresh (AA _)) (D4 (HR _));have I2:=Inv.made (C:=C) I;have r2:Vals (V.ref (s.heap.objs.size+1)::(vs++dvs)) (Value.ref (s.heap.objs.size+1)::(us++ds)):= .cons rfl (r.append hd)
 have hl:(Value.ref (s.heap.objs.size+1)::us++ds).length=ps.length:=by
  have e:=r2.length;rw [F.len _ _ _ _ hq] at e
  exact e.symm
 refine wpAny_call (jZ (f:=f) I.kIn M.makes M.init (EH.mp M.fn) (fC (F.run _ X.stack _ _ ⟨Value.ref (s.heap.objs.size+1)::us,[]⟩ (Value.ref (s.heap.objs.size+1)::(us++ds)) _ _ E (hr.make C us [])
  (I2.env0.make C us []) (hb _ (Value.ref (s.heap.objs.size+1)::us) I2.kIn hl) r2 hq) fun r s' hq' => ?_))
 cases r with
 | error e=>exact hx pins σ _ _ e s' I2 hq'
 | ok fl=>
  cases fl with
  | ret u=>
   obtain ⟨v,H',I3,rv,ev,q3⟩:=I2.after hq';subst ev
   exact ⟨rv,⟨V.ref (s.heap.objs.size+1),H',I3,rfl,q3⟩⟩
  | next=>exact False.elim hq'
  | brk=>exact False.elim hq'
  | cont=>exact False.elim hq'
theorem m5 (M : Mk X.K C f) (F : FnOk X.prog X.w X.K X.mg X.base CX k f fd ps sp) (hr : Room (k + 1) X.A) (hg : Gl X x) (hm : X.mg x = some (.ref C)) (hb : Binds X.K fd ps ds) (hd : Vals dvs ds) (hx : OH CX X E)
 (ha:PA X (e::es) t) (hdb:(x==("__debug__" : Str))=false:=by decide) (he:starEach (e::es) X.env=(false,eval e X.env)::starEach es X.env:=by rfl) (hpl:(backTo pos (starEach es X.env)).any (·.1)=false:=by rfl) :
 PE X (.Call (.Name x p) (e::es) [] pos) (r0 C sp dvs E t):=by
 intro pins s σ H Q I h;refine H9 (UF I hg hm ?_ hdb);refine U1 (h₀:=X.base) I.ok.mod.kin M.kp (thn (ha pos pins s σ H _ I h) fun us s1 ⟨vs,H1,I1,r,q⟩=>⟨I1.kIn,?_⟩) he hpl;exact kJ M F hr hb hd hx I1 r q
end
section
variable {X:Cx} {CX:CXT} {k:Nat} {f C:Addr} {fd:FuncData} {ps ks:List Str} {sp:Sp} {E:XK} {x m:Str} {p pos apos kpos:Pos} {e o:Expr} {es:List Expr} {kws:List Keyword} {te ta:TE} {t tk:TA} {nm:Option Str}
structure KBinds (K:PySem.W.Frag) (fd:FuncData) (ps ks:List Str) (g:List Value->List Value->List Value) (gV:List V->List V->List V):Prop where
 to:∀(s:Shared) (us ws:List Value),K.In s.heap->(g us ws).length=ps.length->BindsTo s fd ⟨us,ks.zip ws⟩ (ps.zip (g us ws))
 rel:∀ {vs:List V} {us:List Value} {zs:List V} {ws:List Value},Vals vs us->Vals zs ws->Vals (gV vs zs) (g us ws)
variable {g:List Value->List Value->List Value} {gV:List V->List V->List V}
end
structure FnScope (N P:List Str) (sc:Scope):Prop where
 kind:sc.kind = .function
 co:sc.isCoroutine=false
 gen:sc.isGenerator=false
 nd:N.Nodup
 pre:N.take P.length=P
 par:∀x ∈ P,sc.names.lookup x=some .local\/sc.names.lookup x=some .cell
 nofree:∀y ∈ sc.names,y.2 ≠ .free
theorem SU{kindOf:Str->Option NameKind}{x:Str}:∀ {binds:List (Str×Value)} {m:Str->Option Value},(∀v,(x,v) ∉ binds)->bindL kindOf binds m x=m x
 | [],_,_=>rfl
 | (n,v)::r,m,h=>by
  unfold bindL;rw [SU fun w hw=>h w (List.mem_cons_of_mem _ hw)]
  split
  . have:x≠n:=by rintro rfl;exact h v D8
    simp [this]
  . rfl
theorem TL{kindOf:Str->Option NameKind}{x:Str}:∀ {binds:List (Str×Value)} {m:Str->Option Value},(∀v,(x,v) ∉ binds)->bindC kindOf binds m x=m x
 | [],_,_=>rfl
 | (n,v)::r,m,h=>by
  unfold bindC;rw [TL fun w hw=>h w (List.mem_cons_of_mem _ hw)]
  split
  . rfl
  . have:x≠n:=by rintro rfl;exact h v D8
    simp [this]
theorem SW {kindOf : Str -> Option NameKind} {x : Str} {v : Value} : ∀ {P : List Str} {vs : List Value} {i : Nat} {m : Str -> Option Value}, P.Nodup -> P[i]? = some x -> vs[i]? = some v -> kindOf x = some .local ->
 bindL kindOf (P.zip vs) m x=some v
 | [],_,_,_,_,h,_,_=>by simp at h
 | _::_,[],_,_,_,_,h,_=>by simp at h
 | p::P,w::vs,0,m,nd,h1,h2,hk=>by
  simp at h1 h2;subst h1;subst h2
  show bindL kindOf ((p,w)::P.zip vs) m p=_;unfold bindL;rw [SU fun v hv=>(List.nodup_cons.mp nd).1 (List.of_mem_zip hv).1,if_pos hk]
  simp
 | p::P,w::vs,i+1,m,nd,h1,h2,hk=>by
  show bindL kindOf ((p,w)::P.zip vs) m x=_;unfold bindL;exact SW (i:=i) (List.nodup_cons.mp nd).2 (by simpa using h1) (by simpa using h2) hk
theorem TN {kindOf : Str -> Option NameKind} {x : Str} {v : Value} : ∀ {P : List Str} {vs : List Value} {i : Nat} {m : Str -> Option Value}, P.Nodup -> P[i]? = some x -> vs[i]? = some v -> kindOf x ≠ some .local ->
 bindC kindOf (P.zip vs) m x=some v
 | [],_,_,_,_,h,_,_=>by simp at h
 | _::_,[],_,_,_,_,h,_=>by simp at h
 | p::P,w::vs,0,m,nd,h1,h2,hk=>by
  simp at h1 h2;subst h1;subst h2
  show bindC kindOf ((p,w)::P.zip vs) m p=_;unfold bindC;rw [TL fun v hv=>(List.nodup_cons.mp nd).1 (List.of_mem_zip hv).1,if_neg hk]
  simp
 | p::P,w::vs,i+1,m,nd,h1,h2,hk=>by
  show bindC kindOf ((p,w)::P.zip vs) m x=_;unfold bindC;exact TN (i:=i) (List.nodup_cons.mp nd).2 (by simpa using h1) (by simpa using h2) hk
def start(N:List Str)(vs:List V):St:=vs.map some++List.replicate (N.length - vs.length) none
def PH(CX:CXT)(P:Program)(w:World)(K:PySem.W.Frag)(mg:Str->Option Value)(base:Heap)(N:List Str)(qual:Str)(scope:Scope)(f:Addr)(cd:Value)(A:Around)(outer:List Env)(s:Shared)(H:Hp)(E:XK):Cx where
 prog:=P
 w:=w
 K:=K
 mg:=mg
 base:=base
 A:=A.deeper (envOfC qual scope s.heap.objs.size f cd)
 N:=N
 s₀:=s
 H₀:=H
 env:=envOfC qual scope s.heap.objs.size f cd
 outer:=outer
 stack:=envOfC qual scope s.heap.objs.size f cd::outer
 ex:= []
 calm:=true
 fn:=fun _=>true
 pn:= []
 xe:=fun e s'=>wpAny (model P w) (A.deeper (envOfC qual scope s.heap.objs.size f cd)) (leaving (envOfC qual scope s.heap.objs.size f cd) e) (fun _ s''=>CX outer H s E e s'') (fun e' s''=>CX outer H s E e' s'') s'
theorem VI{sc:Scope}{n:Nat}{x:Str}(h:sc.names.lookup x=some .cell):∃c,(cellsFrom n sc.names []).lookup x=some c:=by
 have q:=sF sc.names n [] (.inl h);exact lN.mp q
theorem cY {CX : CXT} {P : Program} {w : World} {K : PySem.W.Frag} {mg : Str -> Option Value} {base : Heap} {N ps : List Str} {qual : Str} {scope : Scope} {f : Addr} {cd : Value} {A : Around} {outer : List Env} {s s1 : Shared} {H : Hp} {E : XK} {us : List Value} {vs : List V}
 (S:FnScope N ps scope) (hd:A.handled=none) (e0:Env0 P w K mg base A outer s H) (hl:vs.length=ps.length) (r:Vals vs us)
 (x:InCallC s s.heap.objs.size (bindL (envOfC qual scope s.heap.objs.size f cd).kindOf (ps.zip us) fun _=>none) (cellsFrom (s.heap.objs.size+1) scope.names []) (bindC (envOfC qual scope s.heap.objs.size f cd).kindOf (ps.zip us) fun _=>none) s1) :
 Inv (PH CX P w K mg base N qual scope f cd A outer s H E) [] (start N vs) H s1:=by
 have hpl:ps.length<=N.length:=by have:=KM List.length S.pre;rw [CV] at this;omega
 obtain ⟨h1,tk,rfl,hk⟩:=x.done;have noA:∀b:Addr,b ∉ (PH CX P w K mg base N qual scope f cd A outer s H E).ex:=fun b z=>absurd (show b ∈ ([]:List Addr) from z) (by simp)
 refine ⟨⟨e0.mod,S.kind,rfl,rfl,AA _,fun y z c h1 h2=> ?_,fun y hy=> ?_,fun y c _ h=> ?_,fun _=>hd,Around.frames_deeper e0.frames, .inr ⟨rfl,rfl⟩,fun b z=>absurd z (noA b),e0.bs,e0.bsz,fun b _ _=>noA b,fun b z=>absurd z (noA b),e0.funs,e0.frf,e0.tb⟩,
  rfl,e0.bare,Un.kept hk,⟨_,x.toInCall.ns,fun i y v h1 h2 h3=> ?_⟩,fun y c h=>⟨_,x.cell y c h⟩,e0.hok.fresh (AA _),fun y c h=> ?_,fun p hp=>absurd (show p ∈ ([]:List (Addr×Obj)) from hp) (by simp),e0.hok.kept hk,?_⟩
 . exact name_of_addr x.apart (HW h1) (HW h2)
 . have hy:scope.names.lookup y=some .cell\/scope.names.lookup y=some .free:=hy;rcases hy with hy | hy
   . exact VI hy
   . exact absurd rfl (S.nofree _ (HW hy))
 . exact HP (x.above y c (HW h))
 . have hi : i < vs.length := by
    unfold start at h2
    by_cases hi:i<vs.length
    . exact hi
    . rw [A3 (by simpa using hi)] at h2
      rw [E4] at h2
      split at h2 <;> cases h2
   have ha:vs[i]? = some v:=by
    unfold start at h2
    rw [A9 (by simpa using hi),AS] at h2
    cases e:vs[i]? with
    | none=>rw [e] at h2;cases h2
    | some a=>rw [e] at h2;cases h2;rfl
   obtain ⟨u,hu,rv⟩:=r.get ha
   have hp:ps[i]? = some y:=by
    rw [<-S.pre,lO (by omega)];exact h1
   have ndP:ps.Nodup:=by rw [<-S.pre];exact S.nd.sublist (A27 _ _)
   refine ⟨u,rv,?_⟩;rcases S.par y (AJ hp) with k | k
   . exact .inl ⟨k,SW ndP hp hu k⟩
   . obtain ⟨c,e⟩:=VI (n:=s.heap.objs.size+1) k;refine .inr ⟨.inl k,c,e,?_⟩;have q:=x.cell y c e;rw [TN ndP hp hu (by show scope.names.lookup y≠_;rw [k];decide)] at q
     exact q
 . exact e0.hok.fresh (HP (x.above y c (HW h)))
 . unfold start;show _=N.length;rw [List.length_append,List.length_map,List.length_replicate];omega
theorem zG {CX : CXT} {P : Program} {w : World} {K : PySem.W.Frag} {mg : Str -> Option Value} {base : Heap} {k : Nat} {f : Addr} {name qual : Str} {params : Arguments} {body : List Stmt} {scope : Scope} {dV kV doc pm cdv ct oc : Value} {an od : Option Addr}
 {osl:Array (Option Value)} {N ps:List Str} {sp:Sp} (lk:K.lookup f=some ⟨oc,od, .func (PySem.W.fnOf name qual params body scope dV kV doc pm an cdv ct),osl⟩) (hcd:PySem.W.codeIn K cdv qual=true) (S:FnScope N ps scope)
 (len:∀vs H Q E,sp vs H Q E->vs.length=ps.length)
 (hbody:∀(A:Around) (outer:List Env) (s:Shared) (H:Hp) (vs:List V) (Q:VK) (E:XK),Room k (A.deeper (envOfC qual scope s.heap.objs.size f cdv))->sp vs H Q E ->
  ∃t,PSs (PH CX P w K mg base N qual scope f cdv A outer s H E) body t/\t {nx:=fun _ H'=>Q .non H',rt:=Q} (start N vs) H) :
 FnOk P w K mg base CX (k+1) f (PySem.W.fnOf name qual params body scope dV kV doc pm an cdv ct) ps sp:=by
 refine ⟨len,fun A outer s H args us vs Q E hr e0 hb r hsp=> ?_⟩;have hl:=len _ _ _ _ hsp;have KX:K.In s.heap:=e0.mod.kin.keeps fun b o e=>(e0.bs b o e).1;have lim:s.heap.NoLimit:=e0.mod.nolimit.keeps fun b o e=>(e0.bs b o e).1
 have hkind:∀y ∈ ps.zip us,scope.names.lookup y.1=some .local\/(scope.names.lookup y.1=some .cell/\((cellsFrom (s.heap.objs.size+1) scope.names []).lookup y.1).isSome=true):=fun ⟨n,v⟩ hy=>by
  rcases S.par n (List.of_mem_zip hy).1 with q | q
  . exact .inl q
  . exact .inr ⟨q,sF _ _ _ (.inl q)⟩
 refine codeAny_call_function hr.depth (KX _ _ lk) rfl S.co S.gen rfl (PySem.W.codeRec_of KX hcd) (hb _ _ _ _ ?_);refine wpAny_newFunctionEnv_cells S.kind hkind fun env he s1 x=> ?_;subst he;refine ⟨lim.keeps x.toInCall.keep,codeAny_func ?_⟩;obtain ⟨t,ht,hq⟩:=hbody A outer s H vs Q E (hr.deeper _) hsp;have I:Inv (PH CX P w K mg base N qual scope f cdv A outer s H E) [] (start N vs) H s1:=cY S hr.hd e0 hl r x;refine GZ (ht [] s1 (start N vs) H _ I hq) (fun fl s' hs=> ?_) fun e s' hs=>hs
 have fin:∀ {σ':St} {H':Hp} {v:V} {u:Value},Inv (PH CX P w K mg base N qual scope f cdv A outer s H E) [] σ' H' s'->RelV v u->Q v H'->CE outer P w H s Q u s' :=
  fun {σ' H' v u} J rv q=>⟨v,H',J.os,J.bare,J.base,J.hok,rv,q⟩
 cases fl with
 | ret u=>
  obtain ⟨v,σ',H',J,rv,q⟩:=hs
  exact fin J rv q
 | next=>
  obtain ⟨σ',H',J,q⟩:=hs
  exact fin (v:=V.non) (u:=Value.none) J rfl q
 | brk=>
  obtain ⟨_,_,_,q⟩:=hs
  exact False.elim q
 | cont=>
  obtain ⟨_,_,_,q⟩:=hs;exact False.elim q
end L2
namespace L2
open PySem PySem.Spec PyProof.Rows
section
variable {X:Cx} {x:Str} {p pos:Pos} {e:Expr} {es:List Expr} {t:TA} {id T:String} {r:List V->Hp->VK->Prop}
def tCB(r:List V->Hp->VK->Prop)(t:TA):TE:=fun σ H Q=>t σ H fun vs H1=>r vs H1 Q
theorem gT (hc : MD X (.builtin id) r) (hg : Gl X x) (hm : X.mg x = none) (hv : bootBuiltins x = some (.builtin id)) (ha : PA X (e :: es) t) (hn : x ≠ "__name__" := by decide) (hdb : (x == ("__debug__" : Str)) = false := by decide)
 (he:starEach (e::es) X.env=(false,eval e X.env)::starEach es X.env:=by rfl) (hpl:(backTo pos (starEach es X.env)).any (·.1)=false:=by rfl):PE X (.Call (.Name x p) (e::es) [] pos) (tCB r t):=by
 intro pins s σ H Q I h;refine H9 (JA I hg hm hv ?_ hn hdb);exact PyProof.Rows.callWith_builtin1 (thn (ha pos pins s σ H _ I h) fun us s1 ⟨vs,H1,I1,r1,q1⟩=>hc pins s1 σ H1 vs us Q I1 r1 q1) he hpl
theorem eG (hc : MD X (.type T) r) (hg : Gl X x) (hm : X.mg x = none) (hv : bootBuiltins x = some (.type T)) (ha : PA X (e :: es) t) (hn : x ≠ "__name__" := by decide) (hdb : (x == ("__debug__" : Str)) = false := by decide)
 (he:starEach (e::es) X.env=(false,eval e X.env)::starEach es X.env:=by rfl) (hpl:(backTo pos (starEach es X.env)).any (·.1)=false:=by rfl):PE X (.Call (.Name x p) (e::es) [] pos) (tCB r t):=by
 intro pins s σ H Q I h;refine H9 (JA I hg hm hv ?_ hn hdb);exact C7 (thn (ha pos pins s σ H _ I h) fun us s1 ⟨vs,H1,I1,r1,q1⟩=>hc pins s1 σ H1 vs us Q I1 r1 q1) he hpl
end
end L2
namespace HT
open PySem PyProof.Rows
section
open PySem.SeqAt
open PySem.AutoSeq1 (wpAny_loadPart')
open PySem.MeetsSeq PySem.MeetsSeq2 PySem.MeetsSeq3
end
section
variable {prog:Program} {w:World} {A:Around} {E:Value->Shared->Prop} {s:Shared}
theorem cat_tup {t b : Addr} {vs ws : List Value} {Q : Value -> Shared -> Prop} (ht : IsTup s.heap t vs.toArray) (hb : IsTup s.heap b ws.toArray) (hv : vs ≠ [])
 (h1:ws = []->Q (.ref t) s) (h2:ws ≠ []->Q (.ref s.heap.objs.size) {s with heap:=s.heap.push {cls:= .type "tuple",data:= .seq (vs++ws).toArray} })
 (hsz:vs.length+ws.length<=sizeLine):wpAny (model prog w) A (binaryOp .Add (.ref t) (.ref b)) Q E s:=by
 obtain ⟨⟨cls,dd,data,sl⟩,ho,hc,n,hd⟩:=id ht;obtain ⟨⟨cls2,dd2,data2,sl2⟩,ho2,hc2,n2,hd2⟩:=id hb;simp only at hc hd hc2 hd2
 subst hc hd hc2 hd2;have e:vs.toArray++ws.toArray=(vs++ws).toArray:=by simp
 by_cases hw:ws = []
 . exact fD ⟨_, ho, rfl⟩ ⟨_, ho2, rfl⟩ lP A02 NY MX (MI _ _)
    (tuple_addW1 t b vs.toArray ws.toArray n n2 dd dd2 sl sl2 (by simpa using hv) (by simp [hw])) ⟨ho,ho2,h1 hw⟩
 . refine fD ⟨_, ho, rfl⟩ ⟨_, ho2, rfl⟩ lP A02 NY MX (MI _ _)
    (tuple_addW2 t b vs.toArray ws.toArray n n2 dd dd2 sl sl2 (by simpa using hv) (by simpa using hw) (by rw [AU,AU];exact hsz)) ⟨ho,ho2,?_⟩
   rw [e];exact h2 hw
def sIx(n d:Nat):Option Int->Nat
 | none=>d
 | some v=>if v<0 then (v+(n:Int)).toNat else min v.toNat n
theorem sIx_none(n d:Nat):sIx n d none=d:=rfl
theorem sIx_nat(n d k:Nat):sIx n d (some (k:Int))=min k n:=by
 show (if (k:Int)<0 then ((k:Int)+(n:Int)).toNat else min (k:Int).toNat n)=min k n;rw [AR (by omega),IR]
theorem uW(n d:Nat)(hd:d<=n)(o:Option Int):sIx n d o<=n:=by
 cases o with
 | none=>exact hd
 | some v=>
  show (if v<0 then (v+(n:Int)).toNat else min v.toNat n)<=n
  by_cases hv:v<0
  . rw [AN hv];omega
  . rw [AR hv];exact XL _ _
theorem Z7(v:Int)(n d:Nat):(if v<0 then max (v+(n:Int)) 0 else min v (n:Int))=((sIx n d (some v):Nat):Int):=by
 show (if v<0 then max (v+(n:Int)) 0 else min v (n:Int))=(((if v<0 then (v+(n:Int)).toNat else min v.toNat n):Nat):Int)
 by_cases hv:v<0
 . simp only [AN hv];omega
 . simp only [AR hv];omega
theorem YV(lo hi:Option Int)(n:Nat):Builtin.Slice.sliceAdjust lo hi 1 (n:Int)=(((sIx n 0 lo:Nat):Int),((sIx n n hi:Nat):Int)):=by
 have h1:¬((1:Int)<0):=by omega
 unfold Builtin.Slice.sliceAdjust;simp only [h1,if_false];refine Prod.ext ?_ ?_
 . cases lo with
   | none=>rfl
   | some v=>exact Z7 v n 0
 . cases hi with
   | none=>rfl
   | some v=>exact Z7 v n n
theorem YN(i j:Nat):Builtin.Slice.slicePlaces (i:Int) (j:Int) 1=j - i:=by
 unfold Builtin.Slice.slicePlaces;have h1:(1:Int)>0:=by omega
 simp only [h1,HS,Int.ediv_one]
 split <;> omega
theorem RC{v:Value}{o:Option Int}{Q:Option Int->Shared->Prop}(p:IsPart v o)(h:Q o s):wpAny (model prog w) A (Builtin.Slice.slicePartIndex v) Q E s:=by
 cases p with
 | none=>exact slicePart_none h
 | int i t=>exact slicePart_int h
theorem OF {sl : Addr} {vl vu : Value} {lo hi : Option Int} {n : Nat} {Q : Int × Int × Nat -> Shared -> Prop} (hs : s.heap.IsSliceOf sl vl vu .none) (pl : IsPart vl lo) (pu : IsPart vu hi)
 (h:Q (((sIx n 0 lo:Nat):Int),1,sIx n n hi - sIx n 0 lo) s):wpAny (model prog w) A (Builtin.Slice.sliceApplied (.ref sl) (pure (n:Int))) Q E s:=by
 obtain ⟨os,hos,hcs,hds⟩:=id hs;unfold Builtin.Slice.sliceApplied Builtin.Slice.sliceFields;refine wpAny_bind (wpAny_bind (wpAny_field hos hds (x:=vl) rfl (wpAny_bind (wpAny_field hos hds (x:=vu) rfl (wpAny_bind (wpAny_field hos hds (x:= .none) rfl (wpAny_pure ?_)))))));refine wpAny_bind (slicePart_none ?_);show wpAny _ _ (if ((1:Int)==0)=true then _ else _) _ _ s;rw [if_neg (by decide)];refine wpAny_bind (RC pl (wpAny_bind (RC pu (wpAny_bind (wpAny_pure ?_)))));show wpAny _ _ (match Builtin.Slice.sliceAdjust lo hi 1 (n:Int) with | (lo,hi)=>pure (lo,(1:Int),Builtin.Slice.slicePlaces lo hi 1)) _ _ s;rw [YV lo hi n];show wpAny _ _ (pure (((sIx n 0 lo:Nat):Int),(1:Int),Builtin.Slice.slicePlaces ((sIx n 0 lo:Nat):Int) ((sIx n n hi:Nat):Int) 1)) _ _ s;rw [YN];exact wpAny_pure h
theorem jQ(xs:Array Value)(i k:Nat):((List.range k).filterMap fun (m:Nat)=>xs[((i:Int)+(m:Int)*1).toNat]?).toArray=((xs.toList.drop i).take k).toArray:=by
 have e:(fun (m:Nat)=>xs[((i:Int)+(m:Int)*1).toNat]?)=fun m=>xs[i+m]? :=by
  funext m;have:((i:Int)+(m:Int)*1).toNat=i+m:=by omega
  rw [this]
 rw [e];have:=pick_run xs i k;rw [List.filterMap_map] at this
 have e2:((fun x=>xs[x]?) ∘ fun x=>i+x)=fun m=>xs[i+m]? :=rfl;rw [e2] at this
 rw [this]
theorem getItem_tuple_cut {t sl : Addr} {items : Array Value} {vl vu : Value} {lo hi : Option Int} {Q : Value -> Shared -> Prop} (ht : IsTup s.heap t items) (hs : s.heap.IsSliceOf sl vl vu .none) (pl : IsPart vl lo) (pu : IsPart vu hi)
 (hw:¬(sIx items.size 0 lo=0/\sIx items.size items.size hi=items.size))
 (h:Q (.ref s.heap.objs.size) {s with heap:=s.heap.push {cls:= .type "tuple",data:= .seq ((items.toList.drop (sIx items.size 0 lo)).take (sIx items.size items.size hi - sIx items.size 0 lo)).toArray} })
 (hsz:items.size<=sizeLine):wpAny (model prog w) A (getItem (.ref t) (.ref sl)) Q E s:=by
 have htake:sizeOk (.seq ((items.toList.drop (sIx items.size 0 lo)).take (sIx items.size items.size hi - sIx items.size 0 lo)).toArray):=by
  show ((items.toList.drop (sIx items.size 0 lo)).take (sIx items.size items.size hi - sIx items.size 0 lo)).toArray.size<=sizeLine;rw [AU,CV,JJ,SE];omega
 have hj:sIx items.size items.size hi<=items.size:=uW _ _ (Nat.le_refl _) hi;obtain ⟨os,hos,hcs,hds⟩:=id hs;have hTs:s.TypeIs (.ref sl) "slice" :=⟨os,hos,hcs⟩;unfold getItem
 try with_reducible refine Z0 ?_
 first | refine A7 (AX ?_) | skip
 refine A7 (wpAny_sequenceKey ht.typeIs (by decide) ?_)
 refine A7 (GM (name:=Str.ofString "__getitem__") ht.typeIs JB
  (KH JB ht.typeIs entry_tuple_getitem ?_ (args_tuple_getitem _ _)))
 show wpAny _ _ (Builtin.Tuple.tupleItemsOf (.ref t) >>= _) _ _ s;refine A7 (tupleItemsOf_ ht ?_);refine A7 (wpAny_typeOf hTs ?_);rw [AN (by decide)];refine A7 (OF hs pl pu ?_)
 have hno:¬((((sIx items.size 0 lo:Nat):Int)==0 && (1:Int)==1 && (sIx items.size items.size hi - sIx items.size 0 lo)==items.size)=true):=by
  intro q;rw [F3,F3] at q
  have q1:((sIx items.size 0 lo:Nat):Int)=0:=eq_of_beq q.1.1;have q2:sIx items.size items.size hi - sIx items.size 0 lo=items.size:=eq_of_beq q.2;exact hw ⟨by omega,by omega⟩
 show wpAny _ _ (if (((sIx items.size 0 lo:Nat):Int)==0 && (1:Int)==1 && (sIx items.size items.size hi - sIx items.size 0 lo)==items.size)=true then _ else _) _ _ s;rw [AR hno,jQ]
 first
  | exact A7 (m:=Builtin.Tuple.tupleExact _) (F0 (AX ⟨_,rfl,AX h⟩) htake)
  | exact A7 (m:=Builtin.Tuple.tupleExact _) (F0 (A7 (AX (AX ⟨_,rfl,AX h⟩))) htake)
  | exact A7 (A7 (m:=Builtin.Tuple.tupleExact _) (F0 (AX (AX ⟨_,rfl,AX h⟩)) htake))
  | exact A7 (A7 (m:=Builtin.Tuple.tupleExact _) (F0 (AX ⟨_,rfl,AX h⟩) htake))
end
end HT
namespace L2
open PySem PySem.Spec PyProof.Rows
abbrev TO:=St->Hp->(Option Int->Hp->Prop)->Prop
def PO(X:Cx)(e:Option Expr)(t:TO):Prop:=
 ∀(pins:List (Addr×Obj)) (s:Shared) (σ:St) (H:Hp) (Q:Option Int->Hp->Prop),Inv X pins σ H s->t σ H Q ->
   wpAny (model X.prog X.w) X.A (evalPart e X.env) (fun u s'=>∃o H',Inv X pins σ H' s'/\IsPart u o/\Q o H') X.xe s
def tNoPart:TO:=fun _ H Q=>Q none H
def qY(t:TE):TO:=fun σ H Q=>t σ H fun x H1=>∃i,x = .int i/\Q (some i) H1
theorem XQ{ns:List Int}:∀ {us:List Value},Vals (ns.map V.int) us->IntsAre us ns:=by
 induction ns with
 | nil=>intro us r;rw [sG] at r;cases r;exact .nil
 | cons n ns ih=>
  intro us r;rw [CT] at r
  cases r with
  | cons r1 r2=>
   obtain ⟨t,e⟩:=r1;subst e;exact .cons n t (ih r2)
section
variable {X:Cx} {e:Expr} {te:TE} {lo hi:Option Expr} {tl th:TO} {pos p2:Pos}
theorem mS:PO X none tNoPart:=by
 intro pins s σ H Q I h;rw [evalPart_none];exact AX ⟨none,H,I, .none,h⟩
theorem pC(h:PE X e te):PO X (some e) (qY te):=by
 intro pins s σ H Q I hw;rw [evalPart_some];refine thn (h pins s σ H _ I hw) fun u s1 ⟨x,H1,I1,r1,q1⟩ => ?_;obtain ⟨i,rfl,q⟩:=q1;obtain ⟨t,rfl⟩:=r1;exact ⟨some i,H1,I1, .int i t,q⟩
def SlR(X:Cx)(r:V->Option Int->Option Int->Hp->VK->Prop):Prop:=
 ∀(pins:List (Addr×Obj)) (s:Shared) (σ:St) (H:Hp) (x:V) (v vl vu:Value) (lo hi:Option Int) (sl:Addr) (Q:VK),Inv X pins σ H s->RelV x v->s.heap.IsSliceOf sl vl vu .none->IsPart vl lo->IsPart vu hi->r x lo hi H Q ->
   ∃T id,typeLookup (.type T) "__getitem__" = pure (some (.builtin id))/\s.TypeIs v T/\wpAny (model X.prog X.w) X.A (getItem v (.ref sl)) (EP X pins σ Q) X.xe s
theorem SlR.or{r r':V->Option Int->Option Int->Hp->VK->Prop}(h:SlR X r)(h':SlR X r'):SlR X (fun x lo hi H Q=>r x lo hi H Q\/r' x lo hi H Q):=by
 intro pins s σ H x v vl vu lo hi sl Q I rx hs pl pu q;rcases q with q | q
 . exact h pins s σ H x v vl vu lo hi sl Q I rx hs pl pu q
 . exact h' pins s σ H x v vl vu lo hi sl Q I rx hs pl pu q
def tSl(r:V->Option Int->Option Int->Hp->VK->Prop)(te:TE)(tl th:TO):TE:=fun σ H Q=>te σ H fun x H1=>tl σ H1 fun l H2=>th σ H2 fun u H3=>r x l u H3 Q
theorem jE{r:V->Option Int->Option Int->Hp->VK->Prop}(hr:SlR X r)(he:PE X e te)(hl:PO X lo tl)(hu:PO X hi th):PE X (.Subscript e (.Slice lo hi none p2) pos) (tSl r te tl th):=by
 intro pins s σ H Q I h;refine Subscript_ (thn (he pins s σ H _ I h) fun v s1 ⟨x,H1,I1,r1,q1⟩ => ?_);refine wpAny_Slice (thn (hl pins s1 σ H1 _ I1 q1) fun vl s2 ⟨l,H2,I2,pl,q2⟩=>thn (hu pins s2 σ H2 _ I2 q2) fun vu s3 ⟨u,H3,I3,pu,q3⟩ => ?_);rw [evalPart_none];refine AX ?_;have I4:Inv X pins σ H3 {s3 with heap:=s3.heap.push {cls:= .type "slice",data:= .fields #[vl,vu, .none]} }:=I3.kept (t':=s3.toks) fun b ob q=>A5 _ q;obtain ⟨T,id,hT,ht,hg⟩:=hr pins {s3 with heap:=s3.heap.push {cls:= .type "slice",data:= .fields #[vl,vu, .none]} } σ H3 x v vl vu l u s3.heap.objs.size Q I4 r1 (Heap.IsSliceOf.new ..) pl pu q3;show wpAny (model X.prog X.w) X.A (subscriptTail e (.Slice lo hi none p2) v (.ref s3.heap.objs.size)) (EP X pins σ Q) X.xe {s3 with heap:=s3.heap.push {cls:= .type "slice",data:= .fields #[vl,vu, .none]} };exact tail_any (ops:= [.ref s3.heap.objs.size,v]) ht hT hg (by with_unfolding_all rfl)
def WA(xs:List V)(lo hi:Option Int):List V:=(xs.drop (HT.sIx xs.length 0 lo)).take (HT.sIx xs.length xs.length hi - HT.sIx xs.length 0 lo)
theorem P7(xs:List V)(lo hi:Option Int):(WA xs lo hi).length<=xs.length:=by
 unfold WA;rw [List.length_take,List.length_drop];omega
def zN(K:PySem.W.Frag):V->Option Int->Option Int->Hp->VK->Prop:=fun x lo hi H Q=>∃a xs,x = .ref a/\SqT K H a xs /\
 ¬(HT.sIx xs.length 0 lo=0/\HT.sIx xs.length xs.length hi=xs.length)/\∀p,H p=none->Q (.ref p) (upd H p (.tup (WA xs lo hi)))
theorem uE:SlR X (zN X.K):=by
 intro pins s σ H x v vl vu lo hi sl Q I rx hs pl pu h;obtain ⟨a,xs,rfl,hx,hw,q⟩:=h
 cases rx
 obtain ⟨its,r,ht,hz⟩:=I.tuple hx;have hlen:its.toArray.size=xs.length:=by rw [AU];exact r.length.symm
 refine ⟨"tuple",_,JB.lookup,ht.typeIs,?_⟩;refine HT.getItem_tuple_cut ht hs pl pu (by rw [hlen];exact hw) ?_ (by rw [hlen];exact hz);rw [hlen];refine ⟨.ref s.heap.objs.size,_,I.laid (t':=s.toks) (o:= .tup (WA xs lo hi)) (fun b ob q=>A5 _ q) (AA _) ?_,rfl,q _ (I.hok.fresh (AA _))⟩;exact ⟨BG (P7 xs lo hi) hz,_,(r.drop (HT.sIx xs.length 0 lo)).take (HT.sIx xs.length xs.length hi - HT.sIx xs.length 0 lo),A25 _ _⟩
def rJ(K:PySem.W.Frag):R2:=fun x y H Q=>∃a b xs ys,x = .ref a/\y = .ref b/\SqT K H a xs/\SqT K H b ys/\xs ≠ []/\xs.length+ys.length<=sizeLine /\
 (ys = []->Q (.ref a) H)/\(ys ≠ []->∀p,H p=none->Q (.ref p) (upd H p (.tup (xs++ys))))
theorem Vals.nil_iff{xs:List V}{us:List Value}(r:Vals xs us):us = []↔xs = []:=by
 cases r with
 | nil=>simp
 | cons _ _=>simp
theorem oP:OpR X (binaryOp .Add) (rJ X.K):=by
 intro pins s σ H x y v u Q I rx ry h;obtain ⟨a,b,xs,ys,rfl,rfl,ha,hb,hx,hz,q1,q2⟩:=h
 cases rx
 cases ry
 obtain ⟨its,r1,p1,_⟩:=I.tuple ha;obtain ⟨its2,r2,p2,_⟩:=I.tuple hb;refine HT.cat_tup p1 p2 (fun z=>hx (r1.nil_iff.mp z)) (fun z=>⟨.ref a,H,I,rfl,q1 (r2.nil_iff.mp z)⟩) (fun z=> ?_) (by rw [<-r1.length, <-r2.length];exact hz);refine ⟨.ref s.heap.objs.size,_,I.laid (t':=s.toks) (o:= .tup (xs++ys)) (fun b ob q=>A5 _ q) (AA _) ?_,rfl,q2 (fun w=>z (r2.nil_iff.mpr w)) _ (I.hok.fresh (AA _))⟩;exact ⟨by rw [AT];exact hz,_,r1.append r2,A25 _ _⟩
end
end L2
namespace L2
open PySem PySem.Spec PyProof.Rows
def ixN(n:Nat)(i:Int):Option Nat:=if 0<=i then (if i<n then some i.toNat else none) else if -(n:Int)<=i then some (i+n).toNat else none
def atI{α:Type}(xs:List α)(i:Int):Option α:=(ixN xs.length i).bind fun j=>xs[j]?
theorem aS{n:Nat}{i:Int}{j:Nat}(h:ixN n i=some j):seqIndex? i n=some j/\j<n /\ -(n:Int)<=i/\i<n:=by
 unfold ixN at h
 by_cases h0:0<=i
 . rw [AN h0] at h
   by_cases h1:i<n
   . rw [AN h1] at h
     have e:i.toNat=j:=AY h;exact ⟨by rw [A45 h0 h1,e],by omega,by omega,h1⟩
   . rw [AR h1] at h;cases h
 . rw [AR h0] at h
   by_cases h1 : -(n:Int)<=i
   . rw [AN h1] at h
     have e:(i+n).toNat=j:=AY h;exact ⟨by rw [A37 (by omega) h1,e],by omega,h1,by omega⟩
   . rw [AR h1] at h;cases h
theorem V0{α:Type}{xs:List α}{i:Int}{v:α}(h:atI xs i=some v):∃j,seqIndex? i xs.length=some j/\xs[j]? = some v/\j<xs.length /\ -(xs.length:Int)<=i/\i<xs.length:=by
 unfold atI at h
 cases e:ixN xs.length i with
 | none=>rw [e] at h;cases h
 | some j=>
  rw [e] at h
  obtain ⟨h1,h2,h3,h4⟩:=aS e;exact ⟨j,h1,h,h2,h3,h4⟩
theorem atI_nat{α:Type}{xs:List α}{j:Nat}{v:α}(h:xs[j]? = some v):atI xs (j:Int)=some v:=by
 have hj:j<xs.length:=(B6.mp h).1
 have e:ixN xs.length (j:Int)=some j:=by
  unfold ixN;rw [if_pos (by omega),if_pos (by omega)];simp
 unfold atI;rw [e];exact h
def b9(b:Expr):Prop:=∀o i,subscripted b false o i=operate [o,i] (getItem o i)
def IxR(X:Cx)(r:R2):Prop:=
 ∀(value slice:Expr) (pins:List (Addr×Obj)) (s:Shared) (σ:St) (H:Hp) (x y:V) (v u:Value) (Q:VK),Inv X pins σ H s->RelV x v->RelV y u->r x y H Q ->
   subscripted slice false v u=operate [v,u] (getItem v u)->wpAny (model X.prog X.w) X.A (subscriptTail value slice v u) (EP X pins σ Q) X.xe s
def MtR(X:Cx)(id:String)(r:V->List V->Hp->VK->Prop):Prop:=
 ∀(pins:List (Addr×Obj)) (s:Shared) (σ:St) (H:Hp) (x:V) (xs:List V) (v:Value) (us:List Value) (Q:VK),Inv X pins σ H s->RelV x v->Vals xs us->r x xs H Q ->
   wpAny (model X.prog X.w) X.A (call (.builtin id) (v::us)) (EP X pins σ Q) X.xe s
section
variable {X:Cx} {a b:Expr} {ta tb:TE} {pos:Pos}
theorem IxR.or{r r':R2}(h:IxR X r)(h':IxR X r'):IxR X (fun x y H Q=>r x y H Q\/r' x y H Q):=by
 intro value slice pins s σ H x y v u Q I rx ry q hs;rcases q with q | q
 . exact h value slice pins s σ H x y v u Q I rx ry q hs
 . exact h' value slice pins s σ H x y v u Q I rx ry q hs
theorem zQ{r:R2}(hr:IxR X r)(ha:PE X a ta)(hb:PE X b tb)(hs:b9 b):PE X (.Subscript a b pos) (tOp r ta tb):=by
 intro pins s σ H Q I h;exact Subscript_ (wA ha hb I h fun v u s2 x y H2 I2 rx ry q=>hr a b pins s2 σ H2 x y v u Q I2 rx ry q (hs _ _))
def yP(K:PySem.W.Frag):R2:=fun x y H Q=>∃p xs i v,x = .ref p/\y = .int i/\SqL K H p xs/\atI xs i=some v/\Q v H
def zC(K:PySem.W.Frag):R2:=fun x y H Q=>∃p xs i v,x = .ref p/\y = .int i/\SqT K H p xs/\atI xs i=some v/\Q v H
def rIxS:R2:=fun x y H Q=>∃z i c,x = .str z/\y = .int i/\z.length<=sizeLine/\atI z.cps.toList i=some c/\Q (.str ⟨#[c]⟩) H
theorem mI:IxR X (yP X.K):=by
 intro value slice pins s σ H x y v u Q I rx ry h hs;obtain ⟨p,xs,i,z,rfl,rfl,hq,he,q⟩:=h
 cases rx
 obtain ⟨t,rfl⟩:=ry;obtain ⟨its,r,pl,hz⟩:=I.list hq;obtain ⟨j,h1,h2,h3,h4,h5⟩:=V0 he;obtain ⟨w,ew,rw'⟩:=r.get h2;have hl:=r.length;have hn:=R8;have fin:EP X pins σ Q w s:=⟨z,H,I,rw',q⟩
 by_cases h0:0<=i
 . have hj : i.toNat = j := by
    rw [A45 h0 h5] at h1
    exact AY h1
   exact item_listR pl.isList h0 (by omega) (by rw [hj];simpa using ew) fin hs
 . have hj : (i + (its.toArray.size : Int)).toNat = j := by
    rw [A37 (by omega) h4] at h1
    rw [AU, <-hl];exact AY h1
   exact subscriptTail_builtinR (x:=w) pl.isList.typeIs slot_list_getitem.lookup
    (wpAny_getItem_list_neg (Q:=fun r s'=>r=w/\EP X pins σ Q r s') pl.isList (by omega) (by rw [AU] <;> omega) (by omega) (by rw [hj];simpa using ew) ⟨rfl,fin⟩) hs
theorem w4:IxR X (zC X.K):=by
 intro value slice pins s σ H x y v u Q I rx ry h hs;obtain ⟨p,xs,i,z,rfl,rfl,hq,he,q⟩:=h
 cases rx
 obtain ⟨t,rfl⟩:=ry;obtain ⟨its,r,pl,hz⟩:=I.tuple hq;obtain ⟨j,h1,h2,h3,h4,h5⟩:=V0 he;obtain ⟨w,ew,rw'⟩:=r.get h2;have hl:=r.length;have hn:=R8;have fin:EP X pins σ Q w s:=⟨z,H,I,rw',q⟩
 exact subscriptTail_builtinR (x:=w) pl.typeIs slot_tuple_getitem.lookup
  (getItem_tuple (j:=j) (Q:=fun r s'=>r=w/\EP X pins σ Q r s') pl (by omega) (by omega) (by rw [AU, <-hl];exact h1) (by simpa using ew) ⟨rfl,fin⟩) hs
theorem uB:IxR X rIxS:=by
 intro value slice pins s σ H x y v u Q I rx ry h hs;obtain ⟨z,i,c,rfl,rfl,hz,he,q⟩:=h;obtain ⟨t,rfl⟩:=rx;obtain ⟨t',rfl⟩:=ry;obtain ⟨j,h1,h2,h3,h4,h5⟩:=V0 he;have hl:z.cps.toList.length=z.length:=by simp [Str.length]
 rw [hl] at h1 h4 h5
 have hn:=R8
 exact tail_any (typeIs_str s z t) slot_str_getitem.lookup (getItem_str (c:=c) (by
  have e1:decide (i < -(2 ^ 63:Int))=false:=CC (by omega);have e2:decide (i≥2 ^ 63)=false:=CC (by omega);rw [e1,e2,Bool.or_false]) (by rw [h1];simpa using h2) ⟨.str ⟨#[c]⟩,H,I.tok _,⟨_,rfl⟩,q⟩) hs
def rIx(K:PySem.W.Frag):R2:=fun x y H Q=>yP K x y H Q\/zC K x y H Q\/rIxS x y H Q
theorem sV:IxR X (rIx X.K):=mI.or (w4.or uB)
theorem XU(its:List Value)(n j:Nat)(u:Value):Obj.mapSeq (·.setIfInBounds j u) {cls:= .type "list",data:= .seq its.toArray n}={cls:= .type "list",data:= .seq (its.set j u).toArray n}:=by
 simp [Obj.mapSeq]
theorem Inv.lst {pins : List (Addr × Obj)} {σ : St} {H : Hp} {s : Shared} {p : Addr} {xs : List V} (I : Inv X pins σ H s) (h : H p = some (.lst xs)) :
 ∃(its:List Value) (n:Nat),Vals xs its/\s.heap.get? p=some {cls:= .type "list",data:= .seq its.toArray n}/\xs.length<=sizeLine:=by
 obtain ⟨z,its,n,r,e⟩:=I.hok p _ h;exact ⟨its,n,r,e,z⟩
theorem Inv.lstUpd {pins : List (Addr × Obj)} {σ : St} {H : Hp} {s : Shared} {p : Addr} {xs ys : List V} {its its' : List Value} {n n' : Nat} {f : Obj -> Obj} (I : Inv X pins σ H s) (h : H p = some (.lst xs))
 (ho:s.heap.get? p=some {cls:= .type "list",data:= .seq its.toArray n}) (hf:f {cls:= .type "list",data:= .seq its.toArray n}={cls:= .type "list",data:= .seq its'.toArray n' }) (r:Vals ys its') (hz:ys.length<=sizeLine) (t:Nat) :
 Inv X pins σ (upd H p (.lst ys)) {s with heap:=s.heap.update p f,toks:=t}:=by
 have e:(s.heap.update p f).get? p=some {cls:= .type "list",data:= .seq its'.toArray n' }:=by
  rw [A42 f ho (by rw [hf] <;> rfl),hf]
 refine I.write (x:=p) (e:=p) (by rw [h];trivial) (.inl rfl) (fun b u hb q=>(SG _ _ (HQ hb)).trans q) ⟨_,e⟩ ?_;exact ⟨hz,its',n',r,e⟩
def rSetL:V->V->V->Hp->(Hp->Prop)->Prop:=fun o i v H Q=>∃p xs k j,o = .ref p/\i = .int k/\H p=some (.lst xs)/\ixN xs.length k=some j/\Q (upd H p (.lst (xs.set j v)))
theorem WZ:yS X rSetL:=by
 intro pins s σ H o i v ov iv u Q I ro ri rv h;obtain ⟨p,xs,k,j,rfl,rfl,hp,hj,q⟩:=h
 cases ro
 obtain ⟨t,rfl⟩:=ri;obtain ⟨its,n,r,ho,hz⟩:=I.lst hp;obtain ⟨h1,h2,h3,h4⟩:=aS hj;have hl:=r.length;have hn:=R8
 have I':Inv X pins σ (upd H p (.lst (xs.set j v))) {s with heap:=s.heap.update p (Obj.mapSeq (·.setIfInBounds j u))} :=
  I.lstUpd hp ho (XU its n j u) (r.set rv j) (by rw [DX];exact hz) s.toks
 by_cases h0:0<=k
 . have hk : k.toNat = j := by
    rw [A45 h0 h4] at h1
    exact AY h1
   exact PySem.W.ki_setAt ho h0 (by omega) (by rw [AU, <-hl];exact h4) (by rw [hk];exact ⟨_,I',q⟩)
 . have hk : (k + (its.toArray.size : Int)).toNat = j := by
    rw [A37 (by omega) h3] at h1
    rw [AU, <-hl];exact AY h1
   exact PySem.W.ki_setBack ho (by omega) (by rw [AU, <-hl];exact h3) (by omega) (by rw [hk];exact ⟨_,I',q⟩)
theorem U5(lo hi:Option Int)(n:Nat):(sliceBounds lo hi none n).1=((HT.sIx n 0 lo:Nat):Int)/\(sliceBounds lo hi none n).2.1=((HT.sIx n n hi:Nat):Int)/\(sliceBounds lo hi none n).2.2=1:=by
 refine ⟨?_,?_,rfl⟩
 . cases lo with
   | none=>simp [sliceBounds,HT.sIx]
   | some i=>
    simp only [sliceBounds,HT.sIx,Option.getD_none,show (1:Int)>0 by decide,HS]
    by_cases h:i<0
    . simp only [h,HS] <;> omega
    . simp only [h,VC] <;> omega
 . cases hi with
   | none=>simp [sliceBounds,HT.sIx]
   | some i=>
    simp only [sliceBounds,HT.sIx,Option.getD_none,show (1:Int)>0 by decide,HS]
    by_cases h:i<0
    . simp only [h,HS] <;> omega
    . simp only [h,VC] <;> omega
theorem SL(its:List Value)(lo hi:Option Int):slicePick its.toArray lo hi none=((its.drop (HT.sIx its.length 0 lo)).take (HT.sIx its.length its.length hi - HT.sIx its.length 0 lo)).toArray:=by
 obtain ⟨h1,h2,h3⟩:=U5 lo hi its.toArray.size;unfold slicePick;rw [h1,h2,h3];simp only [sliceRange_one,pick_run,List.size_toArray] <;> rfl
def zE(K:PySem.W.Frag):V->Option Int->Option Int->Hp->VK->Prop:=fun x lo hi H Q=>∃a xs,x = .ref a/\SqL K H a xs/\∀p,H p=none->Q (.ref p) (upd H p (.lst (WA xs lo hi)))
theorem pB:SlR X (zE X.K):=by
 intro pins s σ H x v vl vu lo hi sl Q I rx hs pl pu h;obtain ⟨a,xs,rfl,hx,q⟩:=h
 cases rx
 obtain ⟨its,r,ht,hz⟩:=I.list hx;have hlen:=r.length;refine ⟨"list",_,slot_list_getitem.lookup,ht.isList.typeIs,?_⟩;refine wpAny_getItem_list_slice ht.isList hs pl pu .none (by simp) ?_ (by rw [AU] <;> omega);rw [SL, <-hlen];refine ⟨.ref s.heap.objs.size,_,I.laid (t':=s.toks) (o:= .lst (WA xs lo hi)) (fun b ob q=>A5 _ q) (AA _) ?_,rfl,q _ (I.hok.fresh (AA _))⟩;exact ⟨BG (P7 xs lo hi) hz,_,0,(r.drop (HT.sIx xs.length 0 lo)).take (HT.sIx xs.length xs.length hi - HT.sIx xs.length 0 lo),B7 _ rfl⟩
theorem DD:MD X (.builtin "len") (fun xs H Q=>∃p ys,xs = [.ref p]/\(SqL X.K H p ys\/SqT X.K H p ys)/\Q (.int ys.length) H):=by
 intro pins s σ H xs us Q I r h;obtain ⟨p,ys,rfl,hq,q⟩:=h;obtain ⟨u,rfl,rx⟩:=L3 r
 cases rx
 have hn:=R8;rcases hq with hq | hq
 . obtain ⟨its,r',pl,hz⟩:=I.list hq;have hlen:=r'.length;exact Calls.call_len_list pl.isList (by simp only [AU] <;> omega) ⟨.int ys.length,H,I.tok _,⟨s.toks+1,by rw [AU,hlen]⟩,q⟩
 . obtain ⟨its,r',pl,hz⟩:=I.tuple hq;have hlen:=r'.length;exact len_tuple pl (by simp only [AU] <;> omega) ⟨.int ys.length,H,I.tok _,⟨s.toks+1,by rw [AU,hlen]⟩,q⟩
theorem K8:MD X (.type "list") (fun xs H Q=>∃p ys,xs = [.ref p]/\(SqL X.K H p ys\/SqT X.K H p ys)/\∀l,H l=none->Q (.ref l) (upd H l (.lst ys))):=by
 intro pins s σ H xs us Q I r h;obtain ⟨p,ys,rfl,hq,q⟩:=h;obtain ⟨u,rfl,rx⟩:=L3 r
 cases rx
 have fin : ∀ (its : List Value), Vals ys its -> ys.length <= sizeLine -> ∀ (h' : Heap) (c' : Nat), (∀ b o', s.heap.get? b = some o' -> h'.get? b = some o') ->
  h'.get? s.heap.objs.size=some {cls:= .type "list",dict:=none,data:= .seq its.toArray c',slots:= #[]}->EP X pins σ Q (.ref s.heap.objs.size) {s with heap:=h' }:=fun its r' hz h' c' kp e=>
  ⟨.ref s.heap.objs.size,_,I.laid (t':=s.toks) kp (AA _) (show ObjOk X.prog X.w _ h' _ (.lst ys) from ⟨hz,its,c',r',e⟩),rfl,q _ (I.hok.fresh (AA _))⟩
 rcases hq with hq | hq
 . obtain ⟨its,r',pl,hz⟩:=I.list hq;have hlen:=r'.length;obtain ⟨o,ho,hc,n,hd⟩:=pl.isList;exact call_list_seq p (.inl rfl) ho hc hd (fun h' c' kp e=>fin its r' hz h' c' kp e) (by simp only [AU] <;> omega)
 . obtain ⟨its,r',pl,hz⟩:=I.tuple hq;have hlen:=r'.length;obtain ⟨o,ho,hc,n,hd⟩:=pl;exact call_list_seq p (.inr rfl) ho hc hd (fun h' c' kp e=>fin its r' hz h' c' kp e) (by simp only [AU] <;> omega)
theorem JP:MD X (.type "tuple") (fun xs H Q=>∃p ys,xs = [.ref p]/\((SqL X.K H p ys/\∀l,H l=none->Q (.ref l) (upd H l (.tup ys)))\/(SqT X.K H p ys/\Q (.ref p) H))):=by
 intro pins s σ H xs us Q I r h;obtain ⟨p,ys,rfl,h⟩:=h;obtain ⟨u,rfl,rx⟩:=L3 r
 cases rx
 rcases h with ⟨hq,q⟩ | ⟨hq,q⟩
 . obtain ⟨its,r',pl,hz⟩:=I.list hq;have hlen:=r'.length;refine call_tuple_list pl.isList (fun h' kp=> ?_) (by simp only [AU] <;> omega);have I1:Inv X pins σ H {s with heap:=h' }:=I.kept (t':=s.toks) kp
   have I2:Inv X pins σ (upd H h'.objs.size (.tup ys)) {s with heap:=h'.push {cls:= .type "tuple",data:= .seq its.toArray} } :=
    I1.laid (t':=s.toks) (fun b o e=>A5 _ e) (AA _) (show ObjOk X.prog X.w _ _ _ (.tup ys) from ⟨hz,its,r',A25 _ _⟩)
   exact ⟨.ref h'.objs.size,_,I2,rfl,q _ (I1.hok.fresh (AA _))⟩
 . obtain ⟨its,r',pl,hz⟩:=I.tuple hq;exact call_tuple_same pl ⟨.ref p,H,I,rfl,q⟩
def tyV(K:PySem.W.Frag)(T:String)(x:V)(H:Hp):Prop:=match x with
 | .str _=>T = "str"
 | .int _=>T = "int"
 | .ref p => (T = "list" /\ ∃ xs, SqL K H p xs) \/ (T = "tuple" /\ ∃ o, K.lookup p = some o /\ o.cls = .type "tuple" /\ o.dict = none) \/
  (T = "dict" /\ ((∃kvs,H p=some (.dK kvs))\/∃kvs,H p=some (.dT kvs)))\/(T = "set" /\ ∃S n,H p=some (.set S n))
 | _=>False
theorem xC {pins : List (Addr × Obj)} {σ : St} {H : Hp} {s : Shared} {T : String} {x : V} {v : Value} (I : Inv X pins σ H s) (r : RelV x v) (ty : tyV X.K T x H) :
 s.TypeIs v T/\∀a,v = .ref a->∃ob,s.heap.get? a=some ob/\ob.dict=none:=by
 cases x with
 | str z=>
  obtain ⟨t,rfl⟩:=r
  cases (show T = "str" from ty)
  exact ⟨typeIs_str s z t,fun _ e=>nomatch e⟩
 | int i=>
  obtain ⟨t,rfl⟩:=r
  cases (show T = "int" from ty)
  exact ⟨typeIs_int s i t,fun _ e=>nomatch e⟩
 | ref p=>
  cases r
  rcases ty with ⟨rfl,xs,hq⟩ | ⟨rfl,o,hk,hc,hd⟩ | ⟨rfl,hk⟩ | ⟨rfl,S,n,hk⟩
  . obtain ⟨its,_,pl,_⟩:=I.list hq;refine ⟨pl.isList.typeIs,fun a e=> ?_⟩
    cases e
    obtain ⟨o,n,e,c,hd,_⟩:=pl;exact ⟨o,e,hd⟩
  . refine ⟨⟨o,I.kIn p o hk,hc⟩,fun a e=> ?_⟩
    cases e
    exact ⟨o,I.kIn _ o hk,hd⟩
  . have z : ∃ o, s.heap.get? p = some o /\ o.ExactDict := by
     rcases hk with ⟨kvs,hk⟩ | ⟨kvs,hk⟩
     . obtain ⟨_,_,_,_,o,_,_,e,ex,_⟩:=I.hok p _ hk;exact ⟨o,e,ex⟩
     . obtain ⟨_,_,_,_,o,_,_,e,ex,_⟩:=I.hok p _ hk;exact ⟨o,e,ex⟩
    obtain ⟨o,e,ex⟩:=z;refine ⟨⟨o,e,ex.1⟩,fun a e2=> ?_⟩
    cases e2
    exact ⟨o,e,ex.2.1⟩
  . obtain ⟨o,_,_,_,e,ex,_⟩:=I.hok p _ hk;refine ⟨⟨o,e,ex.1⟩,fun a e2=> ?_⟩
    cases e2
    exact ⟨o,e,ex.2.1⟩
 | _=>exact False.elim ty
def tBM(K:PySem.W.Frag)(T:String)(r:V->List V->Hp->VK->Prop)(to:TE)(t:TA):TE:=fun σ H Q=>to σ H fun x H1=>tyV K T x H1/\t σ H1 fun xs H2=>r x xs H2 Q
variable {o e:Expr} {es:List Expr} {to:TE} {t:TA} {name:Str} {apos cpos:Pos} {T id:String} {r:V->List V->Hp->VK->Prop}
theorem gN (pa : PlainAttrs T) (slot : Slot T name id) (hty : typeOf (.builtin id) = pure (.type "method_descriptor")) (hm : MtR X id r) (ho : PE X o to) (ha : PA X (e :: es) t)
 (hbase:attributeBase o name X.env (eval o X.env)=eval o X.env:=by rfl)
 (hfew:((backTo cpos (starEach (e::es) X.env)).all (fun x=> !x.1) && (backToKw cpos (keywordEach [] X.env)).all (fun x=>x.1.isSome)
  && decide ((e::es).length+([]:List Keyword).length+(if ([]:List Keyword).isEmpty then 0 else 1)<30))=true:=by rfl)
 (hline:(apos.endLine==cpos.line)=true:=by rfl) (hs:starEach (e::es) X.env=(false,eval e X.env)::starEach es X.env:=by rfl) (hplain:(backTo cpos (starEach es X.env)).any (·.1)=false:=by rfl) :
 PE X (.Call (.Attribute o name apos) (e::es) [] cpos) (tBM X.K T r to t):=by
 intro pins s σ H Q I h;refine wpAny_Call_method_late hbase hfew hline rfl (thn (ho pins s σ H _ I h) fun v s1 ⟨x,H1,I1,r1,ty,q1⟩ => ?_);obtain ⟨h1,h2⟩:=xC I1 r1 ty;refine ⟨T,id,pa,slot,hty,h1,h2,?_⟩;have hA:=ha cpos pins s1 σ H1 _ I1 q1;rw [hs] at hA ⊢
 refine Calls.callWith_builtin (by show (false || (backTo cpos (starEach es X.env)).any (·.1))=false;rw [hplain] <;> rfl) (Calls.evalArgs_plain ?_);exact thn hA fun us s2 ⟨vs,H2,I2,r2,q2⟩=>hm pins s2 σ H2 x vs v us Q I2 r1 r2 q2
/- xs.append(e),list.index on a module's tuple .. are MtR facts of 06m -/
end
end L2
namespace L2
open PySem PySem.Spec PyProof.Rows
def MtM(X:Cx)(id:String)(r:V->List V->Hp->VK->Prop):Prop:=
 ∀(pins:List (Addr×Obj)) (s:Shared) (σ:St) (H:Hp) (x:V) (xs:List V) (v:Value) (us:List Value) (Q:VK),Inv X pins σ H s->RelV x v->Vals xs us->r x xs H Q ->
   wpAny (model X.prog X.w) X.A (call (.builtin id) (v::us)) (EP X pins σ Q) X.xe s
theorem Vals.one:∀ {x:V} {us:List Value},Vals [x] us->∃u,us = [u]/\RelV x u
 | _,_, .cons r .nil=>⟨_,rfl,r⟩
theorem Vals.reverse{xs:List V}{us:List Value}(h:Vals xs us):Vals xs.reverse us.reverse:=by
 induction h with
 | nil=>exact .nil
 | cons r t ih=>rw [IS,IS];exact Vals.append ih (.cons r .nil)
theorem Vals.rep{xs:List V}{us:List Value}(h:Vals xs us):∀k:Nat,Vals (List.replicate k xs).flatten (List.replicate k us).flatten
 | 0=> .nil
 | k+1=>by
  rw [FA,FA,GX,GX];exact Vals.append h (Vals.rep h k)
theorem SR (its : List Value) : ∀ (k : Nat) (acc : List Value),
 List.foldl (fun x1 x2=>x1++x2) acc.toArray (List.replicate k its.toArray)=(acc++(List.replicate k its).flatten).toArray
 | 0,acc=>by simp
 | k+1,acc=>by
  have e:acc.toArray++its.toArray=(acc++its).toArray:=by simp
  have e2:(acc++its)++(List.replicate k its).flatten=acc++(List.replicate (k+1) its).flatten:=by
   rw [FA,GX,M7]
  rw [<-e2, <-SR its k (acc++its), <-e,FA,List.foldl_cons]
section
variable {X:Cx} {pins:List (Addr×Obj)} {σ:St} {H:Hp} {s:Shared} {l b:Addr} {xs ys zs:List V}
theorem Inv.lset {its its' : List Value} {n : Nat} {f : Array Value -> Array Value} {t' : Nat} (I : Inv X pins σ H s) (hH : H l = some (.lst xs))
 (e:s.heap.get? l=some {cls:= .type "list",data:= .seq its.toArray n}) (hf:f its.toArray=its'.toArray) (hv:Vals ys its') (hz:ys.length<=sizeLine) :
 Inv X pins σ (upd H l (.lst ys)) {s with heap:=s.heap.update l (Obj.mapSeq f),toks:=t' }:=by
 have q:=PySem.IsL.update e f;rw [hf] at q
 refine I.write (x:=l) (e:=l) (by rw [hH];exact trivial) (.inl rfl) (fun b' u hb hu=>(SG s.heap (Obj.mapSeq f) (HQ hb)).trans hu) ⟨_,q⟩ ?_;exact ⟨hz,its',_,hv,q⟩
theorem Inv.lnew {its : List Value} {t' : Nat} (I : Inv X pins σ H s) (hv : Vals ys its) (hz : ys.length <= sizeLine) :
 Inv X pins σ (upd H s.heap.objs.size (.lst ys)) {s with heap:=s.heap.push {cls:= .type "list",data:= .seq its.toArray},toks:=t' } :=
 I.laid (fun _ _ q=>A5 _ q) (AA _) ⟨hz,its,0,hv,B7 _ rfl⟩
theorem Inv.fresh(I:Inv X pins σ H s):H s.heap.objs.size=none:=I.hok.fresh (AA _)
theorem Inv.lstM(I:Inv X pins σ H s)(hH:H l=some (.lst xs)):xs.length<=sizeLine/\∃(its:List Value) (n:Nat),Vals xs its/\xs.length=its.length/\s.heap.get? l=some {cls:= .type "list",data:= .seq its.toArray n}:=by
 obtain ⟨z,its,n,r,e⟩:=I.hok l _ hH;exact ⟨z,its,n,r,r.length,e⟩
theorem VH{n:Nat}(h:n<=sizeLine):Builtin.List.listTooLong n=false:=by
 unfold Builtin.List.listTooLong;exact decide_eq_false (by omega)
end
section
variable {X:Cx}
def rAppend:V->List V->Hp->VK->Prop:=fun x vs H Q=>∃l xs y,x = .ref l/\vs = [y]/\H l=some (.lst xs)/\xs.length<sizeLine/\Q .non (upd H l (.lst (xs ++ [y])))
theorem TQ:MtM X "list.append" rAppend:=by
 intro pins s σ H x vs v us Q I rx rv h;obtain ⟨l,xs,y,rfl,rfl,hH,hz,q⟩:=h
 cases rx
 obtain ⟨u,rfl,ru⟩:=rv.one;obtain ⟨z,its,n,r,hl,e⟩:=I.lstM hH;refine cE JR ⟨_,e,rfl⟩ F.entry_list_append (A46 _ _) (A28 l its.toArray n u (by rw [AU];omega)) ⟨e,?_⟩;refine ⟨.non,_,I.lset (its':=its ++ [u]) hH e (by simp) (r.append (.cons ru .nil)) ?_,rfl,q⟩;rw [AT,xO];omega
def rExtend:V->List V->Hp->VK->Prop:=fun x vs H Q=>∃l b xs zs,x = .ref l/\vs = [.ref b]/\H l=some (.lst xs)/\H b=some (.lst zs)/\xs.length+zs.length<=sizeLine/\Q .non (upd H l (.lst (xs++zs)))
theorem eZ:MtM X "list.extend" rExtend:=by
 intro pins s σ H x vs v us Q I rx rv h;obtain ⟨l,b,xs,zs,rfl,rfl,hH,hB,hz,q⟩:=h
 cases rx
 obtain ⟨u,rfl,ru⟩:=rv.one
 cases ru
 obtain ⟨z,its,n,r,hl,e⟩:=I.lstM hH;obtain ⟨z2,its2,n2,r2,hl2,e2⟩:=I.lstM hB;have hsz:its.toArray.size+its2.toArray.size<=sizeLine:=by rw [AU,AU];omega
 have hlong:¬(!its.toArray.isEmpty && Builtin.List.listTooLong (its.toArray.size+its2.toArray.size))=true:=by
  rw [VH hsz,Bool.and_false];exact F2
 refine cE F.slot_list_extend ⟨_,e,rfl⟩ F.entry_list_extend (F.args_list_extend_2 _ _)
  (AutoSeq1.list_extend_list_list_0 l its.toArray n b its2.toArray n2 hlong (by rw [AU];omega) (by omega)) ⟨e,e2,?_⟩
 refine ⟨.non,_,I.lset (its':=its++its2) hH e (by simp) (r.append r2) ?_,rfl,q⟩;rw [AT];omega
def rRep:R2:=fun x y H Q=>∃l k xs,x = .ref l/\y = .int k/\H l=some (.lst xs) /\ -(2 ^ 63)<=k/\k<2 ^ 63/\xs.length*k.toNat<=sizeLine /\
 ∀p,H p=none->Q (.ref p) (upd H p (.lst (List.replicate k.toNat xs).flatten))
theorem oC{α:Type}(xs:List α)(k:Nat):(List.replicate k xs).flatten.length=k*xs.length:=by
 induction k with
 | zero=>simp
 | succ k ih=>rw [FA,GX,AT,ih,NZ,Nat.add_comm]
theorem x8:OpR X (binaryOp .Mult) rRep:=by
 intro pins s σ H x y v u Q I rx ry h;obtain ⟨l,k,xs,rfl,rfl,hH,h1,h2,hz,q⟩:=h
 cases rx
 obtain ⟨t,rfl⟩:=ry;obtain ⟨z,its,n,r,hl,e⟩:=I.lstM hH;have hlen:its.toArray.size*k.toNat<=sizeLine:=by rw [AU, <-hl];exact hz
 have hcap:¬its.toArray.size*k.toNat>(2 ^ 63 - 1) / 8:=by
  have:(sizeLine:Nat)<=(2 ^ 63 - 1) / 8:=by decide
  omega
 have hfit:¬(!Builtin.List.listFitsIndex k)=true:=by
  rw [fitsIndex_both h1 h2];exact F2
 have hlong:¬Builtin.List.listTooLong (its.toArray.size*k.toNat)=true:=by
  rw [VH hlen];exact F2
 have hnew:List.foldl (fun x1 x2=>x1++x2) #[] (List.replicate (if its.toArray.isEmpty=true then 0 else k.toNat) its.toArray)=(List.replicate k.toNat its).flatten.toArray:=by
  have f0:∀m:Nat,List.foldl (fun x1 x2=>x1++x2) #[] (List.replicate m its.toArray)=(List.replicate m its).flatten.toArray:=fun m=>by
   have:=SR its m [];rw [List.nil_append] at this
   exact this
  rw [f0]
  cases its with
  | nil=>simp
  | cons a r'=>rw [AR (by simp)]
 refine wpAny_binaryOp_repeat_ref (T:= "list") (U:= "int") (by decide) ⟨_,e,rfl⟩ (fun s'=>typeIs_int s' k t) noFill_list_mul F.fills_int_mul F.slot_int_rmul repeat_list F.slot_int_index.lookup
  (cE F.slot_int_rmul (typeIs_int s k t) F.entry_int_rmul (F.args_int_rmul_2 _ _) (int___rmul___int_list k t l its.toArray n)
   ⟨e,rfl,⟨_,e,rfl⟩,cE F.slot_list_mul ⟨_,e,rfl⟩ F.entry_list_mul (F.args_list_mul_2 _ _) (AutoListH.list___mul___list_int_3 l its.toArray n k t hfit hcap hlong) ⟨e,?_⟩⟩)
 rw [hnew];exact ⟨.ref _,_,I.lnew (t':=s.toks) (r.rep k.toNat) (by rw [oC,IT];exact hz),rfl,q _ I.fresh⟩
end
section
variable {prog:Program} {w:World} {A:Around} {E:Value->Shared->Prop} {s:Shared}
end
section
variable {X:Cx}
end
end L2
namespace Att
open PySem PySem.W PySem.Calls PyProof.Rows
theorem PF{P:Params}{h:Heap}:∀(ns:List Int) (vs:List Value),WellAll P h vs (ns.map WData.int)->IntsAre vs ns:=by
 intro ns
 induction ns with
 | nil=>
  intro vs w;rw [sG] at w
  cases w
  exact .nil
 | cons n ns ih=>
  intro vs w;rw [CT] at w
  cases w with
  | cons a b=>
   cases a
   exact .cons _ _ (ih _ b)
theorem eQ {l : OpenLaw} {n : Nat} (hn : l.most = some n) {P : Params} {h : Heap} {args : List WData} {vals : List Value}
 (hpre:l.row.toRowW.claim.pre args=true) (hwl:WellAll P h vals args) :
 ∃a vs ns,vals = [Value.ref a]/\args = [WData.list (ns.map WData.int)]/\h.get? a=some {cls:= .type "list",data:= .seq vs.toArray}/\IntsAre vs ns/\ns.length<=n:=by
 have hsh:WShape.hasAll [] args [.list .int]=true:=(pre_splitW hpre).1;have hc:l.pre.holds [] {args:=args}=true:=(pre_splitW hpre).2;obtain ⟨d,r,rfl,h1,h2⟩:=hasAllW_cons hsh;obtain rfl:=hasAllW_nil h2;obtain ⟨xs,rfl,h3⟩:=hasW_list h1;obtain ⟨ns,rfl⟩:=items_int h3
 have hlen:ns.length<=n:=by
  unfold OpenLaw.pre at hc
  have h4:(WTm.not (.lt (.lit (.int (n:Int))) (.len (.arg 0)))).holds [] {args:= [.list (ns.map .int)]}=true:=by
   have h4:=(holds_andW hc).1;rw [hn] at h4
   exact h4
  have h5:=condW_of h4 (w_not (w_lt w_lit (w_len_list (w_arg rfl))));rw [A4] at h5
  refine Nat.le_of_not_lt fun q=> ?_;have q':(n:Int)<((ns.length:Nat):Int):=by omega
  first
   | (rw [ET q'] at h5;exact absurd h5 (by decide))
   | (simp at h5;omega)
 cases hwl with
 | cons w1 w2=>
  cases w2
  cases w1 with
  | list ho hall=>exact ⟨_,_,ns,rfl,rfl,ho,PF ns _ hall,hlen⟩
theorem cZ(l:OpenLaw)(args:List WData):l.row.toRowW.claim.post args (.bool true) args=true:=
 postW_of (r:=l.row.toRowW) (X:=(true==true))
  (show WShape.has [] (.bool true) .bool=true by first | rfl | decide | simp [WShape.has,WShape.arms,WShape.armsAll])
  (show (WTm.eq .res (.lit (.bool true))).value [] {args:=args,res:=some (.bool true),after:=args}=some (.bool (true==true)) from w_eq_bool (w_res rfl) w_lit) rfl
theorem attach_call {l : OpenLaw} {n : Nat} {q : Program} {loose : List Str} {XP : (Str -> Option Value) -> Heap -> Prop} {YP : World -> Heap -> Prop} {d : DefRec}
 (hn:l.most=some n) (hdf:d.params.defaults = [])
 (call:∀(w:World) (s₀ s₁:Shared) (mg mb:Str->Option Value) (fa:Addr) (o:Obj) (pm cd doc:Value) (a:Addr) (vs:List Value) (ns:List Int),
  Ground q loose [] XP w s₀ mg mb s₁.heap->YP w s₁.heap ->
  s₁.heap.get? fa=some o->o.data = .func (docDef d.name d.params d.body d.scope pm cd doc)->s₁.heap.CodeRec cd d.name->mg d.name=some (.ref fa) ->
  s₁.heap.get? a=some {cls:= .type "list",data:= .seq vs.toArray}->IntsAre vs ns->ns.length<=n->s₁.gens = #[] ->
  codeAny (model l.prog w) callerA (.call (.ref fa) ⟨[.ref a],[]⟩) (fun r s'=>r = .ok (.ret (.bool true))/\OldK s₁.heap s'.heap/\s'.os=s₁.os/\AllBare s'.gens) s₁) :
 WalkO q loose XP YP l.row.toRowW d [] (fun f vs=>PySem.call f vs):=by
 intro w s₀ s₁ mg mb G Y fa o pm cd doc dV kV ho hd hcd hD hmg hg args vals as hpre hlay hrd hwl hlo;obtain rfl:dV = .none:=Dflts.none hD hdf;obtain rfl:kV = .none:=Dflts.noKw hD;obtain ⟨a,vs,ns,rfl,rfl,hobj,hints,hlen⟩:=eQ hn hpre hwl;refine enter_call (fC (call w s₀ s₁ mg mb fa o pm cd doc a vs ns G Y ho (fd_plain hd) hcd hmg hobj hints hlen hg) fun r s' hq=> ?_);obtain ⟨rfl,h2,h3,h4⟩:=hq;exact ⟨.inl ⟨.bool true, .bool true,[],rfl,fun _=>rfl, .bool true,cZ l _,fun _=>⟨A29,fun _ hm=>(nomatch hm)⟩⟩,h2,h3,h4⟩
section
variable {prog:Program} {w:World} {A:Around} {E:Value->Shared->Prop} {s:Shared} {K:Frag}
end
end Att
namespace L2
open PySem PySem.Spec PyProof.Rows
theorem TZ:∀ {vs:List Value} {ns:List Int},IntsAre vs ns->Vals (ns.map V.int) vs
 | _,_, .nil=> .nil
 | _,_, .cons n t h=> .cons ⟨t,rfl⟩ (TZ h)
end L2
namespace L2
open PySem PySem.Spec PyProof.Rows
def N4(s:Stmt)(j:Nat):Stmt:=match s with
 | .ClassDef _ _ _ body _ _ _ _ _ _ _=>body.getD j (.Pass ⟨0,0,0,0⟩)
 | _=> .Pass ⟨0,0,0,0⟩
def LI(s:Stmt):Arguments:=match s with
 | .FunctionDef _ a _ _ _ _ _ _ _ _=>a
 | _=>{posonlyargs:= [],args:= [],vararg:=none,kwonlyargs:= [],kw_defaults:= [],kwarg:=none,defaults:= []}
def HK(s:Stmt):List Stmt:=match s with
 | .FunctionDef _ _ b _ _ _ _ _ _ _=>b
 | _=> []
def AO(s:Stmt):Scope:=match s with
 | .FunctionDef _ _ _ _ _ _ sc _ _ _=>sc
 | _=>{kind:= .function,names:= [],isGenerator:=false,isCoroutine:=false}
abbrev CX0:CXT:=fun _ _ _ _ _ _=>False
abbrev E0:XK:=fun _ _ _=>False
theorem XA{X:Cx}:OH CX0 X E0:=fun _ _ _ _ _ _ _ h=>h.elim
structure Fun (K:PySem.W.Frag) (x qual:Str) (st:Stmt) (f:Addr) (fd:FuncData):Prop where
 ex:∃(oc:Value) (od:Option Addr) (kV doc pm:Value) (an:Option Addr) (cdv ct:Value) (osl:Array (Option Value)),
  fd=PySem.W.fnOf x qual (LI st) (HK st) (AO st) .none kV doc pm an cdv ct/\K.lookup f=some ⟨oc,od, .func fd,osl⟩/\PySem.W.codeIn K cdv qual=true
 kp:PySem.W.keepIn K (.ref f)=true
section
variable {P:Program} {w:World} {K:PySem.W.Frag} {mg:Str->Option Value} {base:Heap}
theorem Fun.ok {x qual : Str} {st : Stmt} {f : Addr} {fd : FuncData} {N ps : List Str} {k : Nat} {sp : Sp} (F : Fun K x qual st f fd) (S : FnScope N ps (AO st)) (len : ∀ vs H Q E, sp vs H Q E -> vs.length = ps.length)
 (hbody:∀(cdv:Value) (A:Around) (outer:List Env) (s:Shared) (H:Hp) (vs:List V) (Q:VK) (E:XK),Room k (A.deeper (envOfC qual (AO st) s.heap.objs.size f cdv))->sp vs H Q E ->
  ∃t,PSs (PH CX0 P w K mg base N qual (AO st) f cdv A outer s H E).nox (HK st) t/\t {nx:=fun _ H'=>Q .non H',rt:=Q} (start N vs) H):FnOk P w K mg base CX0 (k+1) f fd ps sp:=by
 obtain ⟨oc,od,kV,doc,pm,an,cdv,ct,osl,rfl,lk,hcd⟩:=F.ex;refine zG lk hcd S len fun A outer s H vs Q E hr hsp=> ?_;obtain ⟨t,h,q⟩:=hbody cdv A outer s H vs Q E hr hsp;exact ⟨t,h.nox,q⟩
theorem Fun.binds {x qual : Str} {st : Stmt} {f : Addr} {fd : FuncData} {ps : List Str} (F : Fun K x qual st f fd)
 (h:∀(kV doc pm:Value) (an:Option Addr) (cdv ct:Value) (us:List Value),us.length=ps.length->bindArgs (PySem.W.fnOf x qual (LI st) (HK st) (AO st) .none kV doc pm an cdv ct) ⟨us,[]⟩=pure (ps.zip us)):Binds K fd ps []:=by
 obtain ⟨oc,od,kV,doc,pm,an,cdv,ct,osl,rfl,lk,hcd⟩:=F.ex;exact .all (h kV doc pm an cdv ct)
theorem CQ {x qual : Str} {st : Stmt} {f : Addr} {oc : Value} {od an : Option Addr} {osl : Array (Option Value)} {kV doc pm cdv ct : Value} (l : K.lookup f = some ⟨oc, od, .func (PySem.W.fnOf x qual (LI st) (HK st) (AO st) .none kV doc pm an cdv ct), osl⟩)
 (c:PySem.W.codeIn K cdv qual=true) (k:PySem.W.keepIn K (.ref f)=true):Fun K x qual st f (PySem.W.fnOf x qual (LI st) (HK st) (AO st) .none kV doc pm an cdv ct):=⟨⟨oc,od,kV,doc,pm,an,cdv,ct,osl,rfl,l,c⟩,k⟩
end
theorem ZG{A:Around}{k:Nat}(hr:Room k A):A.units+1<cLine:=D9 (Nat.add_le_add_left (by decide:1<=64) _) hr.units
section
variable {X:Cx}
end
theorem m8{A B:Prop}(h:B):if false=true then A else B:=by
 rw [AR F2];exact h
theorem p9{A B:Prop}(h:A):if true=true then A else B:=by
 rw [AN rfl];exact h
def Same(H H':Hp):Prop:=∀b o,H b=some o->H' b=some o
theorem Same.refl(H:Hp):Same H H:=fun _ _ h=>h
theorem Same.trans{H H1 H2:Hp}(a:Same H H1)(b:Same H1 H2):Same H H2:=fun c o h=>b c o (a c o h)
theorem Same.free{H H':Hp}(e:Same H H'){l:Addr}(h:H' l=Option.none):H l=Option.none:=by
 cases q:H l with
 | none=>rfl
 | some o=>
  rw [e l o q] at h
  cases h
theorem Same.seq{K:PySem.W.Frag}{H H':Hp}{a:Addr}{xs:List V}(e:Same H H')(h:SqL K H a xs):SqL K H' a xs:=by
 rcases h with (h | ⟨o,h⟩) | h
 . exact .inl (.inl (e _ _ h))
 . exact .inl (.inr ⟨o,e _ _ h⟩)
 . exact .inr h
end L2
namespace L2
open PySem PySem.Spec PyProof.Rows
section
variable {κ:Type} [DecidableEq κ]
def zK(kvs:List (κ×V))(k:κ):Option V:=(kvs.find? fun kv=>decide (kv.1=k)).map (·.2)
def yO(kvs:List (κ×V))(k:κ)(v:V):List (κ×V) :=
 if (kvs.any fun kv=>decide (kv.1=k))=true then kvs.map (fun kv=>if kv.1=k then (kv.1,v) else kv) else kvs ++ [(k,v)]
end
abbrev KT (H:Hp):List (List Key×V)->List (List Key×Addr×Value)->Prop:=Paired fun p q=>p.1=q.1/\H q.2.1=some (.tup (p.1.map kV))/\RelV p.2 q.2.2
section
variable {P:Program} {w:World} {H:Hp} {h:Heap} {a:Addr}
end
def A39(H:Hp)(a:Addr)(y:V)(r:Option V):Prop:=
 (∃kvs k,Rd H a (.dK kvs)/\y=kV k/\r=zK kvs k)\/∃kvs k b,Rd H a (.dT kvs)/\y = .ref b/\H b=some (.tup (k.map kV))/\r=zK kvs k
def A40(H:Hp)(a:Addr)(y v:V)(H':Hp):Prop:=
 (∃kvs k,H a=some (.dK kvs)/\y=kV k/\kvs.length<sizeLine/\H'=upd H a (.dK (yO kvs k v))) \/
 ∃kvs k b,H a=some (.dT kvs)/\y = .ref b/\H b=some (.tup (k.map kV))/\kvs.length<sizeLine/\H'=upd H a (.dT (yO kvs k v))
section
variable {X:Cx} {pins:List (Addr×Obj)} {σ:St} {H:Hp} {s:Shared} {a:Addr} {y v:V} {u r:Value} {o:Option V} {A:Around} {E:Value->Shared->Prop}
theorem Inv.big(I:Inv X pins σ H s):sysModules<s.heap.objs.size:=by
 have h:mainGlobals<s.heap.objs.size:=(I.mod.glob.keeps I.bk).lt;exact Nat.lt_trans (by decide) h
theorem qE {h' : Heap} {t' : Nat} {ob : HO} (I : Inv X pins σ H s) (mu : Mut (H a)) (hs : Heap.SameBut a s.heap h') (he : ∃ q, h'.get? a = some q) (new : ObjOk X.prog X.w (upd H a ob) h' a ob) :
 Inv X pins σ (upd H a ob) {s with heap:=h',toks:=t' } :=
 I.write (x:=a) (e:=a) mu (.inl rfl) (fun b q hb z=>(hs.2 b hb).trans z) he new
end
section
variable {X:Cx} {pins:List (Addr×Obj)} {σ:St} {H:Hp} {s:Shared} {a:Addr} {kvs:List (Key×V)} {k:Key} {u:Value} {A:Around} {E:Value->Shared->Prop}
end
def tG(i:Expr):Prop:=∀ov iv,subscripted i false ov iv=operate [ov,iv] (getItem ov iv)
theorem nJ {prog : Program} {w : World} {A : Around} {E : Value -> Shared -> Prop} {s : Shared} {env : Env} {value slice : Expr} {pos : Pos} {T id : String} {Q : Value -> Shared -> Prop}
 (hl:typeLookup (.type T) "__getitem__" = pure (some (.builtin id))) (hs:tG slice)
 (h:wpAny (model prog w) A (eval value env) (fun o s₁=>wpAny (model prog w) A (eval slice env) (fun i s₂=>s₂.TypeIs o T/\wpAny (model prog w) A (getItem o i) Q E s₂) E s₁) E s) :
 wpAny (model prog w) A (eval (.Subscript value slice pos) env) Q E s:=by
 refine Subscript_ (wpAny_mono h (fun o s₁ h₁=>wpAny_mono h₁ (fun i s₂ h₂=> ?_) fun _ _ x=>x) fun _ _ x=>x);obtain ⟨hT,h₂⟩:=h₂;unfold subscriptTail;refine wpAny_bind ?_;rw [getitemInPython_of_ne hT.not_modules];refine wpAny_bind (wpAny_specialOf hT hl ?_)
 have fin:wpAny (model prog w) A (subscripted slice false o i) (fun r s₃=>wpAny (model prog w) A (letTemporaryGo value o r >>= fun _=>pure r) Q E s₃) E s₂:=by
  rw [hs o i];exact wpAny_operating (GZ h₂ (fun r s₃ h₃=>A7 (wpAny_letTemporaryGo (AX h₃))) fun _ _ x=>x)
 first
  | exact AX (A7 fin)
  | exact A7 (AX (A7 fin))
  | exact A7 fin
section
variable {X:Cx} {o i e value:Expr} {pos pos' tpos:Pos} {td ty tv:TE}
end
section
variable {X:Cx} {pos:Pos}
end
structure M1 (X:Cx) (o:Expr) (m:Str) (apos:Pos) (e:Expr) (cpos:Pos):Prop where
 base:attributeBase o m X.env (eval o X.env)=eval o X.env
 few:((backTo cpos (starEach [e] X.env)).all (fun x=> !x.1) && (backToKw cpos (keywordEach [] X.env)).all (fun x=>x.1.isSome)
  && decide (([e]:List Expr).length+([]:List Keyword).length+(if ([]:List Keyword).isEmpty then 0 else 1)<30))=true
 line:(apos.endLine==cpos.line)=true
 trees:backTo cpos (starEach [e] X.env) = [(false,eval e X.env)]
structure M2 (X:Cx) (o:Expr) (m:Str) (apos:Pos) (e f:Expr) (cpos:Pos):Prop where
 base:attributeBase o m X.env (eval o X.env)=eval o X.env
 few:((backTo cpos (starEach [e,f] X.env)).all (fun x=> !x.1) && (backToKw cpos (keywordEach [] X.env)).all (fun x=>x.1.isSome)
  && decide (([e,f]:List Expr).length+([]:List Keyword).length+(if ([]:List Keyword).isEmpty then 0 else 1)<30))=true
 line:(apos.endLine==cpos.line)=true
 trees:backTo cpos (starEach [e,f] X.env) = [(false,eval e X.env),(false,eval f X.env)]
section
variable {X:Cx} {pins:List (Addr×Obj)} {σ:St} {H:Hp} {s:Shared} {a:Addr} {y d:V} {u r:Value} {o:Option V} {A:Around} {E:Value->Shared->Prop}
end
section
variable {X:Cx} {o e f:Expr} {apos cpos:Pos} {td ty tx:TE}
end
section
variable {X:Cx} {pins:List (Addr×Obj)} {σ:St} {H:Hp} {s:Shared} {a:Addr} {kvs:List (Key×V)} {A:Around} {E:Value->Shared->Prop}
end
section
variable {X:Cx} {pins:List (Addr×Obj)} {σ:St} {H:Hp} {s:Shared} {a:Addr} {y:V} {u:Value} {A:Around} {E:Value->Shared->Prop}
end
section
variable {κ:Type} [DecidableEq κ]
end
end L2
namespace Tf
open PySem PySem.Spec PyProof.Rows L2
theorem tX:bootBuiltins "abs" = some (.builtin "abs"):=by decide +kernel
theorem GW:bootBuiltins "len" = some (.builtin "len"):=by decide +kernel
theorem bt_sum:bootBuiltins "sum" = some (.builtin "sum"):=by decide +kernel
theorem uK:bootBuiltins "int" = some (.type "int"):=by decide +kernel
theorem UW:bootBuiltins "list" = some (.type "list"):=by decide +kernel
theorem NW:bootBuiltins "tuple" = some (.type "tuple"):=by decide +kernel
theorem jN:bootBuiltins "range" = some (.type "range"):=by decide +kernel
theorem i3:bootBuiltins "zip" = some (.type "zip"):=by decide +kernel
theorem UA:bootBuiltins "enumerate" = some (.type "enumerate"):=by decide +kernel
theorem P4:bootBuiltins "reversed" = some (.type "reversed"):=by decide +kernel
def Bt(n:Nat)(i:Int):Prop:=i.natAbs<2 ^ n
theorem Bt.mono{n m:Nat}{i:Int}(h:Bt n i)(k:n<=m):Bt m i:=AM h (BW (by decide) k)
theorem Bt.mul{n m:Nat}{i j:Int}(h:Bt n i)(k:Bt m j):Bt (n+m) (i*j):=by
 unfold Bt at *
 rw [HD,xT];exact Nat.mul_lt_mul_of_lt_of_le h (HP k) (D9 (DZ _) k)
theorem Bt.add{n m:Nat}{i j:Int}(h:Bt n i)(k:Bt m j):Bt (max n m+1) (i+j):=by
 unfold Bt at *
 have h1:i.natAbs<2 ^ (max n m):=AM h (BW (by decide) (Nat.le_max_left _ _));have h2:j.natAbs<2 ^ (max n m):=AM k (BW (by decide) (Nat.le_max_right _ _));have h3:=VD i j;rw [O0];omega
theorem Bt.neg{n:Nat}{i:Int}(h:Bt n i):Bt n (-i):=by
 unfold Bt at *
 rw [Int.natAbs_neg];exact h
theorem Bt.sub{n m:Nat}{i j:Int}(h:Bt n i)(k:Bt m j):Bt (max n m+1) (i - j):=by
 rw [A03];exact h.add k.neg
theorem Bt.of_le{n:Nat}{i j:Int}(h:Bt n j)(k:i.natAbs<=j.natAbs):Bt n i:=D9 k h
theorem Bt.fdiv{n:Nat}{i j:Int}(h:Bt n i):Bt n (i.fdiv j):=by
 refine h.of_le ?_
 by_cases hj:j=0
 . subst hj;simp
 . have key : ∀ (a b : Int), 0 < b -> (a.fdiv b).natAbs <= a.natAbs := by
    intro a b hb;rw [KO a (HU hb)];exact lM a b
   rcases (by omega:0<j\/j<0) with p | p
   . exact key i j p
   . have:=key (-i) (-j) (by omega);rw [Int.neg_fdiv_neg] at this
     simpa using this
theorem Bt.zero(n:Nat):Bt n 0:=by
 unfold Bt;simpa using Nat.pow_pos (by decide)
theorem Bt.bits{n:Nat}{i:Int}(h:Bt n i):Builtin.Int.intBits i<=n:=by
 unfold Builtin.Int.intBits
 split
 . exact DZ _
 . rename_i hz
   have h0:i.natAbs≠0:=by
    intro e;apply hz;have:i=0:=by omega
    subst this;rfl
   exact (Nat.log2_lt h0).mpr h
theorem Bt.log{n:Nat}{i:Int}(h:Bt n i)(hn:0<n):i.natAbs.log2<n:=by
 by_cases h0:i.natAbs=0
 . rw [h0];simpa using hn
 . exact (Nat.log2_lt h0).mpr h
theorem yR{n m:Nat}{i j:Int}(h:Bt n i)(k:Bt m j)(hn:n+m<=134217728):IntMulOk i j:=by
 unfold IntMulOk;have hb1:=h.bits;have hb2:=k.bits
 have:Builtin.Int.intTooBig (Builtin.Int.intBits i+Builtin.Int.intBits j)=false:=by
  unfold Builtin.Int.intTooBig;apply decide_eq_false;unfold bitsLine;have:(2:Nat) ^ 27=134217728:=by decide
  rw [this];omega
 rw [this];simp
def rW(i j:Int):Prop:=∃n m,Bt n i/\Bt m j/\n+m<=134217728
def fH(_i j:Int):Prop:=j≠0/\Bt 9000 j
section
variable {X:Cx}
theorem gA:OpR X (binaryOp .FloorDiv) (rI fH fun i j=> .int (i.fdiv j)):=opI fun _ _ _ _ _ _ _ hc q=>floordiv_int hc.1 q (.inl (lQ (hc.2.log (by decide))))
theorem IC{i j:Int}{n m:Nat}(h:Bt n i)(k:Bt m j)(e:decide (n+m<=134217728)=true):rW i j:=⟨n,m,h,k,AD e⟩
theorem yI{i j:Int}(h:(decide (0<=j) && decide (j<=1000000) && decide (i.natAbs<2 ^ 64))=true):q5 i j:=by
 rw [F3,F3] at h
 exact ⟨AD h.1.1,AD h.1.2,AD h.2⟩
inductive TyV (K:PySem.W.Frag) (H:Hp):V->String->Prop where
 | non:TyV K H .non "NoneType"
 | bl (x:Bool):TyV K H (.bl x) "bool"
 | int (i:Int):TyV K H (.int i) "int"
 | str (x:Str):TyV K H (.str x) "str"
 | lst {a:Addr} {xs:List V} (e:SqL K H a xs):TyV K H (.ref a) "list"
 | tup {a:Addr} {xs:List V} (e:SqT K H a xs):TyV K H (.ref a) "tuple"
def A18(k:List Int):Int:=reduceHash (Builtin.Tuple.tupleHashOf (k.map hashInt))
def A10(x:List Int×Addr×Value):DictEntry:=⟨A18 x.1, .ref x.2.1,x.2.2⟩
def DcE(a:Addr)(es:List (List Int×Addr×Value)):Heap->Prop:=fun h=>∃o xs ep,h.get? a=some o/\o.ExactDict/\o.data = .dict xs ep/\xs.toList=es.map A10/\(es.map (·.1)).Nodup/\(a==sysModules)=false/\es.length<=sizeLine
def KA(K:PySem.W.Frag)(H:Hp)(es:List (List Int×Addr×Value)):Prop:=∀e ∈ es,SqT K H e.2.1 (e.1.map V.int)
def tIk(k:List Int):PyData:= .tuple (k.map .int)
mutual
inductive Rep (K:PySem.W.Frag) (H:Hp):V->PyData->Prop
 | none:Rep K H .non .none
 | bool (b:Bool):Rep K H (.bl b) (.bool b)
 | int (i:Int):Rep K H (.int i) (.int i)
 | str (x:Str):Rep K H (.str x) (.str x)
 | list {a:Addr} {xs:List V} {ds:List PyData}:SqL K H a xs->Reps K H xs ds->Rep K H (.ref a) (.list ds)
 | tuple {a:Addr} {xs:List V} {ds:List PyData}:SqT K H a xs->Reps K H xs ds->Rep K H (.ref a) (.tuple ds)
 | dict {a:Addr} {es:List (List Int×Addr×Value)} {xs:List V} {ds:List PyData}:H a=some (.ext (DcE a es))->KA K H es->Vals xs (es.map (·.2.2))->Reps K H xs ds->Rep K H (.ref a) (.dict ((es.map fun e=>tIk e.1).zip ds))
inductive Reps (K:PySem.W.Frag) (H:Hp):List V->List PyData->Prop
 | nil:Reps K H [] []
 | cons {v:V} {vs:List V} {d:PyData} {ds:List PyData}:Rep K H v d->Reps K H vs ds->Reps K H (v::vs) (d::ds)
end
theorem Reps.length{K:PySem.W.Frag}{H:Hp}:∀ {vs:List V} {ds:List PyData},Reps K H vs ds->vs.length=ds.length
 | _,_, .nil=>rfl
 | _,_, .cons _ t=>by rw [C8,C8,Reps.length t]
mutual
theorem Rep.reads{pins:List (Addr×Obj)}{σ:L2.St}{H:Hp}{s:Shared}(I:Inv X pins σ H s):∀ {v:V} {d:PyData} {u:Value},Rep X.K H v d->RelV v u->d.canLay0=true->∃as,Reads s.heap u d as
 | _,_,_, .none,r,_=>by cases (show _=Value.none from r);exact ⟨_, .none⟩
 | _,_,_, .bool b,r,_=>by cases (show _=Value.bool b from r);exact ⟨_, .bool b⟩
 | _,_,_, .int i,r,_=>by obtain ⟨t,q⟩:=(show ∃t,_=Value.int i t from r);cases q;exact ⟨_, .int i t⟩
 | _,_,_, .str x,r,_=>by obtain ⟨t,q⟩:=(show ∃t,_=Value.str x t from r);cases q;exact ⟨_, .str x t⟩
 | _,_,_, .list (a:=a) h hs,r,c=>by
  cases (show _=Value.ref a from r)
  obtain ⟨its,rv,⟨o,n,h1,h2,_,h3⟩,_⟩:=I.list h;obtain ⟨as,ra⟩:=Reps.reads I hs rv (by simpa [PyData.canLay0] using c)
  exact ⟨_, .list h1 h2 h3 (by simpa using ra)⟩
 | _,_,_, .tuple (a:=a) h hs,r,c=>by
  cases (show _=Value.ref a from r)
  obtain ⟨its,rv,⟨o,h1,h2,n,h3⟩,_⟩:=I.tuple h;obtain ⟨as,ra⟩:=Reps.reads I hs rv (by simpa [PyData.canLay0] using c)
  exact ⟨_, .tuple h1 h2 h3 (by simpa using ra)⟩
 | _,_,_, .dict _ _ _ _,_,c=>by simp [PyData.canLay0] at c
theorem Reps.reads{pins:List (Addr×Obj)}{σ:L2.St}{H:Hp}{s:Shared}(I:Inv X pins σ H s):∀ {vs:List V} {ds:List PyData} {us:List Value},Reps X.K H vs ds->Vals vs us->PyData.canLayAll0 ds=true->∃as,ReadsAll s.heap us ds as
 | _,_,_, .nil,r,_=>by cases r;exact ⟨_, .nil⟩
 | _,_,_, .cons h hs,r,c=>by
  have c:=xU.mp (show (_ && _)=true by rw [<-PyData.canLayAll0];exact c)
  cases r with
  | cons r1 r2=>
   obtain ⟨as,q⟩:=Rep.reads I h r1 c.1;obtain ⟨bs,q2⟩:=Reps.reads I hs r2 c.2;exact ⟨_, .cons q q2⟩
end
theorem JY:∀ {ds:List PyData},(∀d ∈ ds,d.canLay0=true)->PyData.canLayAll0 ds=true
 | [],_=>by simp [PyData.canLayAll0]
 | d::ds,h=>by
  simp only [PyData.canLayAll0,F3];exact ⟨h d D8,JY fun e he=>h e (BV _ he)⟩
def yW(K:PySem.W.Frag):R2:=fun x y H Q=>∃dx dy,Rep K H x dx/\Rep K H y dy/\dx.canLay0=true/\dy.canLay0=true/\min dx.depth dy.depth<=60/\Q (.bl (PyData.eqv dx dy)) H
def yV(K:PySem.W.Frag):R2:=fun x y H Q=>∃dx dy,Rep K H x dx/\Rep K H y dy/\dx.canLay0=true/\dy.canLay0=true/\min dx.depth dy.depth<=60/\Q (.bl (!PyData.eqv dx dy)) H
theorem jW(hu:X.A.units+64<cLine):OpR X (compareOp .Eq) (yW X.K):=by
 intro pins s σ H x y v u Q I rx ry h;obtain ⟨dx,dy,h1,h2,c1,c2,hd,q⟩:=h;obtain ⟨as,r1⟩:=h1.reads I rx c1;obtain ⟨bs,r2⟩:=h2.reads I ry c2;exact SeqAt.compareEq_reads r1 r2 c1 c2 (by omega) ⟨.bl _,H,I,rfl,q⟩
theorem t5(hu:X.A.units+64<cLine):OpR X (compareOp .NotEq) (yV X.K):=by
 intro pins s σ H x y v u Q I rx ry h;obtain ⟨dx,dy,h1,h2,c1,c2,hd,q⟩:=h;obtain ⟨as,r1⟩:=h1.reads I rx c1;obtain ⟨bs,r2⟩:=h2.reads I ry c2;exact SeqAt.compareNe_reads r1 r2 c1 c2 (by omega) ⟨.bl _,H,I,rfl,q⟩
end
theorem _root_.L2.Same.upd{H:Hp}{p:Addr}(h:H p=none)(o:HO):Same H (L2.upd H p o):=fun b u q=>by rw [BP (BT q h)];exact q
theorem _root_.L2.Same.seqT{K:PySem.W.Frag}{H H':Hp}{a:Addr}{xs:List V}(e:Same H H')(h:SqT K H a xs):SqT K H' a xs:=by
 rcases h with (h | ⟨o,h⟩) | h
 . exact .inl (.inl (e _ _ h))
 . exact .inl (.inr ⟨o,e _ _ h⟩)
 . exact .inr h
mutual
theorem Rep.same{K:PySem.W.Frag}{H H':Hp}(e:Same H H'):∀ {v:V} {d:PyData},Rep K H v d->Rep K H' v d
 | _,_, .none=> .none
 | _,_, .bool b=> .bool b
 | _,_, .int i=> .int i
 | _,_, .str x=> .str x
 | _,_, .list h hs=> .list (e.seq h) (Reps.same e hs)
 | _,_, .tuple h hs=> .tuple (Same.seqT e h) (Reps.same e hs)
 | _,_, .dict h ka hl hs=> .dict (e _ _ h) (fun x hx=>Same.seqT e (ka x hx)) hl (Reps.same e hs)
theorem Reps.same{K:PySem.W.Frag}{H H':Hp}(e:Same H H'):∀ {vs:List V} {ds:List PyData},Reps K H vs ds->Reps K H' vs ds
 | _,_, .nil=> .nil
 | _,_, .cons h hs=> .cons (Rep.same e h) (Reps.same e hs)
end
section
variable {CX:CXT} {P:Program} {w:World} {K:PySem.W.Frag} {mg:Str->Option Value} {base:Heap} {N:List Str} {qual:Str} {scope:Scope} {f:Addr} {cd:Value} {A:Around} {outer:List Env} {s:Shared} {H:Hp} {E:XK}
end
structure Def (P:Program) (w:World) (K:PySem.W.Frag) (mg:Str->Option Value) (base:Heap) (k:Nat) (x:Str) (ps:List Str) (sp:Sp):Prop where
 ex:∃f fd,FnOk P w K mg base CX0 k f fd ps sp/\mg x=some (.ref f)/\PySem.W.keepIn K (.ref f)=true/\Binds K fd ps []
section
variable {X:Cx} {k j:Nat} {x:Str} {ps:List Str} {sp:Sp} {p pos:Pos} {e:Expr} {es:List Expr} {t:TA}
theorem X6 (D : Def X.prog X.w X.K X.mg X.base j x ps sp) (hr : Room k X.A) (ha : PA X (e :: es) t) (hj : j <= k := by decide) (hg : Gl X x := by rfl)
 (hdb:(x==("__debug__" : Str))=false:=by decide) (he:starEach (e::es) X.env=(false,eval e X.env)::starEach es X.env:=by rfl) (hpl:(backTo pos (starEach es X.env)).any (·.1)=false:=by rfl) :
 PE X (.Call (.Name x p) (e::es) [] pos) (ZH sp [] E0 t):=by
 obtain ⟨f,fd,F,hm,hk,hb⟩:=D.ex;exact oI F (hr.mono hj) hg hm hk hb .nil XA ha hdb he hpl
end
end Tf
namespace Tf
open PySem PySem.Spec PyProof.Rows L2
def HL(cells:List (Str×Addr)):List (Str×NameKind)->List (Str×Addr)->List (Str×Addr)
 | [],acc=>acc
 | (n,k)::r,acc=>if k == .free then HL cells r ((n,(cells.lookup n).getD 0)::acc) else HL cells r acc
theorem P0 {env : Env} : ∀ (names : List (Str × NameKind)) (acc : List (Str × Addr)), (∀ y ∈ names, y.2 = .free -> ∃ c, env.cells.lookup y.1 = some c) ->
 (forIn names acc fun (x:Str×NameKind) (r:List (Str×Addr))=>(match x with | (name,kind)=>if (kind==NameKind.free)=true then do let a <-cellOf env name;pure (ForInStep.yield ((name,a)::r)) else pure (ForInStep.yield r):Sem (ForInStep (List (Str×Addr)))))=pure (HL env.cells names acc)
 | [],acc,_=>by rw [QA];rfl
 | (n,k)::r,acc,h=>by
  have ih:=fun acc=>P0 r acc fun y hy=>h y (List.mem_cons_of_mem _ hy);rw [List.forIn_cons];unfold HL
  by_cases hk:(k==NameKind.free)=true
  . obtain ⟨c,hc⟩:=h (n,k) List.mem_cons_self (by simpa using hk);have e:cellOf env n=pure c:=by unfold cellOf;rw [hc]
    simp only [hk,HS,e];rw [hc];exact ih ((n,c)::acc)
  . simp only [hk,VC];exact ih acc
theorem ME{scope:Scope}{env:Env}(h:∀y ∈ scope.names,y.2 = .free->∃c,env.cells.lookup y.1=some c):closureFor scope env=pure (HL env.cells scope.names []):=by
 unfold closureFor;have:=P0 (env:=env) scope.names [] h;simp only [bind_pure];exact this
theorem R9{cells:List (Str×Addr)}:∀ {names:List (Str×NameKind)} {acc:List (Str×Addr)} {x:Str} {c:Addr},(HL cells names acc).lookup x=some c->acc.lookup x=some c\/((x,NameKind.free) ∈ names/\c=(cells.lookup x).getD 0)
 | [],_,_,_,h=> .inl h
 | (n,k)::r,acc,x,c,h=>by
  unfold HL at h
  split at h
  . rename_i hk;rcases R9 h with q | ⟨q,e⟩
    . rw [DK] at q
      cases hx:x==n with
      | true=>
       rw [hx] at q
       have e:=EH.mp hx;subst e;have hk':k = .free:=by simpa using hk
       subst hk'
       exact .inr ⟨D8,(AY q).symm⟩
      | false=>rw [hx] at q;exact .inl q
    . exact .inr ⟨BV _ q,e⟩
  . rcases R9 h with q | ⟨q,e⟩
    . exact .inl q
    . exact .inr ⟨BV _ q,e⟩
theorem OC{cells:List (Str×Addr)}:∀ {names:List (Str×NameKind)} {acc:List (Str×Addr)} {x:Str},acc.lookup x=some ((cells.lookup x).getD 0)->(HL cells names acc).lookup x=some ((cells.lookup x).getD 0)
 | [],_,_,h=>h
 | (n,k)::r,acc,x,h=>by
  unfold HL
  split
  . refine OC ?_;rw [DK]
    cases hx:x==n with
    | true=>have e:=EH.mp hx;subst e;rfl
    | false=>exact h
  . exact OC h
theorem KE{cells:List (Str×Addr)}:∀ {names:List (Str×NameKind)} {acc:List (Str×Addr)} {x:Str},(x,NameKind.free) ∈ names->(HL cells names acc).lookup x=some ((cells.lookup x).getD 0)
 | (n,k)::r,acc,x,h=>by
  unfold HL;rcases List.mem_cons.mp h with e | h
  . cases e
    simp only [MY,HS];exact OC (by rw [DK,MY])
  . split
    . exact KE h
    . exact KE h
theorem LA:∀(names:List (Str×NameKind)) (n:Nat) (acc:List (Str×Addr)),cellsFrom n names acc=cellsFrom n names []++acc
 | [],_,_=>rfl
 | (x,k)::r,n,acc=>by
  unfold cellsFrom
  split
  . rw [LA r (n+1) ((x,n)::acc),LA r (n+1) [(x,n)],M7];rfl
  . exact LA r n acc
theorem J7{α:Type}(x:Str):∀(a b:List (Str×α)),(a++b).lookup x=(match a.lookup x with | some c=>some c | none=>b.lookup x)
 | [],b=>rfl
 | (k,v)::r,b=>by
  rw [JK,DK,DK]
  cases hx:x==k with
  | true=>rfl
  | false=>exact J7 x r b
theorem YS:∀ {names:List (Str×NameKind)} {n:Nat} {acc:List (Str×Addr)} {x:Str},(x,NameKind.cell) ∈ names->∃c,(cellsFrom n names acc).lookup x=some c
 | (y,k)::r,n,acc,x,h=>by
  unfold cellsFrom;rcases List.mem_cons.mp h with e | h
  . obtain ⟨rfl,rfl⟩:=Prod.mk.inj e;simp only [MY,HS];rw [LA,J7]
    cases q:(cellsFrom (n+1) r []).lookup x with
    | some c=>exact ⟨c,rfl⟩
    | none=>exact ⟨n,by simp [DK]⟩
  . split
    . exact YS h
    . exact YS h
theorem Y7:∀ {names:List (Str×NameKind)} {n:Nat} {x:Str} {c:Addr},(x,c) ∈ cellsFrom n names []->(x,NameKind.cell) ∈ names
 | (y,k)::r,n,x,c,h=>by
  unfold cellsFrom at h
  split at h
  . rename_i hk;rw [LA] at h
    rcases DU.mp h with q | q
    . exact BV _ (Y7 q)
    . have hk':k = .cell:=by simpa using hk
      subst hk';have e:(x,c)=(y,n):=by simpa using q
      cases e
      exact D8
  . exact BV _ (Y7 h)
def NE(sc osc:Scope):Scope:=
 {sc with names:=sc.names.map fun (n,k)=>if (k == .free && osc.kind == .function && osc.names.lookup n==some .cell) then (n, .cell) else (n,k)}
theorem QU(sc:Scope)(env:Env):relabel sc env=NE sc env.scope:=rfl
theorem GQ {osc : Scope} : ∀ {names : List (Str × NameKind)} {x : Str} {k : NameKind}, (names.map fun (p : Str × NameKind) => (match p with | (n, k) => if (k == NameKind.free && osc.kind == .function && osc.names.lookup n == some NameKind.cell) = true then (n, NameKind.cell) else (n, k))).lookup x = some k ->
 ∃k',names.lookup x=some k'/\(k'=k\/(k' = .free/\k = .cell))
 | [],_,_,h=>by simp at h
 | (n,k0)::r,x,k,h=>by
  rw [CT] at h
  by_cases hc:(k0==NameKind.free && osc.kind == .function && osc.names.lookup n==some NameKind.cell)=true
  . simp only [hc,HS] at h
    rw [DK] at h
    cases hx:x==n with
    | true=>
     rw [hx] at h
     simp only [M8] at h
     subst h;refine ⟨k0,by rw [DK,hx], .inr ⟨?_,rfl⟩⟩;simp only [F3,EH] at hc
     exact hc.1.1
    | false=>
     rw [hx] at h
     obtain ⟨k',e,d⟩:=GQ h;exact ⟨k',by rw [DK,hx];exact e,d⟩
  . simp only [AR hc] at h
    rw [DK] at h
    cases hx:x==n with
    | true=>
     rw [hx] at h
     simp only [M8] at h
     subst h
     exact ⟨k0,by rw [DK,hx], .inl rfl⟩
    | false=>
     rw [hx] at h
     obtain ⟨k',e,d⟩:=GQ h;exact ⟨k',by rw [DK,hx];exact e,d⟩
theorem JM{α:Type}:∀ {l:List (Str×α)} {x:Str} {k:α},(l.map (·.1)).Nodup->(x,k) ∈ l->l.lookup x=some k
 | (y,j)::r,x,k,nd,h=>by
  rw [CT,ID] at nd
  rw [DK];rcases B8.mp h with e | h'
  . cases e;rw [MY]
  . have : (x == y) = false := by
     apply F9.mpr;intro e;subst e;exact nd.1 (CW.mpr ⟨_,h',rfl⟩)
    rw [this];exact JM nd.2 h'
def dD(osc sc:Scope)(N N':List Str)(ix:List (Option Nat)):Bool:=
 decide (sc.kind = .function) && decide (osc.kind = .function) && sc.names.all (fun y=>decide (y.2 = .local->sc.names.lookup y.1=some .local)) &&
 sc.names.all (fun y=>decide (y.2 = .free->(osc.names.lookup y.1=some .cell\/osc.names.lookup y.1=some .free))) && decide (N'.Nodup) && decide ((sc.names.map (·.1)).Nodup) && decide (N'.length=ix.length) &&
 (List.range ix.length).all fun i=>match ix[i]? with
  | some (some j)=>decide (N[j]? = N'[i]?) && (match N'[i]? with | some x=>decide (sc.names.lookup x=some .free) | none=>false)
  | _=>true
structure CS (osc sc:Scope) (N N':List Str) (ix:List (Option Nat)):Prop where
 kind:sc.kind = .function
 okind:osc.kind = .function
 names:∀y ∈ sc.names,y.2 = .local->sc.names.lookup y.1=some .local
 free:∀y ∈ sc.names,y.2 = .free->osc.names.lookup y.1=some .cell\/osc.names.lookup y.1=some .free
 nd:N'.Nodup
 ns:(sc.names.map (·.1)).Nodup
 len:N'.length=ix.length
 ixs:∀(i j:Nat),ix[i]? = some (some j)->∃x,N'[i]? = some x/\N[j]? = some x/\sc.names.lookup x=some .free
theorem CS.of{osc sc:Scope}{N N':List Str}{ix:List (Option Nat)}(h:dD osc sc N N' ix=true):CS osc sc N N' ix:=by
 unfold dD at h
 simp only [F3,FP,A30] at h
 obtain ⟨⟨⟨⟨⟨⟨⟨h1,h2⟩,h3⟩,h4⟩,h5⟩,h8⟩,h6⟩,h7⟩:=h;refine ⟨h1,h2,h3,h4,h5,h8,h6,fun i j e=> ?_⟩;have hi:i<ix.length:=(B6.mp e).1;have q:=h7 i (C5.mpr hi);rw [e] at q
 simp only [F3,A30] at q
 cases e2:N'[i]? with
 | none=>rw [e2] at q;exact absurd q.2 (by simp)
 | some x=>
  rw [e2] at q
  exact ⟨x,rfl,q.1,by simpa using q.2⟩
def F8(ix:List (Option Nat))(σ:L2.St):L2.St:=ix.map fun o=>match o with | some j=>(σ[j]?).join | none=>none
structure CB where
 C:Addr
 s₀:Shared
 H₀:Hp
 ex:List Addr
def vM(osc sc:Scope)(cl:List (Str×Addr))(C:Addr)(env:Env):Env:=
 {scope:=NE sc osc,locals:=C,globals:=env.globals,cells:=cellsFrom (C+1) sc.names cl,qual:=env.qual,func:=none,code:=env.code,frame:=env.frame,builtins:=env.builtins}
def cxC(X:Cx)(osc sc:Scope)(N':List Str)(b:CB):Cx where
 prog:=X.prog
 w:=X.w
 K:=X.K
 mg:=X.mg
 base:=X.base
 A:=X.A
 N:=N'
 s₀:=b.s₀
 H₀:=b.H₀
 env:=vM osc sc (HL X.env.cells sc.names []) b.C X.env
 outer:=X.stack
 stack:=X.stack
 ex:=b.ex
 fn:=fun x=>decide (sc.names.lookup x=some .cell)
 calm:=X.calm
 pn:= []
 xe:=fun _ _=>False
def IG:Obj:={cls:= .type "list",dict:=none,data:= .seq ([]:List Value).toArray}
def VA:Obj:={cls:= .type "dict",data:= .dict #[]}
def JG(h:Heap)(sc:Scope):Heap:=pushCells ((h.push IG).push VA) sc.names
theorem JW{h:Heap}{sc:Scope}:∀b o,h.get? b=some o->(JG h sc).get? b=some o:=fun b o e=>sH _ _ b o (A5 _ (A5 _ e))
theorem JD {M : Model} {A : Around} {E : Value -> Shared -> Prop} {s : Shared} {scope : Scope} {globals : Addr} {cl : List (Str × Addr)} {qual : Str} {env : Env} {Q : Env -> Shared -> Prop}
 (h:Q (newEnv scope s.heap.objs.size globals (cellsFrom (s.heap.objs.size+1) scope.names cl) qual none .none (some env) builtinsNs) {s with heap:=pushCells (s.heap.push VA) scope.names}) :
 wpAny M A (newFunctionEnv scope globals cl [] qual none .none (some env)) Q E s:=by
 simp only [newFunctionEnv,Option.isSome_some,HS];refine A7 (wpAny_alloc ?_);refine A7 (wpAny_layCells _ (fun name kind cells=>by cases hkc:kind==NameKind.cell <;> simp [hkc]) _ _ _ _ ?_);rw [show ({s with heap:=s.heap.push {cls:= .type "dict",data:= .dict #[]} }:Shared).heap.objs.size=s.heap.objs.size+1 from DC ..];simp only [QA];exact A7 (AX (AX h))
section
variable {X:Cx} {pins:List (Addr×Obj)} {σ:L2.St} {H:Hp} {s:Shared} {osc sc:Scope} {N':List Str} {ix:List (Option Nat)} {fp:List Addr}
theorem Y2(I:Inv X pins σ H s)(cs:CS osc sc X.N N' ix)(ho:X.env.scope=osc):∀y ∈ sc.names,y.2 = .free->∃c,X.env.cells.lookup y.1=some c:=fun y hy hf=>by
 refine I.ok.has y.1 ?_;have q:=cs.free y hy hf;rw [<-ho] at q
 exact q
theorem lK (I : Inv X pins σ H s) (cs : CS osc sc X.N N' ix) (ho : X.env.scope = osc) {C : Addr} {x : Str} {c : Addr} (h : (cellsFrom (C + 1) sc.names (HL X.env.cells sc.names [])).lookup x = some c) :
 ((x,c) ∈ cellsFrom (C+1) sc.names [] )\/((x,NameKind.free) ∈ sc.names/\X.env.cells.lookup x=some c):=by
 rw [LA,J7] at h
 cases e:(cellsFrom (C+1) sc.names []).lookup x with
 | some d=>rw [e] at h;cases h;exact .inl (mem_of_lookup e)
 | none=>
  rw [e] at h
  rcases R9 h with q | ⟨q,d⟩
  . cases q
  . obtain ⟨c',hc⟩:=Y2 I cs ho _ q rfl;rw [show X.env.cells.lookup x=some c' from hc] at d
    exact .inr ⟨q,by rw [show X.env.cells.lookup x=some c' from hc];rw [d];rfl⟩
theorem hG (I : Inv X pins σ H s) (cs : CS osc sc X.N N' ix) (ho : X.env.scope = osc) (hfp : ∀ b ∈ fp, UX X pins H b) (hlt : ∀ b ∈ fp, b < s.heap.objs.size) :
 Inv (cxC X osc sc N' ⟨s.heap.objs.size+1,s,H,fp ++ [s.heap.objs.size]⟩) [] (F8 ix σ) H {s with heap:=JG s.heap sc}:=by
 have okc:=cellsFrom_ok sc.names ((s.heap.push IG).push VA) (s.heap.objs.size+2) [] ⟨fun _ _ hm=>(nomatch hm),A29⟩ (by rw [DC,DC];exact AA _);have esz:((s.heap.push IG).push VA).objs.size=s.heap.objs.size+1+1:=by rw [DC,DC]
 rw [esz] at okc
 have cell:=fun {x:Str} {c:Addr}=>lK (C:=s.heap.objs.size+1) (x:=x) (c:=c) I cs ho;have oldc:∀ {x:Str} {c:Addr},X.env.cells.lookup x=some c -> @LT.lt Nat _ c s.heap.objs.size:=fun {x c} h=>(I.cell x c h).elim fun v hv=>hv.lt;have ltS:∀ {h:Heap} {b:Addr} {o:Obj},h.get? b=some o -> @LT.lt Nat _ b h.objs.size:=fun e=>AZ e;have newc:∀ {x:Str} {c:Addr},(x,c) ∈ cellsFrom (s.heap.objs.size+1+1) sc.names []->s.heap.objs.size+2<=c:=fun {x c} h=>(okc.empty x c h).2
 have nsC:∃m,(JG s.heap sc).Ns (s.heap.objs.size+1) m:=⟨_,by
  have q:=(Heap.Ns.new (s.heap.push IG) (.type "dict")).keeps (sH sc.names _);rw [DC] at q
  exact q⟩
 refine ⟨?ok,rfl,I.bare,Un.kept JW,?loc,?cell,I.hok.fresh (xS _),?freeC,?pin,I.hok.kept JW,?len⟩
 case ok=>
  refine ⟨I.ok.mod,cs.kind,I.ok.glob,I.ok.blt,xS _,?inj,?has,?cab,I.ok.hd,I.ok.frames, .inl rfl,?exf,I.bs,?bsz,?noex,?exfs,I.stack,I.stkFree,I.tb⟩
  case inj=>
   intro x y c hx hy;rcases cell hx with p | ⟨p,p'⟩ <;> rcases cell hy with q | ⟨q,q'⟩
   . exact name_of_addr okc.apart p q
   . have a1:=newc p;have a2:=oldc q';omega
   . have a1:=newc q;have a2:=oldc p';omega
   . exact I.ok.inj x y c p' q'
  case has=>
   intro x hx
   have key:∀k,(NE sc osc).names.lookup x=some k->(k = .cell\/k = .free)->∃c,(cellsFrom (s.heap.objs.size+1+1) sc.names (HL X.env.cells sc.names [])).lookup x=some c:=by
    intro k hk hk2;obtain ⟨k',e,d⟩:=GQ hk;have hm:=mem_of_lookup e
    have:k' = .cell\/k' = .free:=by
     rcases d with d | d
     . rcases hk2 with r | r
       . exact .inl (d.trans r)
       . exact .inr (d.trans r)
     . exact .inr d.1
    rcases this with r | r
    . subst r;exact YS hm
    . subst r;rw [LA,J7,KE hm]
      cases (cellsFrom (s.heap.objs.size+1+1) sc.names []).lookup x with
      | some c=>exact ⟨c,rfl⟩
      | none=>exact ⟨_,rfl⟩
   rcases hx with hx | hx
   . exact key _ hx (.inl rfl)
   . exact key _ hx (.inr rfl)
  case cab=>
   intro x c hf hc;have hf':sc.names.lookup x=some .cell:=AD hf;rcases cell hc with p | ⟨p,p'⟩
   . have:=newc p;show s.heap.objs.size<=c;omega
   . rw [JM cs.ns p] at hf'
     cases hf'
  case exf=>
   intro b hb;rcases DU.mp hb with hb | hb
   . have hl : @LT.lt Nat _ b s.heap.objs.size:=hlt b hb;obtain ⟨f0,f1,f2,f3,f4,f5⟩:=hfp b hb;refine ⟨fun e=> ?_,fun x c hc e=> ?_⟩
     . have e:b=s.heap.objs.size+1:=e;subst e;omega
     . rcases cell hc with p | ⟨p,p'⟩
       . have:=newc p;subst e;omega
       . exact f4 x c p' e
   . have hb:b=s.heap.objs.size:=by simpa using hb
     subst hb;refine ⟨fun e=>Nat.succ_ne_self _ (Eq.symm (show s.heap.objs.size=s.heap.objs.size+1 from e)),fun x c hc e=> ?_⟩;rcases cell hc with p | ⟨p,p'⟩
     . have:=newc p;subst e;omega
     . have:=oldc p';subst e;omega
  case bsz=>exact BG I.ok.bsz I.sz
  case noex=>
   intro b o e hb;have e:X.base.get? b=some o:=e;rcases DU.mp hb with hb | hb
   . obtain ⟨f0,f1,f2,f3,f4,f5⟩:=hfp b hb;rcases f3 with f3 | f3
     . exact I.ok.noex b o e f3
     . have:=ltS e;have:=I.ok.bsz;omega
   . have hb:b=s.heap.objs.size:=by simpa using hb
     have:=ltS e;have:=I.ok.bsz;have:=I.sz;subst hb;omega
  case exfs=>
   intro b hb hf;have hf:=I.stkSub b hf;rcases DU.mp hb with hb | hb
   . obtain ⟨f0,f1,f2,f3,f4,f5⟩:=hfp b hb;rcases B8.mp hf with e | hf
     . exact f1 e
     . exact f2 hf
   . have hb:b=s.heap.objs.size:=by simpa using hb
     rcases B8.mp hf with e | hf
     . have l : @LT.lt Nat _ X.env.locals s.heap.objs.size:=I.lt;rw [hb] at e
       rw [<-e] at l
       omega
     . exact I.nofs (sE hb.symm) hf
 case loc=>
  obtain ⟨m',hm'⟩:=nsC;obtain ⟨m,hm,hl⟩:=I.loc;refine ⟨m',hm',fun i x v hx hv hvis=> ?_⟩;unfold F8 at hv
  rw [AS] at hv
  cases e:ix[i]? with
  | none=>rw [e] at hv;cases hv
  | some o=>
   rw [e] at hv
   cases o with
   | none=>cases hv
   | some j=>
    simp only [F6,M8] at hv
    obtain ⟨y,h1,h2,h3⟩:=cs.ixs i j e;have hx':N'[i]? = some x:=hx;rw [h1] at hx'
    cases hx'
    have hj:σ[j]? = some (some v):=by
     cases q:σ[j]? with
     | none=>rw [q] at hv;cases hv
     | some z=>rw [q] at hv;simp only [DY] at hv;rw [hv]
    have hfree:=mem_of_lookup h3;have hk:=cs.free _ hfree rfl;rw [<-ho] at hk
    have hvis0:Vis X.env.scope x:=by
     rcases hk with r | r
     . exact .inr (.inl r)
     . exact .inr (.inr r)
    obtain ⟨u,ru,lk⟩:=hl j x v h2 hj hvis0;refine ⟨u,ru, .inr ⟨?_,?_⟩⟩
    . rcases hvis with q | q | q
      . obtain ⟨k',e',d⟩:=GQ q;rw [h3] at e'
        cases e'
        rcases d with d | d
        . cases d
        . cases d.2
      . exact .inl q
      . exact .inr q
    . rcases lk with ⟨lk,_⟩ | ⟨_,c,hc,hcell⟩
      . have:X.env.scope.names.lookup x=some .local:=lk;rw [this] at hk
        rcases hk with r | r <;> cases r
      . refine ⟨c,?_,hcell.keeps JW⟩;show (cellsFrom (s.heap.objs.size+1+1) sc.names (HL X.env.cells sc.names [])).lookup x=some c;rw [LA,J7,KE hfree,hc]
        cases e2:(cellsFrom (s.heap.objs.size+1+1) sc.names []).lookup x with
        | some d=>
         have:=JM cs.ns (Y7 (mem_of_lookup e2));rw [h3] at this
         cases this
        | none=>rfl
 case cell=>
  intro x c hc;rcases cell hc with p | ⟨p,p'⟩
  . exact ⟨_,(okc.empty x c p).1⟩
  . obtain ⟨v,hv⟩:=I.cell x c p';exact ⟨v,hv.keeps JW⟩
 case freeC=>
  intro x c hc;rcases cell hc with p | ⟨p,p'⟩
  . have:=newc p;exact I.hok.fresh (by omega)
  . exact I.freeC x c p'
 case pin=>intro p hp;cases hp
 case len=>
  show (F8 ix σ).length=N'.length;unfold F8;rw [List.length_map,cs.len]
def GK(S:Nat->Bool)(g:TG):Prop:=∀v σ H Q,g v σ H Q->g v σ H fun σ' H'=>Q σ' H'/\σ'.length=σ.length/\∀i:Nat,S i=false->σ'[i]? = σ[i]?
def PTs(X:Cx)(ifs:List Expr)(t:TT):Prop:=
 ∀(pins:List (Addr×Obj)) (s:Shared) (σ:L2.St) (H:Hp) (Q:Bool->Hp->Prop),Inv X pins σ H s->t σ H Q ->
   wpAny (model X.prog X.w) X.A (forIn ifs true fun c r=>if r=true then do let ok <-isTrue c X.env (eval c X.env);pure (ForInStep.yield ok) else pure (ForInStep.yield r)) (TP X pins σ Q) X.xe s
def tNoTest:TT:=fun _ H Q=>Q true H
theorem mT{X:Cx}:PTs X [] tNoTest:=fun _ _ _ H _ I h=>wpAny_tests_nil ⟨H,I,h⟩
theorem pT{X:Cx}{c:Expr}{t:TT}(h:PT X c t):PTs X [c] t:=fun pins s σ H Q I q=>wpAny_tests_one (h pins s σ H Q I q)
def yZ(J:It)(σ0:L2.St)(g:TG)(tt:TT)(te:TE)(H1:Hp)(Q:VK):Prop:=∃W:Nat->Nat->List V->Hp->Prop,(∃m,W 0 m [] H1)/\∀i m ys H,W i m ys H->ys.length<sizeLine /\
 ((J.stop i H/\∀p,H p=none->Q (.ref p) (upd H p (.lst ys))) \/
  (J.go i H/\∃N:List V->Hp->Prop,(∀ys' H',N ys' H'->∃m',m'<m/\W (i+1) m' ys' H')/\∀x H',J.yld i H x H'->g x σ0 H' fun σ2 H2=>tt σ2 H2 fun b H3=>if b=true then te σ2 H3 fun y H4=>N (ys ++ [y]) H4 else N ys H3))
theorem KY {prog : Program} {w : World} {A : Around} {R : Result -> Shared -> Prop} {s : Shared} {elt target iter : Expr} {ifs : List Expr} {scope : Scope} {pos : Pos} {it acc : Value} {env : Env} (I : Nat -> Shared -> Prop)
 (turn:∀n s,I n s->wpAny (model prog w) A (pyNext it) (fun r s₁=>match r with
  | none=>R (.ok .next) s₁
  | some v => wpAny (model prog w) A (letOwnedTupleGo target it v) (fun _ s₁ => wpAny (model prog w) A (assign target env v) (fun _ s₂ =>
   wpAny (model prog w) A (forIn ifs true fun c r=>if r=true then do let ok <-isTrue c env (eval c env);pure (ForInStep.yield ok) else pure (ForInStep.yield r)) (fun ok s₃=>
    if ok=true then wpAny (model prog w) A (eval elt env) (fun x s₄=>
     wpAny (model prog w) A (call (.builtin "list.append") [acc,x]) (fun _ s₅=>∃m,m<n/\I m s₅) (fun _ _=>False) s₄) (fun _ _=>False) s₃
    else ∃m,m<n/\I m s₃) (fun _ _=>False) s₂) (fun _ _=>False) s₁) (fun _ _=>False) s₁) (fun _ _=>False) s)
 (n:Nat) (h:I n s) :
 codeAny (model prog w) A (.compLoop (.ListComp elt [⟨target,iter,ifs,0⟩] scope pos) 0 it acc env) R s:=by
 refine codeAny_loop rfl I (fun n s hI=> ?_) n h;show wpAny _ A ((compTurn (.ListComp elt [⟨target,iter,ifs,0⟩] scope pos) 0 it acc env).onRaise (fun x=>do noteFrame x env;theTreesLotGoes x)) _ _ s;refine wpAny_noted ?_;rw [compTurn_list];refine A7 (Z1 (A7 (GZ (turn n s hI) (fun r s₁ h₁=> ?_) fun _ _ h'=>h'.elim)))
 cases r with
 | none=>exact AX h₁
 | some v=>
  refine A7 (GZ h₁ (fun _ s₁ h₁=> ?_) fun _ _ h'=>h'.elim);refine A7 (GZ h₁ (fun _ s₂ h₂=>A7 (GZ h₂ (fun ok s₃ h₃=> ?_) fun _ _ h'=>h'.elim)) fun _ _ h'=>h'.elim)
  cases ok with
  | false=>exact AX ⟨rfl,h₃⟩
  | true=>
   exact A7 (A7 (GZ h₃ (fun x s₄ h₄=>A7 (GZ h₄ (fun _ s₅ h₅=>AX (AX ⟨rfl,h₅⟩)) fun _ _ h'=>h'.elim)) fun _ _ h'=>h'.elim))
theorem PY{P:Program}{w:World}{H:Hp}{h:Heap}{a:Addr}{o:HO}(x:HOk P w H h)(hn:H a=none)(new:ObjOk P w (upd H a o) h a o):HOk P w (upd H a o) h:=fun b u e=>by
 by_cases hb:b=a
 . subst hb;rw [C9] at e
   cases e
   exact new
 . rw [BP hb] at e
   refine (x b u e).stay (fun _ _ _ q=>q) (fun c q=> ?_) (fun c xs q=> ?_) fun c ob xs q=> ?_
   . rw [BP (BT q hn)];exact q
   . rw [BP (BT q hn)];exact q
   . rw [BP (BT q hn)];exact q
def RY(ix:List (Option Nat))(i:Nat):Bool:=match ix[i]? with | some (some _)=>false | _=>true
structure BlkEnd (X:Cx) (pins:List (Addr×Obj)) (σ:L2.St) (C D:Addr) (H:Hp) (ys:List V) (s':Shared):Prop where
 inv:Inv X pins σ (upd H D (.lst ys)) s'
 free:H D=none
 ns:∃m,s'.heap.Ns C m
 cfree:(upd H D (.lst ys)) C=none
 cl:C≠X.env.locals
 cn:X.s₀.heap.objs.size<=C
 cc:∀x c,X.env.cells.lookup x=some c->c≠C
 cp:∀p ∈ X.pn++pins,p.1≠C
theorem TU {tg elt iter : Expr} {ifs : List Expr} {scope : Scope} {pos : Pos} {J : It} {it : Addr} {tn : Nat -> Heap -> Prop} {g : TG} {tt : TT} {te : TE} {Q : VK} {R : Result -> Shared -> Prop}
 (I2:Inv X pins σ H s) (cs:CS osc sc X.N N' ix) (ho:X.env.scope=osc) (hc:X.calm=true) (T:Turn X.prog X.w X.K tg J fp it tn) (st2:tn 0 s.heap) (f2:∀b ∈ fp,UX X pins H b)
 (hg:PG (cxC X osc sc N' ⟨s.heap.objs.size+1,s,H,fp ++ [s.heap.objs.size]⟩) tg g) (gk:GK (RY ix) g)
 (ht:PTs (cxC X osc sc N' ⟨s.heap.objs.size+1,s,H,fp ++ [s.heap.objs.size]⟩) ifs tt) (he:PE (cxC X osc sc N' ⟨s.heap.objs.size+1,s,H,fp ++ [s.heap.objs.size]⟩) elt te)
 (rd:yZ J (F8 ix σ) g tt te H Q)
 (hR:∀ys H' s',BlkEnd X pins σ (s.heap.objs.size+1) s.heap.objs.size H' ys s'->Q (.ref s.heap.objs.size) (upd H' s.heap.objs.size (.lst ys))->R (.ok .next) s') :
 codeAny (model X.prog X.w) X.A (.compStart (.ListComp elt [⟨tg,iter,ifs,0⟩] scope pos) 0 (.ref it) (.ref s.heap.objs.size) (vM osc sc (HL X.env.cells sc.names []) (s.heap.objs.size+1) X.env)) R {s with heap:=JG s.heap sc}:=by
 have ltS:∀ {h:Heap} {b:Addr} {o:Obj},h.get? b=some o -> @LT.lt Nat _ b h.objs.size:=fun e=>AZ e;have hlt:∀b ∈ fp,b<s.heap.objs.size:=fun b hb=>(T.obj 0 _ st2 b hb).elim fun o h=>AZ h.1;have I3:=hG I2 cs ho f2 hlt;generalize eX:cxC X osc sc N' ⟨s.heap.objs.size+1,s,H,fp ++ [s.heap.objs.size]⟩=X' at *
 have eE:vM osc sc (HL X.env.cells sc.names []) (s.heap.objs.size+1) X.env=X'.env:=by rw [<-eX];rfl
 have eP:X'.prog=X.prog:=by rw [<-eX];rfl
 have eW:X'.w=X.w:=by rw [<-eX];rfl
 have eK:X'.K=X.K:=by rw [<-eX];rfl
 have eA:X'.A=X.A:=by rw [<-eX];rfl
 have eC:X'.calm=true:=by rw [<-eX];exact hc
 have eL:X'.env.locals=s.heap.objs.size+1:=by rw [<-eX];rfl
 have eF:X'.fs=frs X.stack:=by rw [<-eX];rfl
 have eEx:X'.ex=fp ++ [s.heap.objs.size]:=by rw [<-eX];rfl
 have eN:X'.pn = []:=by rw [<-eX];rfl
 have eS:X'.s₀=s:=by rw [<-eX];rfl
 have eH:X'.H₀=H:=by rw [<-eX];rfl
 have exe:X'.xe=fun _ _=>False:=by rw [<-eX];rfl
 have okX:=I3.ok;have mD:s.heap.objs.size ∈ X'.ex:=by rw [eEx];exact C6 _ (B9.mpr rfl)
 have mF:∀b ∈ fp,b ∈ X'.ex:=fun b hb=>by rw [eEx];exact JQ _ hb
 obtain ⟨W,⟨m0,w0⟩,turn⟩:=rd
 have stat:∀ {H':Hp} {o:Obj},(∀b ∈ fp,H' b=none)->∀b ∈ fp,UX X' [(s.heap.objs.size,o)] H' b:=fun {H' o} hn b hb=>by
  refine ⟨hn b hb,(okX.exf b (mF b hb)).1,okX.exfs b (mF b hb), .inl (mF b hb),(okX.exf b (mF b hb)).2,fun p hp e=> ?_⟩;rw [eN] at hp
  have hp:p=(s.heap.objs.size,o):=by simpa using hp
  subst hp;have l : @LT.lt Nat _ b s.heap.objs.size:=hlt b hb;have e:s.heap.objs.size=b:=e;rw [<-e] at l
  omega
 have pinD:∀ {σ':L2.St} {H':Hp} {s':Shared} {o:Obj},Inv X' [] σ' H' s'->s'.heap.get? s.heap.objs.size=some o->H' s.heap.objs.size=none->(∀v,o.data ≠ .cell v)->Inv X' [(s.heap.objs.size,o)] σ' H' s':=fun {σ' H' s' o} I e hn hd=>by
  refine I.pins_of fun p hp=> ?_;have hp:p=(s.heap.objs.size,o):=by simpa using hp
  subst hp;exact ⟨e,hn,(okX.exf _ mD).1,okX.exfs _ mD,hd⟩
 rw [eE];have I3':Inv X' [] (F8 ix σ) H {s with heap:=JG s.heap sc}:=I3;have dat:∀(its:List Value) (k:Nat) (v:Option Value),({cls:= .type "list",data:= .seq its.toArray k}:Obj).data ≠ .cell v:=fun _ _ _ z=>nomatch z;have acc0:(JG s.heap sc).get? s.heap.objs.size=some {cls:= .type "list",data:= .seq ([]:List Value).toArray 0}:=sH _ _ _ _ (A5 _ (B7 _ rfl));have st3:tn 0 (JG s.heap sc):=T.keep 0 _ _ st2 fun b hb o e=>JW b o e
 have loop:∀s3:Shared,s3={s with heap:=JG s.heap sc}->codeAny (model X.prog X.w) X.A (.compLoop (.ListComp elt [⟨tg,iter,ifs,0⟩] scope pos) 0 (.ref it) (.ref s.heap.objs.size) X'.env) R s3:=by
  rintro s3 rfl
  refine KY (fun n s'=>∃i ys H' its k,Inv X' [] (F8 ix σ) H' s'/\tn i s'.heap/\(∀b ∈ fp,H' b=none)/\W i n ys H'/\s'.heap.get? s.heap.objs.size=some {cls:= .type "list",data:= .seq its.toArray k}/\Vals ys its/\H' s.heap.objs.size=none)
   ?_ m0 ⟨0,[],H,[],0,I3',st3,fun b hb=>(f2 b hb).1,w0,acc0, .nil,I2.hok.fresh (AA _)⟩
  rintro n s3 ⟨i,ys,H3,its,k,J3,t3,fr3,w3,a3,v3,d3⟩;obtain ⟨hz,w3⟩:=turn i n ys H3 w3;have J3p:=pinD J3 a3 d3 (dat its k);rcases w3 with ⟨stop,q⟩ | ⟨go,N,hN,step⟩
  . have TD:=T.done X' eP eW eK eC i [(s.heap.objs.size,_)] s3 (F8 ix σ) H3 (fun _ _=>False) J3p (stat fr3) t3 stop;rw [eA] at TD
    refine thn TD fun r s4 ⟨hr,I4⟩ => ?_;subst hr;have a4:=(I4.pin (s.heap.objs.size,_) (C6 _ (B9.mpr rfl))).1;have hd4:=I4.base;rw [eF,eEx,eH,eS] at hd4
    refine hR ys H3 s4 ⟨?_,d3,?_,?_,?_,?_,?_,?_⟩ (q _ d3)
    . refine I2.call' (ch:=fp ++ [s.heap.objs.size]) (by have z:=I4.os;rw [eS] at z;exact z) ?_ ?_ I4.bare ?_
      . refine ⟨hd4.keep,hd4.slot,fun b o e n x=> ?_,hd4.there,fun b xs e=> ?_,fun b o u e=> ?_,fun b ps e=> ?_⟩
        . have l:=ltS e;rw [BP (by intro z;subst z;omega)];exact hd4.free b o e n x
        . have z:=hd4.tups b xs e;rw [BP (BT z d3)];exact z
        . have z:=hd4.frzs b o u e;rw [BP (BT z d3)];exact z
        . obtain ⟨more,z⟩:=hd4.tbls b ps e;exact ⟨more,by rw [BP (BT z d3)];exact z⟩
      . have hk:=I4.hok;rw [eP,eW] at hk
        exact PY hk d3 ⟨HP hz,its,k,v3,a4⟩
      . intro b hb;rcases DU.mp hb with hb | hb
        . obtain ⟨f0,f1,f2,f3,f4,f5⟩:=f2 b hb;exact ⟨f3,f1,f4,f5⟩
        . have hb:b=s.heap.objs.size:=by simpa using hb
          subst hb;refine ⟨.inr I2.sz,fun e=> ?_,fun x c hx e=> ?_,fun p hp e=> ?_⟩
          . have l : @LT.lt Nat _ X.env.locals s.heap.objs.size:=I2.lt;rw [<-e] at l
            omega
          . obtain ⟨v,hv⟩:=I2.cell x c hx;have l : @LT.lt Nat _ c s.heap.objs.size:=hv.lt;rw [e] at l
            omega
          . have l:=ltS (I2.pin p hp).1;rw [e] at l
            omega
    . obtain ⟨m,hm,_⟩:=I4.loc;rw [eL] at hm
      exact ⟨m,hm⟩
    . rw [BP (Nat.succ_ne_self _)];have z:=I4.free;rw [eL] at z
      exact z
    . intro e;have l : @LT.lt Nat _ X.env.locals s.heap.objs.size:=I2.lt;rw [<-e] at l
      omega
    . have:=I2.sz;exact A31 this
    . intro x c hx e;obtain ⟨v,hv⟩:=I2.cell x c hx;have l : @LT.lt Nat _ c s.heap.objs.size:=hv.lt;rw [e] at l
      omega
    . intro p hp e;have l:=ltS (I2.pin p hp).1;rw [e] at l
      omega
  . have TI:=T.item X' eP eW eK eC i [(s.heap.objs.size,_)] s3 (F8 ix σ) H3 (fun _ _=>False) J3p (stat fr3) t3 go;rw [eA] at TI
    refine thn TI fun r s4 ⟨u,hr,h4⟩ => ?_;subst hr;refine thn h4 fun _ s5 ⟨x,H5,I5,r5,y5,st5,fr5⟩ => ?_;have I5':=I5.pinned (stat fr5) (T.obj _ _ st5);have HG:=hg _ s5 (F8 ix σ) H5 x u _ I5' r5 (gk _ _ _ _ (step x H5 y5));rw [eP,eW,eA,exe] at HG
    refine thn HG fun _ s6 ⟨σ6,H6,I6,q6,l6,k6⟩ => ?_;have HT:=ht _ s6 σ6 H6 _ I6 q6;rw [eP,eW,eA,exe] at HT
    refine thn HT fun b s7 ⟨H7,I7,q7⟩ => ?_
    have weak:∀ {ps:List (Addr×Obj)} {H':Hp} {s':Shared},Inv X' ps σ6 H' s'->Inv X' ps (F8 ix σ) H' s':=fun I=>I.weak l6.symm fun j v e=>by
     have hs:RY ix j=false:=by
      unfold RY;unfold F8 at e
      rw [AS] at e
      cases e2:ix[j]? with
      | none=>rw [e2] at e;cases e
      | some o=>
       rw [e2] at e
       cases o with
       | none=>cases e
       | some z=>rfl
     rw [k6 j hs];exact e
    have pinA : ∀ {σ' : L2.St} {H' : Hp} {s' : Shared}, Inv X' ([(s.heap.objs.size, { cls := .type "list", data := .seq its.toArray k })] ++ SB fp s5.heap) σ' H' s' ->
     s'.heap.get? s.heap.objs.size=some {cls:= .type "list",data:= .seq its.toArray k}/\H' s.heap.objs.size=none/\tn (i+1) s'.heap/\∀b ∈ fp,H' b=none:=fun {σ' H' s'} I=>by
     have z:=I.pin (s.heap.objs.size,_) (C6 _ (JQ _ (B9.mpr rfl)));refine ⟨z.1,z.2.1,T.keep _ _ _ st5 fun b hb o e=>(I.pin (b,o) (C6 _ (C6 _ (K0 hb e)))).1,fun b hb=> ?_⟩;obtain ⟨o,e,d⟩:=T.obj _ _ st5 b hb;exact (I.pin (b,o) (C6 _ (C6 _ (K0 hb e)))).2.1
    cases b with
    | false=>
     have q7:N ys H7:=q7;obtain ⟨m',hm,w7⟩:=hN ys H7 q7;obtain ⟨p1,p2,p3,p4⟩:=pinA I7
     exact ⟨m',hm,i+1,ys,H7,its,k,(weak I7).pins_of (fun _ z=>(nomatch z)),p3,p4,w7,p1,v3,p2⟩
    | true=>
     have HE:=he _ s7 σ6 H7 _ I7 q7;rw [eP,eW,eA,exe] at HE
     refine thn HE fun y s8 ⟨z,H8,I8,r8,q8⟩ => ?_;obtain ⟨m',hm,w8⟩:=hN _ H8 q8;obtain ⟨p1,p2,p3,p4⟩:=pinA I8;refine cE JR ⟨_,p1,rfl⟩ F.entry_list_append (A46 _ _) (A28 s.heap.objs.size its.toArray k y (by rw [AU, <-v3.length];omega)) ⟨p1,?_⟩;have q:=PySem.IsL.update p1 (fun a=>a.push y);have other:∀b o,b≠s.heap.objs.size->s8.heap.get? b=some o->(s8.heap.update s.heap.objs.size (Obj.mapSeq fun a=>a.push y)).get? b=some o:=fun b o hb e=>(SG s8.heap _ (HQ hb)).trans e;have eq:its.toArray.push y=(its ++ [y]).toArray:=by simp
     have q:IsL (s8.heap.update s.heap.objs.size (Obj.mapSeq fun a=>a.push y)) s.heap.objs.size (its.toArray.push y) _:=q;rw [eq] at q
     refine ⟨m',hm,i+1,ys ++ [z],H8,its ++ [y],_,?_,T.keep _ _ _ p3 fun b hb o e=>other b o (fun z=> ?_) e,p4,w8,q,v3.append (.cons r8 .nil),p2⟩
     . have I8w:Inv X' [] (F8 ix σ) H8 s8:=(weak I8).pins_of fun _ z=>nomatch z;refine I8w.turned (it:=s.heap.objs.size) other p2 (okX.exf _ mD).1 (.inl mD) (okX.exf _ mD).2 fun p hp=> ?_;rw [eN] at hp
       cases hp
     . have l : @LT.lt Nat _ b s.heap.objs.size:=hlt b hb;rw [z] at l
       omega
 exact codeAny_compStart_list (loop _ rfl) (T.self X.A 0 _ _ _ st3 (loop _ rfl))
def tLC(ix:List (Option Nat))(wi:TI)(g:CB->TG)(tt:CB->TT)(te:CB->TE):TE:=fun σ H Q=>wi σ H fun J H1=>∀b:CB,yZ J (F8 ix σ) (g b) (tt b) (te b) H1 Q
theorem zO {tg elt iter : Expr} {ifs : List Expr} {pos : Pos} {wi : TI} {g : CB -> TG} {tt : CB -> TT} {te : CB -> TE} (hc : X.calm = true) (ho : X.env.scope = osc) {N : List Str} (hN : X.N = N) (hcs : dD osc sc N N' ix = true) (hi : PI X tg iter wi)
 (hb:∀b:CB,PG (cxC X osc sc N' b) tg (g b)/\PTs (cxC X osc sc N' b) ifs (tt b)/\PE (cxC X osc sc N' b) elt (te b)) (gk:∀b:CB,GK (RY ix) (g b))
 (hs:∀x,foldedSetIterable iter X.env x=pure x:=by intro _;rfl):PE X (.ListComp elt [⟨tg,iter,ifs,0⟩] sc pos) (tLC ix wi g tt te):=by
 subst hN;have cs:=CS.of hcs;intro pins s σ H Q I h;rw [eval_ListComp];have hcl:=ME (Y2 I cs ho);refine A04 (use:=none) rfl hs hcl cs.kind cs.names (thn (hi pins s σ H _ I h) fun v s1 h1=>thn h1 fun itv s2 h2=> ?_);obtain ⟨it,fp,tn,J,H2,e,I2,T,st2,f2,rd⟩:=h2;subst e;refine F0 ?_;refine JD ?_;have hb':=hb ⟨s2.heap.objs.size+1,s2,H2,fp ++ [s2.heap.objs.size]⟩
 have rb:=TU (scope:=sc) (pos:=pos) (iter:=iter) (R:=compPost (model X.prog X.w) X.A X.xe none (EP X pins σ Q) (.ref s2.heap.objs.size) (s2.heap.objs.size+1)) I2 cs ho hc T st2 f2 hb'.1 (gk _) hb'.2.1 hb'.2.2 (rd _) (fun ys H' s' B q=>by
  obtain ⟨m,hm⟩:=B.ns;refine ⟨m,hm,fun h' hsb=> ?_⟩;refine ⟨.ref s2.heap.objs.size,upd H' s2.heap.objs.size (.lst ys),?_,rfl,q⟩;exact B.inv.turned (it:=s2.heap.objs.size+1) (fun b o hb e=>hsb.extBut b o hb e) B.cfree B.cl (.inr B.cn) B.cc B.cp)
 have sz:(s2.heap.push IG).objs.size=s2.heap.objs.size+1:=DC ..;show codeAny _ _ (.compStart _ 0 (.ref it) (.ref s2.heap.objs.size) {newEnv sc (s2.heap.push IG).objs.size X.env.globals (cellsFrom ((s2.heap.push IG).objs.size+1) sc.names (HL X.env.cells sc.names [])) X.env.qual none .none (some X.env) builtinsNs with scope:=relabel sc X.env}) (compPost _ _ _ none _ (.ref s2.heap.objs.size) (s2.heap.push IG).objs.size) _;rw [sz,QU,ho];exact rb
def rA(i:Nat)(t:TE):TS:=fun D σ H=>t σ H fun v H1=>D.nx (σ.set i (some v)) H1
theorem nM {tg elt iter : Expr} {ifs : List Expr} {pos py spos : Pos} {wi : TI} {g : CB -> TG} {tt : CB -> TT} {te : CB -> TE} {i : Nat} {y : Str} (hnd : X.N.Nodup) (hi' : X.N[i]? = some y) (hy : X.env.scope.names.lookup y = some .local)
 (hsw:swapsWith (.ListComp elt [⟨tg,iter,ifs,0⟩] sc pos) (some (.Name y py)) spos.line X.env=pure true)
 (hc:X.calm=true) (ho:X.env.scope=osc) {N:List Str} (hN:X.N=N) (hcs:dD osc sc N N' ix=true) (hi:PI X tg iter wi)
 (hb:∀b:CB,PG (cxC X osc sc N' b) tg (g b)/\PTs (cxC X osc sc N' b) ifs (tt b)/\PE (cxC X osc sc N' b) elt (te b)) (gk:∀b:CB,GK (RY ix) (g b))
 (hs:∀x,foldedSetIterable iter X.env x=pure x:=by intro _;rfl):PS X (.Assign [.Name y py] (.ListComp elt [⟨tg,iter,ifs,0⟩] sc pos) spos) (rA i (tLC ix wi g tt te)):=by
 have hN':=hN;subst hN;have cs:=CS.of hcs;intro pins s σ H D I h;rw [exec_Assign_Name_used _ _ _ _ hsw];have hcl:=ME (Y2 I cs ho);refine A7 (Z1 (A7 ?_));show wpAny _ X.A (do let _ <-comprehension (.ListComp elt [⟨tg,iter,ifs,0⟩] sc pos) sc X.env _ (newList []) false (eval iter X.env) (some (assign (.Name y py) X.env))) _ _ s
 refine A7 (GZ (A04 (use:=some (assign (.Name y py) X.env)) (Q:=fun _ s'=>SP X pins D .next s') rfl hs hcl cs.kind cs.names
  (thn (hi pins s σ H _ I h) fun v s1 h1=>thn h1 fun itv s2 h2=> ?_)) (fun _ s' hq=>AX (AX hq)) fun _ _ e=>e)
 obtain ⟨it,fp,tn,J,H2,e,I2,T,st2,f2,rd⟩:=h2;subst e;refine F0 ?_;refine JD ?_;have hb':=hb ⟨s2.heap.objs.size+1,s2,H2,fp ++ [s2.heap.objs.size]⟩
 have rb:=TU (scope:=sc) (pos:=pos) (iter:=iter) (R:=compPost (model X.prog X.w) X.A X.xe (some (assign (.Name y py) X.env)) (fun _ s'=>SP X pins D .next s') (.ref s2.heap.objs.size) (s2.heap.objs.size+1)) I2 cs ho hc T st2 f2 hb'.1 (gk _) hb'.2.1 hb'.2.2 (rd _) (fun ys H' s' B q=>by
  show wpAny _ X.A (assign (.Name y py) X.env (.ref s2.heap.objs.size)) _ _ s';refine wpAny_assign_Name (TF (v:= .ref s2.heap.objs.size) B.inv hnd hi' (.inl hy) rfl (fun s'' I'' ⟨a,sb,ha⟩ => ?_) (.inr hy))
  have hne:s2.heap.objs.size+1≠a:=by
   rcases ha with ha | ha
   . rw [ha];exact B.cl
   . exact (B.cc y a ha).symm
  obtain ⟨m,hm⟩:=B.ns;refine ⟨m,hm.sameBut sb hne,fun h' hsb=> ?_⟩;exact ⟨_,_,I''.turned (it:=s2.heap.objs.size+1) (fun b o hb e=>hsb.extBut b o hb e) B.cfree B.cl (.inr B.cn) B.cc B.cp,q⟩)
 have sz:(s2.heap.push IG).objs.size=s2.heap.objs.size+1:=DC ..;show codeAny _ _ (.compStart _ 0 (.ref it) (.ref s2.heap.objs.size) {newEnv sc (s2.heap.push IG).objs.size X.env.globals (cellsFrom ((s2.heap.push IG).objs.size+1) sc.names (HL X.env.cells sc.names [])) X.env.qual none .none (some X.env) builtinsNs with scope:=relabel sc X.env}) (compPost _ _ _ _ _ (.ref s2.heap.objs.size) (s2.heap.push IG).objs.size) _;rw [sz,QU,ho];exact rb
end
end Tf
namespace Tf
open PySem PySem.Spec PyProof.Rows L2
def Itz(K:PySem.W.Frag)(a b:Addr):It:=
 ⟨fun i H=>∃xs ys x y,SqL K H a xs/\SqL K H b ys/\xs[i]? = some x/\ys[i]? = some y,
  fun i H v H'=>∃p x y,H p=none/\v = .ref p/\H'=upd H p (.tup [x,y])/\(∀xs,SqL K H a xs->xs[i]? = some x)/\(∀ys,SqL K H b ys->ys[i]? = some y),
  fun i H=>∃xs ys,SqL K H a xs/\SqL K H b ys/\(xs.length<=i\/ys.length<=i)⟩
def y4(z TI TO i1 i2 l1 l2:Addr)(i:Nat)(h:Heap):Prop:=IsZip h z TI TO .none/\IsPair h TI (.ref i1) (.ref i2)/\(∃a b,IsPair h TO a b)/\h.IsListIter i1 l1 i/\h.IsListIter i2 l2 i
theorem WI {P : Program} {w : World} {K : PySem.W.Frag} {elts : List Expr} {k : Nat} {pos : Pos} {z TI TO i1 i2 l1 l2 : Addr} (D : ZipApart z TI TO i1 i2 l1 l2) :
 Turn P w K (.Tuple elts k pos) (Itz K l1 l2) [z,TI,TO,i1,i2] z (y4 z TI TO i1 i2 l1 l2) where
 mem:=by simp
 obj:=fun i h st b hb=>by
  obtain ⟨h1,h2,⟨a,c,h3⟩,⟨o4,h4,_,d4⟩,⟨o5,h5,_,d5⟩⟩:=st;simp only [B8,BK,EM] at hb
  rcases hb with rfl | rfl | rfl | rfl | rfl
  . exact ⟨_,h1,fun v e=>(nomatch e)⟩
  . exact ⟨_,h2,fun v e=>(nomatch e)⟩
  . exact ⟨_,h3,fun v e=>(nomatch e)⟩
  . exact ⟨_,h4,fun v e=>by rw [d4] at e;cases e⟩
  . exact ⟨_,h5,fun v e=>by rw [d5] at e;cases e⟩
 keep:=fun i h h' st kk=>by
  obtain ⟨h1,h2,⟨a,c,h3⟩,h4,h5⟩:=st;exact ⟨kk z (by simp) _ h1,kk TI (by simp) _ h2,⟨a,c,kk TO (by simp) _ h3⟩,h4.at fun o e=>kk i1 (by simp) o e,h5.at fun o e=>kk i2 (by simp) o e⟩
 item:=by
  intro X hP hw hK hc i pins s σ H E I hf st hg;subst hP hw hK;obtain ⟨h1,h2,⟨a,c,h3⟩,h4,h5⟩:=st;obtain ⟨xs,ys,x,y,q1,q2,hx,hy⟩:=hg;obtain ⟨its,rv,p,hz⟩:=I.list q1;obtain ⟨jts,rw',p',hz'⟩:=I.list q2;obtain ⟨u,hu,ru⟩:=rv.get hx;obtain ⟨u',hu',ru'⟩:=rw'.get hy;have ltS:∀ {h:Heap} {b:Addr} {o:Obj},h.get? b=some o -> @LT.lt Nat _ b h.objs.size:=fun e=>AZ e;refine wpAny_pyNext_zip_item D h1 h2 h3 h4 h5 p.isList p'.isList (x:=u) (y:=u') (by simpa using hu) (by simpa using hu') fun h' a1 a2 a3 a4 a5 a6 hk=> ?_;refine ⟨_,rfl,zY a1 fun h'' a1' sb=> ?_⟩;have ch:∀b ∈ [z,TI,TO,i1,i2],H b=none:=fun b hb=>(hf b hb).1
  have kk:∀b o,b ∉ [z,TO,i1,i2]->s.heap.get? b=some o->h''.get? b=some o:=fun b o hb e=>by
   simp only [B8,BK,EM,A05] at hb
   exact sb.extBut b o hb.1 (hk b o hb.1 hb.2.1 hb.2.2.1 hb.2.2.2 e)
  have eT:h''.get? s.heap.objs.size=some {cls:= .type "tuple",data:= .seq #[u,u']}:=sb.extBut _ _ (fun e=>by have l:=ltS h1;rw [<-e] at l;omega) a5
  have sub:∀b,b ∈ [z,TO,i1,i2]->b ∈ [z,TI,TO,i1,i2]:=fun b hb=>by
   simp only [B8,BK,EM] at hb ⊢
   rcases hb with r | r | r | r
   . exact .inl r
   . exact .inr (.inr (.inl r))
   . exact .inr (.inr (.inr (.inl r)))
   . exact .inr (.inr (.inr (.inr r)))
  have nT:H s.heap.objs.size=none:=I.hok.fresh (AA _)
  have hok1 : HOk X.prog X.w H h'' := fun b o e => (I.hok b o e).stay (fun d v hd q => kk d v (fun hm => by
   have n:=ch d (sub d hm);rcases hd with hd | hd
   . rw [hd,e] at n;cases n
   . rw [hd] at n;cases n) q) (fun _ q=>q) fun _ _ q=>q
  have hok2:HOk X.prog X.w (upd H s.heap.objs.size (.tup [x,y])) h'':=PY hok1 nT ⟨by show 2<=sizeLine;decide,[u,u'], .cons ru (.cons ru' .nil),⟨_,eT,rfl,_,rfl⟩⟩
  have un:Un (frs X.stack) [z,TO,i1,i2] H (upd H s.heap.objs.size (.tup [x,y])) s.heap h'':=by
   refine ⟨fun b o e _ _ hx=>kk b o hx e,fun b o e _ _ hx=>⟨o.slots,kk b o hx e⟩,fun b o e n _=> ?_,fun b o e hx=>⟨o,kk b o hx e⟩,fun b zs e=> ?_,fun b o v e=> ?_,fun b ps e=>⟨#[],?_⟩⟩
   . have l:=ltS e;rw [BP (by intro q;subst q;omega)];exact n
   . rw [BP (BT e nT)];exact e
   . rw [BP (BT e nT)];exact e
   . rw [BP (BT e nT)];simpa using e
  have I2:Inv X pins σ (upd H s.heap.objs.size (.tup [x,y])) {s with heap:=h'' }:=I.call' rfl un hok2 I.bare fun b hb=>by
   obtain ⟨f0,f1,f2,f3,f4,f5⟩:=hf b (sub b hb);exact ⟨f3,f1,f4,f5⟩
  refine ⟨.ref s.heap.objs.size,_,I2,rfl,⟨s.heap.objs.size,x,y,nT,rfl,rfl,fun zs hq=> ?_,fun zs hq=> ?_⟩,⟨a1',?_,⟨_,_,sb.extBut _ _ D.TOz a2⟩,a3.extBut sb.extBut D.i1z,a4.extBut sb.extBut D.i2z⟩,fun b hb=> ?_⟩
  . rw [I.list_inj hq q1];exact hx
  . rw [I.list_inj hq q2];exact hy
  . exact sb.extBut _ _ D.TIz (hk TI _ D.TIz D.TITO D.TIi1 D.TIi2 h2)
  . have n:=ch b hb
    obtain ⟨o,e⟩:∃o,s.heap.get? b=some o:=by
     simp only [B8,BK,EM] at hb
     rcases hb with rfl | rfl | rfl | rfl | rfl
     . exact ⟨_,h1⟩
     . exact ⟨_,h2⟩
     . exact ⟨_,h3⟩
     . obtain ⟨o,e,_⟩:=h4;exact ⟨o,e⟩
     . obtain ⟨o,e,_⟩:=h5;exact ⟨o,e⟩
    have l:=ltS e;rw [BP (by intro q;subst q;omega)];exact n
 done:=by
  intro X hP hw hK hc i pins s σ H E I hf st hg;subst hP hw hK;obtain ⟨h1,h2,⟨a,c,h3⟩,h4,h5⟩:=st;obtain ⟨xs,ys,q1,q2,he⟩:=hg;obtain ⟨its,rv,p,hz⟩:=I.list q1;obtain ⟨jts,rw',p',hz'⟩:=I.list q2;have l1:=rv.length;have l2:=rw'.length
  refine wpAny_pyNext_zip_end (I.ok.hd hc) D h1 h2 h3 h4 h5 p.isList p'.isList (by rcases he with e | e; · left; simp; omega
                                                                                   . right;simp;omega) fun h' hk=>⟨rfl,?_⟩
  have ch:∀b ∈ [z,TI,TO,i1,i2],H b=none:=fun b hb=>(hf b hb).1
  have sub:∀b,b ∈ [z,TO,i1,i2]->b ∈ [z,TI,TO,i1,i2]:=fun b hb=>by
   simp only [B8,BK,EM] at hb ⊢
   rcases hb with r | r | r | r
   . exact .inl r
   . exact .inr (.inr (.inl r))
   . exact .inr (.inr (.inr (.inl r)))
   . exact .inr (.inr (.inr (.inr r)))
  have kk:∀b o,b ∉ [z,TO,i1,i2]->s.heap.get? b=some o->h'.get? b=some o:=fun b o hb e=>by
   simp only [B8,BK,EM,A05] at hb
   exact hk b o hb.1 hb.2.1 hb.2.2.1 hb.2.2.2 e
  have hok1 : HOk X.prog X.w H h' := fun b o e => (I.hok b o e).stay (fun d v hd q => kk d v (fun hm => by
   have n:=ch d (sub d hm);rcases hd with hd | hd
   . rw [hd,e] at n;cases n
   . rw [hd] at n;cases n) q) (fun _ q=>q) fun _ _ q=>q
  have un:Un (frs X.stack) [z,TO,i1,i2] H H s.heap h' :=
   ⟨fun b o e _ _ hx=>kk b o hx e,fun b o e _ _ hx=>⟨o.slots,kk b o hx e⟩,fun b o e n _=>n,fun b o e hx=>⟨o,kk b o hx e⟩,fun b zs e=>e,fun b o v e=>e,fun b ps e=>⟨#[],by simpa using e⟩⟩
  exact I.call' rfl un hok1 I.bare fun b hb=>by
   obtain ⟨f0,f1,f2,f3,f4,f5⟩:=hf b (sub b hb);exact ⟨f3,f1,f4,f5⟩
 self:=fun _ _ _ _ _ st h=>KI st.1 h
section
variable {X:Cx}
def zR(K:PySem.W.Frag)(ta:TA):TI:=fun σ H R=>ta σ H fun vs H1=>∃l1 l2,vs = [.ref l1, .ref l2]/\(∃xs,SqL K H1 l1 xs)/\(∃ys,SqL K H1 l2 ys)/\R (Itz K l1 l2) H1
theorem t9 {a b : Expr} {ta : TA} {elts : List Expr} {k : Nat} {tp p pos : Pos} (hg : Gl X "zip") (hm : X.mg "zip" = none) (ha : PA X [a, b] ta) (hs : starEach [a, b] X.env = [(false, eval a X.env), (false, eval b X.env)] := by rfl) (hs2 : starEach [b] X.env = [(false, eval b X.env)] := by rfl) :
 PI X (.Tuple elts k tp) (.Call (.Name "zip" p) [a,b] [] pos) (zR X.K ta):=by
 intro pins s σ H R I h;refine Call_ (JA I hg hm i3 (C7 (thn (ha pos pins s σ H _ I h) fun us s1 ⟨vs,H1,I1,r1,q1⟩ => ?_) (by rw [hs,hs2]) (by rw [hs2];rfl)));obtain ⟨l1,l2,e,⟨xs,q1⟩,⟨ys,q2⟩,q⟩:=q1;subst e;obtain ⟨u,w',rfl,ru,rw'⟩:=rS r1
 cases (show u=Value.ref l1 from ru)
 cases (show w'=Value.ref l2 from rw')
 obtain ⟨its,rv,p1,hz⟩:=I1.list q1;obtain ⟨jts,rv',p2,hz'⟩:=I1.list q2;have lt1:l1<s1.heap.objs.size:=by obtain ⟨o,n,e,_⟩:=p1;exact AZ e
 have lt2:l2<s1.heap.objs.size:=by obtain ⟨o,n,e,_⟩:=p2;exact AZ e
 refine call_zip_2 p1.isList p2.isList fun h' a1 a2 a3 a4 a5 a6 hk=> ?_;refine KI (s:={s1 with heap:=h' }) a1 ?_;refine ⟨_,[s1.heap.objs.size+4,s1.heap.objs.size+2,s1.heap.objs.size+3,s1.heap.objs.size,s1.heap.objs.size+1],_,_,H1,rfl,I1.kept (t':=s1.toks) hk,WI (zipApart_new lt1 lt2),⟨a1,a2,⟨_,_,a3⟩,a4,a5⟩,fun b hb=> ?_,q⟩
 have hb:s1.heap.objs.size<=b:=by
  simp only [B8,BK,EM] at hb
  rcases hb with rfl | rfl | rfl | rfl | rfl
  . exact D2 _ _
  . exact D2 _ _
  . exact D2 _ _
  . exact AA _
  . exact D2 _ _
 exact I1.fpOk hb (I1.hok.fresh hb)
def Itd(hi:Int)(n:Nat):It:=⟨fun i _=>i<n,fun i H x H'=>H'=H/\x = .int (hi - i),fun i _=>n<=i⟩
theorem e7{P:Program}{w:World}{K:PySem.W.Frag}{tg:Expr}(it:Addr)(hi:Int)(n:Nat):Turn P w K tg (Itd hi n) [it] it (fun i h=>IsRangeIter h it (hi+(i:Nat)*(-1)) ((n:Int) - (i:Nat)) (-1)) where
 mem:=by simp
 obj:=fun i h st b hb=>by
  have e:b=it:=by simpa using hb
  subst e
  exact ⟨_,st,fun v z=>by
   have z':Data.fields _=Data.cell v:=z
   cases z'⟩
 keep:=fun i h h' st k=>k it (by simp) _ st
 item:=by
  intro X hP hw hK hc i pins s σ H E I hf st hg;subst hP hw hK;obtain ⟨f0,f1,f2,f3,f4,f5⟩:=hf it (by simp);have W:=Walks.range (prog:=X.prog) (w:=X.w) (I.ok.hd hc) it hi (-1) n;refine W.item i s _ _ hg st fun v h' tk hv st' kk=> ?_;obtain ⟨t,rfl⟩:=hv;have I1:Inv X pins σ H {s with heap:=h',toks:=tk}:=I.turned (fun b o hb e=>kk b o (by simpa using hb) e) f0 f1 f3 f4 f5;refine ⟨_,rfl,W0 (s:={s with heap:=h',toks:=tk}) (n:= "range_iterator") st' rfl rfl (by decide) ⟨.int (hi - i),H,I1,⟨t,?_⟩,⟨rfl,rfl⟩,st',fun b hb=>(hf b hb).1⟩⟩;have:hi+(i:Int)*(-1)=hi - i:=by omega
  rw [this]
 done:=by
  intro X hP hw hK hc i pins s σ H E I hf st hg;subst hP hw hK;obtain ⟨f0,f1,f2,f3,f4,f5⟩:=hf it (by simp);exact A35 (I.ok.hd hc) st (by have:n<=i:=hg;omega) fun h' eb=>⟨rfl,I.turned (t':=s.toks) (fun b o hb e=>eb b o hb e) f0 f1 f3 f4 f5⟩
 self:=fun _ _ _ _ _ st h=>A36 st h
theorem YX{a b:Int}(ha : -(2 ^ 62)<=a)(ha':a<2 ^ 62)(hb : -(2 ^ 62)<=b)(hb':b<2 ^ 62):Builtin.Range.small a b (-1)=true:=by
 unfold Builtin.Range.small;unfold Builtin.Range.rangeSize;simp only [Builtin.Range.rangeFitsLong,Bool.and_eq_true,Bool.or_eq_true,decide_eq_true_eq,beq_iff_eq,show ¬((-1:Int)>0) by decide,if_false,show -(-1:Int)=1 by decide,Int.ediv_one]
 split <;> omega
def rX(ta:TA):TI:=fun σ H R=>ta σ H fun vs H1=>∃i j:Int,vs = [.int i, .int j, .int (-1)]/\(-(2 ^ 62)<=i/\i<2 ^ 62 /\ -(2 ^ 62)<=j/\j<2 ^ 62)/\R (Itd i (i - j).toNat) H1
theorem eV {tg : Expr} {a b c : Expr} {ta : TA} {p pos : Pos} (hg : Gl X "range") (hm : X.mg "range" = none) (ha : PA X [a, b, c] ta) (hs : starEach [a, b, c] X.env = (false, eval a X.env) :: starEach [b, c] X.env := by rfl) (hs2 : (backTo pos (starEach [b, c] X.env)).any (·.1) = false := by rfl) :
 PI X tg (.Call (.Name "range" p) [a,b,c] [] pos) (rX ta):=by
 intro pins s σ H R I h;refine Call_ (JA I hg hm jN (C7 (thn (ha pos pins s σ H _ I h) fun us s1 ⟨vs,H1,I1,r1,q1⟩ => ?_) hs hs2));obtain ⟨i,j,e,⟨q1,q2,q3,q4⟩,q⟩:=q1;subst e
 cases r1 with
 | cons r rr=>
  cases rr with
  | cons r' rr=>
   obtain ⟨u,rfl,t'',rfl⟩:=L3 rr;obtain ⟨t,rfl⟩:=r;obtain ⟨t',rfl⟩:=r';refine call_range_3 (by decide) ?_ (.inl (lQ (by decide +kernel)));refine wpAny_pyIter_range (IsRange.new ..) (YX q1 q2 q3 q4) ?_;have I2:Inv X pins σ H1 {s1 with heap:=s1.heap.push {cls:= .type "range",data:= .fields #[.int i t, .int j t', .int (-1) t'']},toks:=s1.toks}:=I1.kept fun b o e=>A5 _ e
   refine ⟨(s1.heap.push {cls:= .type "range",data:= .fields #[.int i t, .int j t', .int (-1) t'']}).objs.size,[(s1.heap.push {cls:= .type "range",data:= .fields #[.int i t, .int j t', .int (-1) t'']}).objs.size],_,_,H1,rfl,
    I2.kept (t':=s1.toks) fun b o e=>A5 _ e,e7 _ i (i - j).toNat,?_,fun b hb=> ?_,q⟩
   . have e1:i+((0:Nat):Int)*(-1)=i:=by simp
     have e2:(((i - j).toNat:Nat):Int) - ((0:Nat):Int)=Builtin.Range.rangeSize i j (-1):=by
      unfold Builtin.Range.rangeSize;rw [if_neg (by decide),show -(-1:Int)=1 by decide,Int.ediv_one]
      split <;> omega
     show IsRangeIter _ _ (i+((0:Nat):Int)*(-1)) ((((i - j).toNat:Nat):Int) - ((0:Nat):Int)) (-1);rw [e1,e2];exact B7 _ rfl
   . have e:b=(s1.heap.push {cls:= .type "range",data:= .fields #[.int i t, .int j t', .int (-1) t'']}).objs.size:=by simpa using hb
     subst e;exact I2.fpOk (AA _) (I2.hok.fresh (AA _))
theorem LD(hc:X.calm=true):MD X (.builtin "sum") (fun xs H Q=>∃p ns,xs = [.ref p]/\SqL X.K H p (ns.map V.int)/\Q (.int (List.sum ns)) H):=by
 intro pins s σ H xs us Q I r h;obtain ⟨p,ns,rfl,hq,q⟩:=h;obtain ⟨u,rfl,ru⟩:=L3 r
 cases (show u=Value.ref p from ru)
 obtain ⟨its,rv,pl,hz⟩:=I.list hq;have hi:=XQ rv;obtain ⟨zs,ez⟩:=hi.allInts.items;have hl:s.heap.IsList p (intItems zs):=ez ▸ pl.isList
 have en:preSum (numAt zs) zs.size=ns.sum:=by
  rw [preSum_eq,BS (by simp)];have:=hi.numsOf;rw [<-this];have e2:its=(intItems zs).toList:=by rw [<-ez]
  rw [e2,nums_intItems]
 refine sum_intListG (I.ok.hd hc) hl fun h' tk t' hk=> ?_;rw [en];exact ⟨.int ns.sum,H,I.kept hk,⟨t',rfl⟩,q⟩
section
variable {K:PySem.W.Frag} {σ0:L2.St} {g:TG} {tt:TT} {te:TE} {H:Hp} {Q:VK}
theorem Reps.snoc{vs:List V}{ds:List PyData}{v:V}{d:PyData}(h:Reps K H vs ds)(k:Rep K H v d):Reps K H (vs ++ [v]) (ds ++ [d]):=by
 induction vs generalizing ds with
 | nil=>cases h;exact .cons k .nil
 | cons x xs ih=>cases h with | cons a b=>exact .cons a (ih b)
theorem Reps.get:∀ {vs:List V} {ds:List PyData} {i:Nat} {d:PyData},Reps K H vs ds->ds[i]? = some d->∃v,vs[i]? = some v/\Rep K H v d
 | _,_,_,_, .nil,e=>by simp at e
 | _,_,0,_, .cons r _,e=>by simp at e;subst e;exact ⟨_,rfl,r⟩
 | _,_,i+1,d, .cons _ t,e=>by
  obtain ⟨u,h1,h2⟩:=Reps.get (i:=i) (d:=d) t (by simpa using e);exact ⟨u,by simpa using h1,h2⟩
end
end
end Tf
namespace Dm
open PySem PySem.Spec PyProof.Rows L2 Tf
inductive Sl where
 | val (d:PyData)
 | own (ds:List PyData)
 | dct (kvs:List (PyData×PyData))
def Sl.dat:Sl->PyData
 | .val d=>d
 | .own ds=> .list ds
 | .dct kvs=> .dict kvs
abbrev En:=List (Option Sl)
theorem e9{H0 H:Hp}{p:Addr}{o:HO}(h:Same H0 H):Same (upd H0 p o) (upd H p o):=fun b u e=>by
 by_cases hb:b=p
 . subst hb;rw [C9] at e ⊢;exact e
 . rw [BP hb] at e ⊢;exact h b u e
def Mu:HO->Prop
 | .tup _=>False
 | _=>True
structure Ext (H0 H H0' H':Hp):Prop where
 s:Same H H'
 s0:Same H0 H0'
 s1:Same H0' H'
 own:∀a o,H a=some o->Mu o->H0 a=none->H0' a=none
theorem Ext.refl{H0 H:Hp}(h:Same H0 H):Ext H0 H H0 H:=⟨Same.refl _,Same.refl _,h,fun _ _ _ _ h=>h⟩
theorem Ext.trans{H0 H H1 J1 H2 J2:Hp}(a:Ext H0 H H1 J1)(b:Ext H1 J1 H2 J2):Ext H0 H H2 J2:=
 ⟨a.s.trans b.s,a.s0.trans b.s0,b.s1,fun x o h m h0=>b.own x o (a.s x o h) m (a.own x o h m h0)⟩
theorem Ext.chain{S0 HB H0 H H1 J1:Hp}(a:Ext S0 HB H0 H)(b:Ext H0 H H1 J1):Ext S0 HB H1 J1:=
 ⟨a.s.trans b.s,a.s0.trans b.s0,b.s1,fun x o h m h0=>b.own x o (a.s x o h) m (a.own x o h m h0)⟩
theorem Ext.rebase{S0 HB H0 H:Hp}(a:Ext S0 HB H0 H):Ext H0 HB H0 H:=⟨a.s,Same.refl _,a.s1,fun _ _ _ _ h=>h⟩
theorem Ext.unbase{S0 HB H0 H H1 J1:Hp}(a:Ext S0 HB H0 H)(b:Ext H0 HB H1 J1):Ext S0 HB H1 J1:=
 ⟨b.s,a.s0.trans b.s0,b.s1,fun x o h m h0=>b.own x o h m (a.own x o h m h0)⟩
theorem Ext.alloc{H0 H:Hp}{p:Addr}(h:Same H0 H)(hp:H p=none)(o:HO):Ext H0 H H0 (upd H p o) :=
 ⟨Same.upd hp o,Same.refl _,h.trans (Same.upd hp o),fun _ _ _ _ h=>h⟩
theorem Ext.allocF{H0 H:Hp}{p:Addr}(h:Same H0 H)(hp:H p=none)(o:HO):Ext H0 H (upd H0 p o) (upd H p o) :=
 ⟨Same.upd hp o,Same.upd (h.free hp) o,e9 h,fun a o' ha _ h0=>by rw [BP (BT ha hp)];exact h0⟩
section
variable {K:PySem.W.Frag}
def DctR(K:PySem.W.Frag)(H0:Hp)(es:List (List Int×Addr×Value))(kvs:List (PyData×PyData)):Prop:=KA K H0 es/\∃(xs:List V) (ds:List PyData),Vals xs (es.map (·.2.2))/\Reps K H0 xs ds/\kvs=(es.map fun e=>tIk e.1).zip ds
theorem DctR.same{H0 H0':Hp}{es:List (List Int×Addr×Value)}{kvs:List (PyData×PyData)}(s:Same H0 H0')(h:DctR K H0 es kvs):DctR K H0' es kvs:=by
 obtain ⟨ka,xs,ds,e1,e2,e3⟩:=h;exact ⟨fun x hx=>Same.seqT s (ka x hx),xs,ds,e1,Reps.same s e2,e3⟩
theorem DctR.rep{H:Hp}{a:Addr}{es:List (List Int×Addr×Value)}{kvs:List (PyData×PyData)}(h:DctR K H es kvs)(e:H a=some (.ext (DcE a es))):Rep K H (.ref a) (.dict kvs):=by
 obtain ⟨ka,xs,ds,e1,e2,rfl⟩:=h;exact .dict e ka e1 e2
def SlP(K:PySem.W.Frag)(H0 H:Hp)(v:V):Sl->Prop
 | .val d=>Rep K H0 v d
 | .own ds=>∃a vs,v = .ref a/\H a=some (.lst vs)/\Reps K H0 vs ds
 | .dct kvs=>∃a t,v = .ref a/\H a=some (.ext (DcE a t))/\DctR K H0 t kvs
def SlH(K:PySem.W.Frag)(HB H0 H:Hp)(v:V):Sl->Prop
 | .val d=>Rep K H0 v d
 | .own ds=>∃a vs,v = .ref a/\HB a=none/\H0 a=none/\H a=some (.lst vs)/\Reps K H0 vs ds
 | .dct kvs=>∃a t,v = .ref a/\HB a=none/\H0 a=none/\H a=some (.ext (DcE a t))/\DctR K H0 t kvs
theorem SlH.p{HB H0 H:Hp}{v:V}:∀ {s:Sl},SlH K HB H0 H v s->SlP K H0 H v s
 | .val _,h=>h
 | .own _,⟨a,vs,e,_,_,h1,h2⟩=>⟨a,vs,e,h1,h2⟩
 | .dct _,⟨a,vs,e,_,_,h1,h2⟩=>⟨a,vs,e,h1,h2⟩
theorem SlH.base{HB HB' H0 H:Hp}{v:V}(s:Same HB HB'):∀ {r:Sl},SlH K HB' H0 H v r->SlH K HB H0 H v r
 | .val _,h=>h
 | .own _,⟨a,vs,e,h0,h1,h2,h3⟩=>⟨a,vs,e,s.free h0,h1,h2,h3⟩
 | .dct _,⟨a,vs,e,h0,h1,h2,h3⟩=>⟨a,vs,e,s.free h0,h1,h2,h3⟩
theorem SlH.ext{HB H0 H H0' H':Hp}{v:V}(x:Ext H0 H H0' H'):∀ {r:Sl},SlH K HB H0 H v r->SlH K HB H0' H' v r
 | .val _,h=>Rep.same x.s0 h
 | .own _,⟨a,vs,e,h0,h1,h2,h3⟩=>⟨a,vs,e,h0,x.own a _ h2 DJ h1,x.s _ _ h2,Reps.same x.s0 h3⟩
 | .dct _,⟨a,vs,e,h0,h1,h2,h3⟩=>⟨a,vs,e,h0,x.own a _ h2 DJ h1,x.s _ _ h2,h3.same x.s0⟩
theorem SlP.ext{H0 H H0' H':Hp}{v:V}(x:Ext H0 H H0' H'):∀ {r:Sl},SlP K H0 H v r->SlP K H0' H' v r
 | .val _,h=>Rep.same x.s0 h
 | .own _,⟨a,vs,e,h2,h3⟩=>⟨a,vs,e,x.s _ _ h2,Reps.same x.s0 h3⟩
 | .dct _,⟨a,vs,e,h2,h3⟩=>⟨a,vs,e,x.s _ _ h2,h3.same x.s0⟩
theorem SlP.rep{H0 H:Hp}{v:V}(s:Same H0 H):∀ {r:Sl},SlP K H0 H v r->Rep K H v r.dat
 | .val _,h=>Rep.same s h
 | .own _,⟨a,vs,e,h2,h3⟩=>by subst e;exact .list (SqL.of h2) (Reps.same s h3)
 | .dct _,⟨a,vs,e,h2,h3⟩=>by subst e;exact (h3.same s).rep h2
theorem SlP.lst{H0 H:Hp}{v:V}{ds:List PyData}(s:Same H0 H):∀ {r:Sl},SlP K H0 H v r->r.dat = .list ds->∃a vs,v = .ref a/\SqL K H a vs/\Reps K H0 vs ds
 | .val _,h,e=>by
  cases h with
  | list h1 h2=>cases e;exact ⟨_,_,rfl,s.seq h1,h2⟩
  | _=>cases e
 | .own _,⟨a,vs,e,h2,h3⟩,e2=>by cases e2;exact ⟨a,vs,e,SqL.of h2,h3⟩
 | .dct _,_,e2=>by cases e2
theorem SlP.tup{H0 H:Hp}{v:V}{ds:List PyData}:∀ {r:Sl},SlP K H0 H v r->r.dat = .tuple ds->∃a vs,v = .ref a/\SqT K H0 a vs/\Reps K H0 vs ds
 | .val _,h,e=>by
  cases h with
  | tuple h1 h2=>cases e;exact ⟨_,_,rfl,h1,h2⟩
  | _=>cases e
 | .own _,_,e=>by cases e
 | .dct _,_,e=>by cases e
theorem SlP.int{H0 H:Hp}{v:V}{i:Int}(h:SlP K H0 H v (.val (.int i))):v = .int i:=by cases (show Rep K H0 v (.int i) from h);rfl
theorem SlP.bool{H0 H:Hp}{v:V}{i:Bool}(h:SlP K H0 H v (.val (.bool i))):v = .bl i:=by cases (show Rep K H0 v (.bool i) from h);rfl
theorem SlP.none{H0 H:Hp}{v:V}(h:SlP K H0 H v (.val .none)):v = .non:=by cases (show Rep K H0 v .none from h);rfl
theorem mX{H:Hp}{v:V}{d:PyData}(h:Rep K H v d):v = .non↔d = .none:=by
 cases h <;> simp
structure ER (K:PySem.W.Frag) (HB H0 H:Hp) (σ:L2.St) (ρ:En):Prop where
 len:σ.length=ρ.length
 get:∀(i:Nat) s,ρ[i]? = some (some s)->∃v,σ[i]? = some (some v)/\SlH K HB H0 H v s
 apart:∀(i j:Nat) a ds es,i≠j->ρ[i]? = some (some (.own ds))->ρ[j]? = some (some (.own es))->σ[i]? = some (some (.ref a))->σ[j]? ≠ some (some (.ref a))
theorem ER.ext{HB H0 H H0' H':Hp}{σ:L2.St}{ρ:En}(x:Ext H0 H H0' H')(e:ER K HB H0 H σ ρ):ER K HB H0' H' σ ρ:=
 ⟨e.len,fun i s h=>by obtain ⟨v,h1,h2⟩:=e.get i s h;exact ⟨v,h1,h2.ext x⟩,e.apart⟩
structure Rl where
 r:Hp->Hp->Hp->L2.St->En->Prop
 slot:Nat->Prop
structure ST (R:Rl) (HB H0 H:Hp) (σ:L2.St) (ρ:En):Prop where
 r:R.r HB H0 H σ ρ
class RelOk (K:outParam PySem.W.Frag) (R:Rl):Prop where
 ext:∀ {HB H0 H H0' H':Hp} {σ:L2.St} {ρ:En},Ext H0 H H0' H'->R.r HB H0 H σ ρ->R.r HB H0' H' σ ρ
 get:∀ {HB H0 H:Hp} {σ:L2.St} {ρ:En} {i:Nat} {s:Sl},R.r HB H0 H σ ρ->R.slot i->ρ[i]? = some (some s)->∃v,σ[i]? = some (some v)/\SlH K HB H0 H v s
 set:∀ {HB H0 H H0' H':Hp} {σ:L2.St} {ρ:En} {i:Nat} {v:V} {s:Sl},R.r HB H0 H σ ρ->R.slot i->Ext H0 H H0' H'->Same HB H->SlH K H H0' H' v s->R.r HB H0' H' (σ.set i (some v)) (ρ.set i (some s))
 write:∀ {HB H0 H:Hp} {σ:L2.St} {ρ:En} {i:Nat} {a:Addr} {ds es:List PyData} {vs ys:List V},R.r HB H0 H σ ρ->R.slot i->ρ[i]? = some (some (.own ds))->σ[i]? = some (some (.ref a))->HB a=none->H0 a=none->H a=some (.lst vs)->Reps K H0 ys es->R.r HB H0 (upd H a (.lst ys)) σ (ρ.set i (some (.own es)))
 frz:∀ {S0 HB H0 H:Hp} {σ:L2.St} {ρ:En} {i:Nat} {ds:List PyData},R.r HB H0 H σ ρ->R.slot i->ρ[i]? = some (some (.own ds))->Ext S0 HB H0 H->∃H0',Ext S0 HB H0' H/\R.r HB H0' H σ (ρ.set i (some (.val (.list ds))))
theorem ST.ext{R:Rl} [RelOk K R] {HB H0 H H0' H':Hp} {σ:L2.St} {ρ:En} (x:Ext H0 H H0' H') (e:ST R HB H0 H σ ρ):ST R HB H0' H' σ ρ:=⟨RelOk.ext (K:=K) x e.r⟩
def PR(K:PySem.W.Frag):Rl:=⟨ER K,fun _=>True⟩
variable {R:Rl} [RelOk K R]
def RX{α:Type}(K:PySem.W.Frag)(R:Rl)(P:Hp->Hp->Hp->V->α->Prop)(te:TE)(f:En->Option α):Prop:=
 ∀(HB:Hp) (σ:L2.St) (ρ:En) (H0 H:Hp),Same H0 H->ST R HB H0 H σ ρ->∀r,f ρ=some r->∀Q:VK,(∀v H0' H',Ext H0 H H0' H'->P H H0' H' v r->Q v H')->te σ H Q
abbrev RE (K:PySem.W.Frag) (R:Rl):TE->(En->Option Sl)->Prop:=RX K R (fun H H0' H' v r=>SlH K H H0' H' v r)
abbrev RP (K:PySem.W.Frag) (R:Rl):TE->(En->Option Sl)->Prop:=RX K R (fun _ H0' H' v r=>SlP K H0' H' v r)
abbrev RV (K:PySem.W.Frag) (R:Rl):TE->(En->Option PyData)->Prop:=RX K R (fun _ H0' _ v d=>Rep K H0' v d)
def RT(K:PySem.W.Frag)(R:Rl)(tt:TT)(f:En->Option Bool):Prop:=
 ∀(HB:Hp) (σ:L2.St) (ρ:En) (H0 H:Hp),Same H0 H->ST R HB H0 H σ ρ->∀b,f ρ=some b->∀Q:Bool->Hp->Prop,(∀H0' H',Ext H0 H H0' H'->Q b H')->tt σ H Q
def RA(K:PySem.W.Frag)(R:Rl)(ta:TA)(f:En->Option (List PyData)):Prop:=
 ∀(HB:Hp) (σ:L2.St) (ρ:En) (H0 H:Hp),Same H0 H->ST R HB H0 H σ ρ->∀ds,f ρ=some ds->∀Q:List V->Hp->Prop,(∀vs H0' H',Ext H0 H H0' H'->Reps K H0' vs ds->Q vs H')->ta σ H Q
def RQ(K:PySem.W.Frag)(R:Rl)(ta:TA)(f:En->Option (List Sl)):Prop:=
 ∀(HB:Hp) (σ:L2.St) (ρ:En) (H0 H:Hp),Same H0 H->ST R HB H0 H σ ρ->∀ss,f ρ=some ss->∀Q:List V->Hp->Prop,(∀vs H0' H',Ext H0 H H0' H'->Paired (SlP K H0' H') vs ss->Q vs H')->ta σ H Q
theorem RE.rp{te:TE}{f:En->Option Sl}(h:RE K R te f):RP K R te f:=fun HB σ ρ H0 H s e r hr Q q=>h HB σ ρ H0 H s e r hr Q fun v H0' H' x p=>q v H0' H' x p.p
theorem bS{H0 H H0' H':Hp}{a:Addr}{w:HO}(x:Ext H0 H H0' H')(hn:H a=none)(h1:H0' a=none)(h2:H' a=some w):Ext H0 H (upd H0' a w) H' :=
 ⟨x.s,x.s0.trans (Same.upd h1 _),fun b u e=>by
  by_cases hb:b=a
  . subst hb;rw [C9] at e;rw [h2];exact e
  . rw [BP hb] at e;exact x.s1 b u e,fun b o hb m h0=>by
  rw [BP (BT hb hn)];exact x.own b o hb m h0⟩
def mDat(f:En->Option Sl):En->Option PyData:=fun ρ=>(f ρ).map Sl.dat
theorem RE.rv{te:TE}{f:En->Option Sl}(h:RE K R te f):RV K R te (mDat f):=fun HB σ ρ H0 H s e d hd Q q=>by
 obtain ⟨r,hr,rfl⟩:=BH.mp hd;refine h HB σ ρ H0 H s e r hr Q fun v H0' H' x p=> ?_
 cases r with
 | val d=>exact q v H0' H' x p
 | own ds=>
  obtain ⟨a,vs,rfl,hn,h1,h2,h3⟩:=p
  exact q _ _ _ (bS x hn h1 h2) (.list (SqL.of C9) (Reps.same (Same.upd h1 _) h3))
 | dct kvs=>
  obtain ⟨a,t,rfl,hn,h1,h2,h3⟩:=p;exact q _ _ _ (bS x hn h1 h2) ((h3.same (Same.upd h1 _)).rep C9)
def mPk(i:Nat):En->Option Sl:=fun ρ=>(ρ[i]?).join
def mVar(i:Nat):En->Option Sl:=fun ρ=>match (ρ[i]?).join with
 | some (.val d)=>some (.val d)
 | _=>none
def mK(d:PyData):En->Option Sl:=fun _=>some (.val d)
theorem join_some{α:Type}{o:Option (Option α)}{a:α}(h:o.join=some a):o=some (some a):=by
 cases o with
 | none=>cases h
 | some b=>exact KM some h
theorem wJ(i:Nat)(hs:R.slot i):RP K R (KL i) (mPk i):=fun HB σ ρ H0 H s e r hr Q q=>by
 obtain ⟨v,h1,h2⟩:=RelOk.get (K:=K) e.r hs (join_some hr);exact ⟨v,h1,q v H0 H (Ext.refl s) h2.p⟩
theorem sN(i:Nat)(hs:R.slot i):RE K R (KL i) (mVar i):=fun HB σ ρ H0 H s e r hr Q q=>by
 unfold mVar at hr
 cases ej:(ρ[i]?).join with
 | none=>rw [ej] at hr;cases hr
 | some r' =>
  rw [ej] at hr
  cases r' with
  | own _=>cases hr
  | dct _=>cases hr
  | val d=>
   cases hr
   obtain ⟨v,h1,h2⟩:=RelOk.get (K:=K) e.r hs (join_some ej);exact ⟨v,h1,q v H0 H (Ext.refl s) h2⟩
theorem kD{v:V}{d:PyData}(h:∀H0:Hp,Rep K H0 v d):RE K R (tC v) (mK d):=fun HB σ ρ H0 H s e r hr Q q=>by
 cases hr
 exact q v H0 H (Ext.refl s) (h H0)
def OpD(K:PySem.W.Frag)(r:R2)(op:Sl->Sl->Option Sl):Prop:=
 ∀(H0 H:Hp) (x y:V) (sx sy z:Sl),Same H0 H->SlP K H0 H x sx->SlP K H0 H y sy->op sx sy=some z->∀Q:VK,(∀v H0' H',Ext H0 H H0' H'->SlH K H H0' H' v z->Q v H')->r x y H Q
def UnD(K:PySem.W.Frag)(r:V->Hp->VK->Prop)(op:Sl->Option Sl):Prop:=
 ∀(H0 H:Hp) (x:V) (sx z:Sl),Same H0 H->SlP K H0 H x sx->op sx=some z->∀Q:VK,(∀v H0' H',Ext H0 H H0' H'->SlH K H H0' H' v z->Q v H')->r x H Q
def mBin(op:Sl->Sl->Option Sl)(fa fb:En->Option Sl):En->Option Sl:=fun ρ=>(fa ρ).bind fun a=>(fb ρ).bind fun b=>op a b
def mUn(op:Sl->Option Sl)(fa:En->Option Sl):En->Option Sl:=fun ρ=>(fa ρ).bind op
theorem UV{r:R2}{op:Sl->Sl->Option Sl}{ta tb:TE}{fa fb:En->Option Sl}(ho:OpD K r op)(ha:RP K R ta fa)(hb:RP K R tb fb):RE K R (tOp r ta tb) (mBin op fa fb):=fun HB σ ρ H0 H s e z hz Q q=>by
 obtain ⟨x,hx,hz⟩:=A0.mp hz;obtain ⟨y,hy,hz⟩:=A0.mp hz;refine ha HB σ ρ H0 H s e x hx _ fun v H1 J1 x1 p1=> ?_;refine hb HB σ ρ H1 J1 x1.s1 (e.ext (K:=K) x1) y hy _ fun u H2 J2 x2 p2=> ?_;exact ho H2 J2 v u x y z x2.s1 (p1.ext x2) p2 hz Q fun w H3 J3 x3 p3=>q w H3 J3 ((x1.trans x2).trans x3) (p3.base (x1.trans x2).s)
theorem yX{r:V->Hp->VK->Prop}{op:Sl->Option Sl}{ta:TE}{fa:En->Option Sl}(ho:UnD K r op)(ha:RP K R ta fa):RE K R (tUn r ta) (mUn op fa):=fun HB σ ρ H0 H s e z hz Q q=>by
 obtain ⟨x,hx,hz⟩:=A0.mp hz;refine ha HB σ ρ H0 H s e x hx _ fun v H1 J1 x1 p1=> ?_;exact ho H1 J1 v x z x1.s1 p1 hz Q fun w H3 J3 x3 p3=>q w H3 J3 (x1.trans x3) (p3.base x1.s)
def iop(g:Int->Int->Int):Sl->Sl->Option Sl
 | .val (.int i), .val (.int j)=>some (.val (.int (g i j)))
 | _,_=>none
open Classical in
noncomputable def SI(C:Int->Int->Prop)(g:Int->Int->Int):Sl->Sl->Option Sl
 | .val (.int i), .val (.int j)=>if C i j then some (.val (.int (g i j))) else none
 | _,_=>none
def icmp(g:Int->Int->Bool):Sl->Sl->Option Sl
 | .val (.int i), .val (.int j)=>some (.val (.bool (g i j)))
 | _,_=>none
def iun(g:Int->Int):Sl->Option Sl
 | .val (.int i)=>some (.val (.int (g i)))
 | _=>none
theorem qL{g:Int->Int->Int}:OpD K (rI0 fun i j=> .int (g i j)) (iop g):=fun H0 H x y sx sy z s px py hz Q q=>by
 unfold iop at hz
 split at hz
 . cases hz
   exact ⟨_,_,px.int,py.int,q _ _ _ (Ext.refl s) (.int _)⟩
 . cases hz
theorem NF{C:Int->Int->Prop}{g:Int->Int->Int}:OpD K (rI C fun i j=> .int (g i j)) (SI C g):=fun H0 H x y sx sy z s px py hz Q q=>by
 unfold SI at hz
 split at hz
 . split at hz
   . rename_i hc
     cases hz
     exact ⟨_,_,px.int,py.int,hc,q _ _ _ (Ext.refl s) (.int _)⟩
   . cases hz
 . cases hz
theorem SD{g:Int->Int->Bool}:OpD K (rI0 fun i j=> .bl (g i j)) (icmp g):=fun H0 H x y sx sy z s px py hz Q q=>by
 unfold icmp at hz
 split at hz
 . cases hz
   exact ⟨_,_,px.int,py.int,q _ _ _ (Ext.refl s) (.bool _)⟩
 . cases hz
theorem n0{g:Int->Int}:UnD K (rU fun i=> .int (g i)) (iun g):=fun H0 H x sx z s px hz Q q=>by
 unfold iun at hz
 split at hz
 . cases hz
   exact ⟨_,px.int,q _ _ _ (Ext.refl s) (.int _)⟩
 . cases hz
def eqD(a b:PyData):Option Bool:=if a.canLay0=true/\b.canLay0=true/\min a.depth b.depth<=60 then some (PyData.eqv a b) else none
def deq:Sl->Sl->Option Sl:=fun a b=>(eqD a.dat b.dat).map fun k=> .val (.bool k)
def dne:Sl->Sl->Option Sl:=fun a b=>(eqD a.dat b.dat).map fun k=> .val (.bool (!k))
theorem fP:OpD K (yW K) deq:=fun H0 H x y sx sy z s px py hz Q q=>by
 obtain ⟨k,hk,rfl⟩:=Option.map_eq_some_iff.mp hz;unfold eqD at hk
 split at hk
 . rename_i hc
   cases hk
   exact ⟨_,_,px.rep s,py.rep s,hc.1,hc.2.1,hc.2.2,q _ _ _ (Ext.refl s) (.bool _)⟩
 . cases hk
theorem sP:OpD K (yV K) dne:=fun H0 H x y sx sy z s px py hz Q q=>by
 obtain ⟨k,hk,rfl⟩:=Option.map_eq_some_iff.mp hz;unfold eqD at hk
 split at hk
 . rename_i hc
   cases hk
   exact ⟨_,_,px.rep s,py.rep s,hc.1,hc.2.1,hc.2.2,q _ _ _ (Ext.refl s) (.bool _)⟩
 . cases hk
def isNone:PyData->Bool
 | .none=>true
 | _=>false
def disN:Sl->Sl->Option Sl
 | a, .val .none=>some (.val (.bool (isNone a.dat)))
 | _,_=>none
def disNN:Sl->Sl->Option Sl
 | a, .val .none=>some (.val (.bool (!isNone a.dat)))
 | _,_=>none
theorem dG{H0 H:Hp}{v:V}{r:Sl}(s:Same H0 H)(p:SlP K H0 H v r):decide (v = .non)=isNone r.dat:=by
 have h:=mX (p.rep s)
 cases e:r.dat <;> simp_all [isNone]
theorem nC:OpD K (fun x y H Q=>y = .non/\Q (.bl (decide (x = .non))) H) disN:=fun H0 H x y sx sy z s px py hz Q q=>by
 unfold disN at hz
 split at hz
 . cases hz
   refine ⟨py.none,?_⟩;rw [dG s px];exact q _ _ _ (Ext.refl s) (.bool _)
 . cases hz
def dix:Sl->Sl->Option Sl
 | a, .val (.int i)=>match a.dat with
  | .list ds=>(atI ds i).map .val
  | .tuple ds=>(atI ds i).map .val
  | _=>none
 | _,_=>none
theorem Reps.atI{H:Hp}{vs:List V}{ds:List PyData}{i:Int}{d:PyData}(h:Reps K H vs ds)(e:atI ds i=some d):∃v,atI vs i=some v/\Rep K H v d:=by
 unfold L2.atI at e ⊢
 rw [h.length]
 cases ej:ixN ds.length i with
 | none=>rw [ej] at e;cases e
 | some j=>
  rw [ej] at e
  obtain ⟨v,h1,h2⟩:=Tf.Reps.get h (show ds[j]? = some d from e);exact ⟨v,h1,h2⟩
theorem xI:OpD K (rIx K) dix:=fun H0 H x y sx sy z s px py hz Q q=>by
 unfold dix at hz
 split at hz
 . split at hz
   . rename_i i ds hd;obtain ⟨d,he,rfl⟩:=BH.mp hz;obtain ⟨a,vs,rfl,h1,h2⟩:=px.lst s hd;obtain ⟨v,h3,h4⟩:=Reps.atI h2 he;exact .inl ⟨a,vs,_,v,rfl,py.int,h1,h3,q _ _ _ (Ext.refl s) h4⟩
   . rename_i i ds hd;obtain ⟨d,he,rfl⟩:=BH.mp hz;obtain ⟨a,vs,rfl,h1,h2⟩:=px.tup hd;obtain ⟨v,h3,h4⟩:=Reps.atI h2 he;exact .inr (.inl ⟨a,vs,_,v,rfl,py.int,s.seqT h1,h3,q _ _ _ (Ext.refl s) h4⟩)
   . cases hz
 . cases hz
end
end Dm
namespace Dm
open PySem PySem.Spec PyProof.Rows L2 Tf
section
variable {K:PySem.W.Frag} {R:Rl} [RelOk K R]
def mNil:En->Option (List PyData):=fun _=>some []
def mCons(f:En->Option Sl)(g:En->Option (List PyData)):En->Option (List PyData):=fun ρ=>(f ρ).bind fun a=>(g ρ).bind fun as=>some (a.dat::as)
theorem wV:RA K R tNil mNil:=fun HB σ ρ H0 H s e ds hd Q q=>by
 cases hd
 exact q [] H0 H (Ext.refl s) .nil
theorem mL{te:TE}{ta:TA}{f:En->Option Sl}{g:En->Option (List PyData)}(hf:RE K R te f)(hg:RA K R ta g):RA K R (SQ te ta) (mCons f g):=fun HB σ ρ H0 H s e ds hd Q q=>by
 obtain ⟨a,ha,hd⟩:=A0.mp hd;obtain ⟨as,has,hd⟩:=A0.mp hd
 cases hd
 refine hf.rv HB σ ρ H0 H s e a.dat (by unfold mDat;rw [ha];rfl) _ fun v H1 J1 x1 p1=> ?_;exact hg HB σ ρ H1 J1 x1.s1 (e.ext (K:=K) x1) as has _ fun vs H2 J2 x2 p2=>q _ H2 J2 (x1.trans x2) (.cons (Rep.same x2.s0 p1) p2)
def mNilP:En->Option (List Sl):=fun _=>some []
def mConsP(f:En->Option Sl)(g:En->Option (List Sl)):En->Option (List Sl):=fun ρ=>(f ρ).bind fun a=>(g ρ).bind fun as=>some (a::as)
theorem v6:RQ K R tNil mNilP:=fun HB σ ρ H0 H s e ds hd Q q=>by
 cases hd
 exact q [] H0 H (Ext.refl s) .nil
theorem n6{te:TE}{ta:TA}{f:En->Option Sl}{g:En->Option (List Sl)}(hf:RP K R te f)(hg:RQ K R ta g):RQ K R (SQ te ta) (mConsP f g):=fun HB σ ρ H0 H s e ds hd Q q=>by
 obtain ⟨a,ha,hd⟩:=A0.mp hd;obtain ⟨as,has,hd⟩:=A0.mp hd
 cases hd
 refine hf HB σ ρ H0 H s e a ha _ fun v H1 J1 x1 p1=> ?_;exact hg HB σ ρ H1 J1 x1.s1 (e.ext (K:=K) x1) as has _ fun vs H2 J2 x2 p2=>q _ H2 J2 (x1.trans x2) (.cons (p1.ext x2) p2)
def mTup(f:En->Option (List PyData)):En->Option Sl:=fun ρ=>(f ρ).bind fun ds=>if ds.length<=sizeLine then some (.val (.tuple ds)) else none
def mLst(f:En->Option (List PyData)):En->Option Sl:=fun ρ=>(f ρ).bind fun ds=>if ds.length<=sizeLine then some (.own ds) else none
theorem vC{ta:TA}{f:En->Option (List PyData)}(h:RA K R ta f):RE K R (yK ta) (mTup f):=fun HB σ ρ H0 H s e z hz Q q=>by
 obtain ⟨ds,hd,hz⟩:=A0.mp hz
 split at hz
 . rename_i hl
   cases hz
   refine h HB σ ρ H0 H s e ds hd _ fun vs H1 J1 x1 p1=>⟨by rw [p1.length];exact hl,fun p hp=> ?_⟩;exact q _ _ _ (x1.trans (Ext.allocF x1.s1 hp _)) (.tuple (SqT.of C9) (Reps.same (Same.upd (x1.s1.free hp) _) p1))
 . cases hz
theorem x6{ta:TA}{f:En->Option (List PyData)}(h:RA K R ta f):RE K R (yE ta) (mLst f):=fun HB σ ρ H0 H s e z hz Q q=>by
 obtain ⟨ds,hd,hz⟩:=A0.mp hz
 split at hz
 . rename_i hl
   cases hz
   refine h HB σ ρ H0 H s e ds hd _ fun vs H1 J1 x1 p1=>⟨by rw [p1.length];exact hl,fun p hp=> ?_⟩;exact q _ _ _ (x1.trans (Ext.alloc x1.s1 hp _)) ⟨p,vs,rfl,x1.s.free hp,x1.s1.free hp,C9,p1⟩
 . cases hz
def spD(K:PySem.W.Frag)(F:List PyData->Option Sl):Sp:=fun vs H Q _=>∃H0 ds r,Same H0 H/\Reps K H0 vs ds/\F ds=some r/\∀v H0' H',Ext H0 H H0' H'->SlH K H H0' H' v r->Q v H'
def mCall(F:List PyData->Option Sl)(f:En->Option (List PyData)):En->Option Sl:=fun ρ=>(f ρ).bind F
theorem qB{F:List PyData->Option Sl}{E:XK}{ta:TA}{f:En->Option (List PyData)}(h:RA K R ta f):RE K R (ZH (spD K F) [] E ta) (mCall F f):=fun HB σ ρ H0 H s e z hz Q q=>by
 obtain ⟨ds,hd,hz⟩:=A0.mp hz;refine h HB σ ρ H0 H s e ds hd _ fun vs H1 J1 x1 p1=> ?_;rw [DV];exact ⟨H1,ds,z,x1.s1,p1,hz,fun v H2 J2 x2 p2=>q v H2 J2 (x1.trans x2) (p2.base x1.s)⟩
def NR(K:PySem.W.Frag)(r:List V->Hp->VK->Prop)(F:List Sl->Option Sl):Prop:=
 ∀(H0 H:Hp) (vs:List V) (ss:List Sl) (z:Sl),Same H0 H->Paired (SlP K H0 H) vs ss->F ss=some z->∀Q:VK,(∀v H0' H',Ext H0 H H0' H'->SlH K H H0' H' v z->Q v H')->r vs H Q
def mCallP(F:List Sl->Option Sl)(f:En->Option (List Sl)):En->Option Sl:=fun ρ=>(f ρ).bind F
theorem W6{r:List V->Hp->VK->Prop}{F:List Sl->Option Sl}{ta:TA}{f:En->Option (List Sl)}(hc:NR K r F)(h:RQ K R ta f):RE K R (tCB r ta) (mCallP F f):=fun HB σ ρ H0 H s e z hz Q q=>by
 obtain ⟨ss,hd,hz⟩:=A0.mp hz;refine h HB σ ρ H0 H s e ss hd _ fun vs H1 J1 x1 p1=> ?_;exact hc H1 J1 vs ss z x1.s1 p1 hz Q fun v H2 J2 x2 p2=>q v H2 J2 (x1.trans x2) (p2.base x1.s)
theorem IK{H0 H:Hp}{vs:List V}{a:Sl}(h:Paired (SlP K H0 H) vs [a]):∃v,vs = [v]/\SlP K H0 H v a:=by
 cases h with | cons h t=>cases t;exact ⟨_,rfl,h⟩
theorem nS{H0 H:Hp}{vs:List V}{a b:Sl}(h:Paired (SlP K H0 H) vs [a,b]):∃v w,vs = [v,w]/\SlP K H0 H v a/\SlP K H0 H w b:=by
 cases h with | cons h t=>cases t with | cons h2 t=>cases t;exact ⟨_,_,rfl,h,h2⟩
def dLen:List Sl->Option Sl
 | [a]=>match a.dat with
  | .list ds=>some (.val (.int ds.length))
  | .tuple ds=>some (.val (.int ds.length))
  | _=>none
 | _=>none
theorem GV:NR K (fun xs H Q=>∃p ys,xs = [.ref p]/\(SqL K H p ys\/SqT K H p ys)/\Q (.int ys.length) H) dLen:=fun H0 H vs ss z s p hz Q q=>by
 unfold dLen at hz
 split at hz
 . obtain ⟨v,rfl,pa⟩:=IK p
   split at hz
   . rename_i ds hd
     cases hz
     obtain ⟨a,vs,rfl,h1,h2⟩:=pa.lst s hd;refine ⟨a,vs,rfl, .inl h1,?_⟩;rw [h2.length];exact q _ _ _ (Ext.refl s) (.int _)
   . rename_i ds hd
     cases hz
     obtain ⟨a,vs,rfl,h1,h2⟩:=pa.tup hd;refine ⟨a,vs,rfl, .inr (s.seqT h1),?_⟩;rw [h2.length];exact q _ _ _ (Ext.refl s) (.int _)
   . cases hz
 . cases hz
def dAbs:List Sl->Option Sl
 | [.val (.int i)]=>some (.val (.int (if i<0 then -i else i)))
 | _=>none
theorem uC:NR K (fun xs H Q=>∃i,xs = [.int i]/\Q (.int (if i<0 then -i else i)) H) dAbs:=fun H0 H vs ss z s p hz Q q=>by
 unfold dAbs at hz
 split at hz
 . obtain ⟨v,rfl,pa⟩:=IK p
   cases hz
   exact ⟨_,by rw [pa.int],q _ _ _ (Ext.refl s) (.int _)⟩
 . cases hz
def dList:List Sl->Option Sl
 | [a]=>match a.dat with
  | .list ds=>some (.own ds)
  | .tuple ds=>some (.own ds)
  | _=>none
 | _=>none
theorem UP:NR K (fun xs H Q=>∃p ys,xs = [.ref p]/\(SqL K H p ys\/SqT K H p ys)/\∀l,H l=none->Q (.ref l) (upd H l (.lst ys))) dList:=fun H0 H vs ss z s p hz Q q=>by
 unfold dList at hz
 split at hz
 . obtain ⟨v,rfl,pa⟩:=IK p
   split at hz
   . rename_i ds hd
     cases hz
     obtain ⟨a,vs,rfl,h1,h2⟩:=pa.lst s hd;exact ⟨a,vs,rfl, .inl h1,fun l hl=>q _ _ _ (Ext.alloc s hl _) ⟨l,vs,rfl,hl,s.free hl,C9,h2⟩⟩
   . rename_i ds hd
     cases hz
     obtain ⟨a,vs,rfl,h1,h2⟩:=pa.tup hd;exact ⟨a,vs,rfl, .inr (s.seqT h1),fun l hl=>q _ _ _ (Ext.alloc s hl _) ⟨l,vs,rfl,hl,s.free hl,C9,h2⟩⟩
   . cases hz
 . cases hz
def dTuple:List Sl->Option Sl
 | [a]=>match a.dat with
  | .list ds=>some (.val (.tuple ds))
  | .tuple ds=>some (.val (.tuple ds))
  | _=>none
 | _=>none
theorem QP:NR K (fun xs H Q=>∃p ys,xs = [.ref p]/\((SqL K H p ys/\∀l,H l=none->Q (.ref l) (upd H l (.tup ys)))\/(SqT K H p ys/\Q (.ref p) H))) dTuple:=fun H0 H vs ss z s p hz Q q=>by
 unfold dTuple at hz
 split at hz
 . obtain ⟨v,rfl,pa⟩:=IK p
   split at hz
   . rename_i ds hd
     cases hz
     obtain ⟨a,vs,rfl,h1,h2⟩:=pa.lst s hd;exact ⟨a,vs,rfl, .inl ⟨h1,fun l hl=>q _ _ _ (Ext.allocF s hl _) (.tuple (SqT.of C9) (Reps.same (Same.upd (s.free hl) _) h2))⟩⟩
   . rename_i ds hd
     cases hz
     obtain ⟨a,vs,rfl,h1,h2⟩:=pa.tup hd;exact ⟨a,vs,rfl, .inr ⟨s.seqT h1,q _ _ _ (Ext.refl s) (.tuple h1 h2)⟩⟩
   . cases hz
 . cases hz
def JO:List PyData->Option (List Int)
 | []=>some []
 | .int i::r=>(JO r).map (i :: ·)
 | _::_=>none
theorem LY:∀ {ds:List PyData} {ns:List Int},JO ds=some ns->ds=ns.map .int
 | [],ns,h=>by cases h;rfl
 | .int i::r,ns,h=>by
  obtain ⟨ms,h1,rfl⟩:=BH.mp (show (JO r).map (i :: ·)=some ns from h);rw [LY h1];rfl
theorem KD:∀ns:List Int,JO (ns.map .int)=some ns
 | []=>rfl
 | i::r=>by show (JO (r.map .int)).map (i :: ·)=_;rw [KD r];rfl
theorem LL{H:Hp}:∀ {vs:List V} {ns:List Int},Reps K H vs (ns.map .int)->vs=ns.map .int
 | _,[],h=>by cases h;rfl
 | _,n::r,h=>by
  cases h with
  | cons h t=>cases h;rw [LL t];rfl
def dSum:List Sl->Option Sl
 | [a]=>match a.dat with
  | .list ds=>(JO ds).map fun ns=> .val (.int (List.sum ns))
  | _=>none
 | _=>none
theorem QX:NR K (fun xs H Q=>∃p ns,xs = [.ref p]/\SqL K H p (ns.map V.int)/\Q (.int (List.sum ns)) H) dSum:=fun H0 H vs ss z s p hz Q q=>by
 unfold dSum at hz
 split at hz
 . obtain ⟨v,rfl,pa⟩:=IK p
   split at hz
   . rename_i ds hd;obtain ⟨ns,hn,rfl⟩:=BH.mp hz;obtain ⟨a,vs,rfl,h1,h2⟩:=pa.lst s hd;rw [LY hn] at h2
     rw [LL h2] at h1
     exact ⟨a,ns,rfl,h1,q _ _ _ (Ext.refl s) (.int _)⟩
   . cases hz
 . cases hz
def dInt:List Sl->Option Sl
 | [.val (.int i)]=>some (.val (.int i))
 | [.val (.bool k)]=>some (.val (.int (if k then 1 else 0)))
 | _=>none
theorem wL:NR K (fun xs H Q=>(∃i,xs = [.int i]/\Q (.int i) H)\/∃k,xs = [.bl k]/\Q (.int (if k then 1 else 0)) H) dInt:=fun H0 H vs ss z s p hz Q q=>by
 unfold dInt at hz
 split at hz
 . obtain ⟨v,rfl,pa⟩:=IK p
   cases hz
   exact .inl ⟨_,by rw [pa.int],q _ _ _ (Ext.refl s) (.int _)⟩
 . obtain ⟨v,rfl,pa⟩:=IK p
   cases hz
   exact .inr ⟨_,by rw [pa.bool],q _ _ _ (Ext.refl s) (.int _)⟩
 . cases hz
def tyD:PyData->Option String
 | .none=>some "NoneType"
 | .bool _=>some "bool"
 | .int _=>some "int"
 | .str _=>some "str"
 | .list _=>some "list"
 | .tuple _=>some "tuple"
 | _=>none
def isiD(n:String)(t:String):Option Bool:=
 if n = "int" then some (t == "int" || t == "bool") else if n = "bool" \/ n = "str" \/ n = "list" \/ n = "tuple" then some (t==n) else none
def mIsi(n:String)(f:En->Option Sl):En->Option Sl:=fun ρ=>(f ρ).bind fun a=>(tyD a.dat).bind fun t=>(isiD n t).map fun b=> .val (.bool b)
def mTest(f:En->Option Sl):En->Option Bool:=fun ρ=>(f ρ).bind fun a=>match a with
 | .val (.bool b)=>some b
 | _=>none
theorem QL{f:En->Option Sl}{ρ:En}{b:Bool}(h:mTest f ρ=some b):f ρ=some (.val (.bool b)):=by
 obtain ⟨a,ha,h⟩:=A0.mp h;rw [ha]
 split at h
 . cases h;rfl
 . cases h
theorem qD{te:TE}{f:En->Option Sl}(h:RP K R te f):RT K R (s9 te) (mTest f):=fun HB σ ρ H0 H s e b hb Q q=>
 h HB σ ρ H0 H s e _ (QL hb) _ fun v H1 J1 x1 p1=>⟨b,p1.bool,q _ _ x1⟩
theorem A15{te:TE}{f:En->Option Sl}(h:RP K R te f):RT K R (tB te) (mTest f):=fun HB σ ρ H0 H s e b hb Q q=>
 h HB σ ρ H0 H s e _ (QL hb) _ fun v H1 J1 x1 p1=>⟨b,p1.bool,q _ _ x1⟩
def mAnd(f g:En->Option Bool):En->Option Bool:=fun ρ=>(f ρ).bind fun b=>if b then g ρ else some false
def mOr(f g:En->Option Bool):En->Option Bool:=fun ρ=>(f ρ).bind fun b=>if b then some true else g ρ
def mNot(f:En->Option Bool):En->Option Bool:=fun ρ=>(f ρ).map (!·)
theorem tK{t u:TT}{f g:En->Option Bool}(h:RT K R t f)(k:RT K R u g):RT K R (yG t u) (mAnd f g):=fun HB σ ρ H0 H s e b hb Q q=>by
 obtain ⟨c,hc,hb⟩:=A0.mp hb;refine h HB σ ρ H0 H s e c hc _ fun H1 J1 x1=> ?_
 cases c with
 | true=>exact p9 (k HB σ ρ H1 J1 x1.s1 (e.ext (K:=K) x1) b hb Q fun H2 J2 x2=>q _ _ (x1.trans x2))
 | false=>cases hb;exact m8 (q _ _ x1)
theorem sZ{t:TT}{f:En->Option Bool}(h:RT K R t f):RT K R (zL t) (mNot f):=fun HB σ ρ H0 H s e b hb Q q=>by
 obtain ⟨c,hc,rfl⟩:=BH.mp hb;exact h HB σ ρ H0 H s e c hc _ fun H1 J1 x1=>q _ _ x1
def mAndV(f g:En->Option Sl):En->Option Sl:=fun ρ=>(mTest f ρ).bind fun b=>if b then g ρ else some (.val (.bool false))
def mOrV(f g:En->Option Sl):En->Option Sl:=fun ρ=>(mTest f ρ).bind fun b=>if b then some (.val (.bool true)) else g ρ
def mNotV(f:En->Option Sl):En->Option Sl:=fun ρ=>(mTest f ρ).map fun b=> .val (.bool (!b))
def mIfE(c:En->Option Bool)(f g:En->Option Sl):En->Option Sl:=fun ρ=>(c ρ).bind fun b=>if b then f ρ else g ρ
def RO(K:PySem.W.Frag)(R:Rl)(to:TO)(f:En->Option (Option Int)):Prop:=
 ∀(HB:Hp) (σ:L2.St) (ρ:En) (H0 H:Hp),Same H0 H->ST R HB H0 H σ ρ->∀o,f ρ=some o->∀Q:Option Int->Hp->Prop,(∀H0' H',Ext H0 H H0' H'->Q o H')->to σ H Q
def mNoPart:En->Option (Option Int):=fun _=>some none
def mPart(f:En->Option Sl):En->Option (Option Int):=fun ρ=>(f ρ).bind fun a=>match a with
 | .val (.int i)=>some (some i)
 | _=>none
theorem m4:RO K R tNoPart mNoPart:=fun HB σ ρ H0 H s e o ho Q q=>by cases ho;exact q _ _ (Ext.refl s)
theorem p7{te:TE}{f:En->Option Sl}(h:RP K R te f):RO K R (qY te) (mPart f):=fun HB σ ρ H0 H s e o ho Q q=>by
 obtain ⟨a,ha,ho⟩:=A0.mp ho
 split at ho
 . cases ho
   exact h HB σ ρ H0 H s e _ ha _ fun v H1 J1 x1 p1=>⟨_,p1.int,q _ _ x1⟩
 . cases ho
def L4{α:Type}(xs:List α)(lo hi:Option Int):List α:=(xs.drop (HT.sIx xs.length 0 lo)).take (HT.sIx xs.length xs.length hi - HT.sIx xs.length 0 lo)
theorem Reps.drop{H:Hp}:∀ {vs:List V} {ds:List PyData} (n:Nat),Reps K H vs ds->Reps K H (vs.drop n) (ds.drop n)
 | _,_,0,h=>h
 | _,_,_+1, .nil=> .nil
 | _,_,n+1, .cons _ t=>Reps.drop n t
theorem Reps.take{H:Hp}:∀ {vs:List V} {ds:List PyData} (n:Nat),Reps K H vs ds->Reps K H (vs.take n) (ds.take n)
 | _,_,0,_=> .nil
 | _,_,_+1, .nil=> .nil
 | _,_,n+1, .cons h t=> .cons h (Reps.take n t)
theorem Reps.cut{H:Hp}{vs:List V}{ds:List PyData}(h:Reps K H vs ds)(lo hi:Option Int):Reps K H (WA vs lo hi) (L4 ds lo hi):=by
 unfold WA L4;rw [h.length];exact Reps.take _ (Reps.drop _ h)
def dSl(a:Sl)(lo hi:Option Int):Option Sl:=match a.dat with
 | .list ds=>some (.own (L4 ds lo hi))
 | .tuple ds=>if HT.sIx ds.length 0 lo=0/\HT.sIx ds.length ds.length hi=ds.length then none else some (.val (.tuple (L4 ds lo hi)))
 | _=>none
def mSl(f:En->Option Sl)(l h:En->Option (Option Int)):En->Option Sl:=fun ρ=>(f ρ).bind fun a=>(l ρ).bind fun lo=>(h ρ).bind fun hi=>dSl a lo hi
theorem yN{te:TE}{tl th:TO}{f:En->Option Sl}{fl fh:En->Option (Option Int)}(h:RP K R te f)(hl:RO K R tl fl)(hh:RO K R th fh):RE K R (tSl (fun x lo hi H Q=>zE K x lo hi H Q\/zN K x lo hi H Q) te tl th) (mSl f fl fh):=fun HB σ ρ H0 H s e z hz Q q=>by
 obtain ⟨a,ha,hz⟩:=Option.bind_eq_some_iff.mp hz;obtain ⟨lo,hlo,hz⟩:=Option.bind_eq_some_iff.mp hz;obtain ⟨hi,hhi,hz⟩:=Option.bind_eq_some_iff.mp hz;refine h HB σ ρ H0 H s e a ha _ fun v H1 J1 x1 p1=> ?_;refine hl HB σ ρ H1 J1 x1.s1 (e.ext (K:=K) x1) lo hlo _ fun H2 J2 x2=> ?_;refine hh HB σ ρ H2 J2 x2.s1 ((e.ext (K:=K) x1).ext (K:=K) x2) hi hhi _ fun H3 J3 x3=> ?_;have x:=(x1.trans x2).trans x3;have p:=p1.ext (x2.trans x3);unfold dSl at hz
 split at hz
 . rename_i ds hd
   cases hz
   obtain ⟨b,vs,rfl,h1,h2⟩:=p.lst x.s1 hd;exact .inl ⟨b,vs,rfl,h1,fun l hl=>q _ _ _ (x.trans (Ext.alloc x.s1 hl _)) ⟨l,_,rfl,x.s.free hl,x.s1.free hl,C9,Reps.cut h2 lo hi⟩⟩
 . rename_i ds hd
   split at hz
   . cases hz
   . rename_i hw
     cases hz
     obtain ⟨b,vs,rfl,h1,h2⟩:=p.tup hd;refine .inr ⟨b,vs,rfl,x.s1.seqT h1,by rw [h2.length];exact hw,fun l hl=>q _ _ _ (x.trans (Ext.allocF x.s1 hl _)) (.tuple (SqT.of C9) (Reps.same (Same.upd (x.s1.free hl) _) (Reps.cut h2 lo hi)))⟩
 . cases hz
end
end Dm
namespace Dm
open PySem PySem.Spec PyProof.Rows L2 Tf
inductive Out where
 | nx (ρ:En) | rt (r:Sl) (ρ:En) | bk (ρ:En) | ct (ρ:En)
section
variable {K:PySem.W.Frag} {R:Rl} [RelOk K R]
def A23(K:PySem.W.Frag)(R:Rl)(HB S0:Hp)(D:Ends):Out->Prop
 | .nx ρ=>∀σ H0 H,Ext S0 HB H0 H->ST R HB H0 H σ ρ->D.nx σ H
 | .bk ρ=>∀σ H0 H,Ext S0 HB H0 H->ST R HB H0 H σ ρ->D.bk σ H
 | .ct ρ=>∀σ H0 H,Ext S0 HB H0 H->ST R HB H0 H σ ρ->D.ct σ H
 | .rt r ρ=>∀v σ H0 H,Ext S0 HB H0 H->ST R HB H0 H σ ρ->SlH K HB H0 H v r->D.rt v H
def RS(K:PySem.W.Frag)(R:Rl)(ts:TS)(g:En->Option Out):Prop:=
 ∀(HB S0:Hp) (σ:L2.St) (ρ:En) (H0 H:Hp),Ext S0 HB H0 H->ST R HB H0 H σ ρ->∀o,g ρ=some o->∀D:Ends,A23 K R HB S0 D o->ts D σ H
def mNext:En->Option Out:=fun ρ=>some (.nx ρ)
def mBrk:En->Option Out:=fun ρ=>some (.bk ρ)
def mCt:En->Option Out:=fun ρ=>some (.ct ρ)
def mRetN:En->Option Out:=fun ρ=>some (.rt (.val .none) ρ)
theorem nA:RS K R tNext mNext:=fun HB S0 σ ρ H0 H x e o ho D d=>by cases ho;exact d σ H0 H x e
theorem p8:RS K R tRetN mRetN:=fun HB S0 σ ρ H0 H x e o ho D d=>by cases ho;exact d .non σ H0 H x e .none
def mSeq(f g:En->Option Out):En->Option Out:=fun ρ=>(f ρ).bind fun o=>match o with
 | .nx ρ'=>g ρ'
 | o=>some o
theorem uS{t u:TS}{f g:En->Option Out}(h:RS K R t f)(k:RS K R u g):RS K R (xF t u) (mSeq f g):=fun HB S0 σ ρ H0 H x e o ho D d=>by
 obtain ⟨o1,h1,ho⟩:=A0.mp ho;refine h HB S0 σ ρ H0 H x e o1 h1 { D with nx:=u D} ?_
 cases o1 with
 | nx ρ'=>exact fun σ' H0' H' x' e'=>k HB S0 σ' ρ' H0' H' x' e' o ho D d
 | rt r _=>cases ho;exact d
 | bk r=>cases ho;exact d
 | ct r=>cases ho;exact d
theorem ER.set{HB H0 H H0' H':Hp}{σ:L2.St}{ρ:En}{i:Nat}{v:V}{r:Sl}(e:ER K HB H0 H σ ρ)(x:Ext H0 H H0' H')(sb:Same HB H)(h:SlH K H H0' H' v r):ER K HB H0' H' (σ.set i (some v)) (ρ.set i (some r)):=by
 have e':=e.ext x;refine ⟨by rw [DX,DX];exact e.len,fun j s hs=> ?_,fun j k a ds es hjk hj hk h1 h2=> ?_⟩
 . by_cases hj:i=j
   . subst hj;rw [CK] at hs ⊢
     cases hq:ρ[i]? with
     | none=>rw [hq] at hs;cases hs
     | some q=>
      rw [hq] at hs
      have hi:i<σ.length:=by rw [e.len];exact (B6.mp hq).1
      rw [A8 hi]
      cases hs
      exact ⟨v,rfl,h.base sb⟩
   . rw [AI hj] at hs ⊢
     exact e'.get j s hs
 . have key : ∀ (j' k' : Nat) (b : Addr) ds' es', i = j' -> i ≠ k' -> (ρ.set i (some r))[j']? = some (some (.own ds')) -> ρ[k']? = some (some (.own es')) -> (σ.set i (some v))[j']? = some (some (.ref b)) -> σ[k']? ≠ some (some (.ref b)) := by
    clear hj hk h1 h2 hjk;intro j' k' b ds' es' hij hik hj hk h1 h2;subst hij;rw [CK] at hj h1
    cases hq:ρ[i]? with
    | none=>rw [hq] at hj;cases hj
    | some q=>
     rw [hq] at hj
     cases hj
     have hi:i<σ.length:=by rw [e.len];exact (B6.mp hq).1
     rw [A8 hi] at h1
     cases h1
     obtain ⟨a',vs,ea,hn,_⟩:=h
     cases ea
     obtain ⟨w,hw,hb⟩:=e.get k' _ hk;rw [h2] at hw
     cases hw
     obtain ⟨b',ws,eb,_,_,hs,_⟩:=hb
     cases eb
     rw [hn] at hs
     cases hs
   by_cases hij:i=j
   . have hik:i≠k:=fun z=>hjk (hij.symm.trans z);rw [AI hik] at hk h2
     exact key j k a ds es hij hik hj hk h1 h2
   . rw [AI hij] at hj h1
     by_cases hik:i=k
     . exact key k j a es ds hik hij hk hj h2 h1
     . rw [AI hik] at hk h2
       exact e.apart j k a ds es hjk hj hk h1 h2
def mAsg(i:Nat)(f:En->Option Sl):En->Option Out:=fun ρ=>(f ρ).map fun r=> .nx (ρ.set i (some r))
theorem uT{te:TE}{f:En->Option Sl}{i:Nat}(hsl:R.slot i)(h:RE K R te f):RS K R (YQ te (QY i)) (mAsg i f):=fun HB S0 σ ρ H0 H x e o ho D d=>by
 obtain ⟨r,hr,rfl⟩:=BH.mp ho;exact h HB σ ρ H0 H x.s1 e r hr _ fun v H1 J1 x1 p1=>d _ H1 J1 (x.chain x1) ⟨RelOk.set e.r hsl x1 x.s p1⟩
theorem oN{te:TE}{f:En->Option Sl}{i:Nat}(hsl:R.slot i)(h:RE K R te f):RS K R (rA i te) (mAsg i f):=fun HB S0 σ ρ H0 H x e o ho D d=>by
 obtain ⟨r,hr,rfl⟩:=BH.mp ho;exact h HB σ ρ H0 H x.s1 e r hr _ fun v H1 J1 x1 p1=>d _ H1 J1 (x.chain x1) ⟨RelOk.set e.r hsl x1 x.s p1⟩
def mRet(f:En->Option Sl):En->Option Out:=fun ρ=>(f ρ).map fun r=> .rt r ρ
theorem sO{te:TE}{f:En->Option Sl}(h:RE K R te f):RS K R (wP te) (mRet f):=fun HB S0 σ ρ H0 H x e o ho D d=>by
 obtain ⟨r,hr,rfl⟩:=BH.mp ho;exact h HB σ ρ H0 H x.s1 e r hr _ fun v H1 J1 x1 p1=>d v σ H1 J1 (x.chain x1) (e.ext (K:=K) x1) (p1.base x.s)
theorem o9(i:Nat)(hsl:R.slot i):RS K R (wP (KL i)) (mRet (mPk i)):=fun HB S0 σ ρ H0 H x e o ho D d=>by
 obtain ⟨r,hr,rfl⟩:=BH.mp ho;obtain ⟨v,h1,h2⟩:=RelOk.get (K:=K) e.r hsl (join_some hr);exact ⟨v,h1,d v σ H0 H x e h2⟩
def mIf(c:En->Option Bool)(f g:En->Option Out):En->Option Out:=fun ρ=>(c ρ).bind fun b=>if b then f ρ else g ρ
theorem y0{c:TT}{t u:TS}{fc:En->Option Bool}{f g:En->Option Out}(hc:RT K R c fc)(h:RS K R t f)(k:RS K R u g):RS K R (zT c t u) (mIf fc f g):=fun HB S0 σ ρ H0 H x e o ho D d=>by
 obtain ⟨b,hb,ho⟩:=A0.mp ho;refine hc HB σ ρ H0 H x.s1 e b hb _ fun H1 J1 x1=> ?_
 cases b with
 | true=>exact p9 (h HB S0 σ ρ H1 J1 (x.chain x1) (e.ext (K:=K) x1) o ho D d)
 | false=>exact m8 (k HB S0 σ ρ H1 J1 (x.chain x1) (e.ext (K:=K) x1) o ho D d)
def mDrop(f:En->Option Sl):En->Option Out:=fun ρ=>(f ρ).map fun _=> .nx ρ
theorem Ext.write{S0 HB H0 H:Hp}{a:Addr}(x:Ext S0 HB H0 H)(hb:HB a=none)(h0:H0 a=none)(o:HO):Ext S0 HB H0 (upd H a o) :=
 ⟨fun b u e=>by rw [BP (BT e hb)];exact x.s b u e,x.s0,fun b u e=>by rw [BP (BT e h0)];exact x.s1 b u e,x.own⟩
theorem ER.write {HB H0 H : Hp} {σ : L2.St} {ρ : En} {i : Nat} {a : Addr} {ds es : List PyData} {ys : List V} (e : ER K HB H0 H σ ρ) (hi : ρ[i]? = some (some (.own ds))) (hs : σ[i]? = some (some (.ref a))) (hb : HB a = none) (h0 : H0 a = none) (hr : Reps K H0 ys es) :
 ER K HB H0 (upd H a (.lst ys)) σ (ρ.set i (some (.own es))):=by
 have own:∀(j:Nat),∀ts,(ρ.set i (some (.own es)))[j]? = some (some (.own ts))->∃ts',ρ[j]? = some (some (.own ts')):=by
  intro j ts h
  by_cases hj:i=j
  . subst hj;exact ⟨_,hi⟩
  . rw [AI hj] at h;exact ⟨_,h⟩
 refine ⟨by rw [DX];exact e.len,fun j s hq=> ?_,fun j k b ts us hjk hj hk h1 h2=> ?_⟩
 . by_cases hj:i=j
   . subst hj;rw [CK,hi] at hq
     cases hq
     exact ⟨.ref a,hs,a,ys,rfl,hb,h0,C9,hr⟩
   . rw [AI hj] at hq
     obtain ⟨v,h1,h2⟩:=e.get j s hq;refine ⟨v,h1,?_⟩
     cases s with
     | val d=>exact h2
     | own ts=>
      obtain ⟨b,vs,rfl,g1,g2,g3,g4⟩:=h2;refine ⟨b,vs,rfl,g1,g2,?_,g4⟩;rw [BP]
      . exact g3
      . rintro rfl
        exact e.apart i j b ds ts hj hi hq hs h1
     | dct ts=>
      obtain ⟨b,t,rfl,g1,g2,g3,g4⟩:=h2;refine ⟨b,t,rfl,g1,g2,?_,g4⟩;rw [BP]
      . exact g3
      . rintro rfl;obtain ⟨v',hs',a',vs',e',_,_,g5,_⟩:=e.get i _ hi;rw [hs] at hs'
        cases hs'
        cases e'
        rw [g3] at g5
        cases g5
 . obtain ⟨ts',hj⟩:=own j ts hj;obtain ⟨us',hk⟩:=own k us hk;exact e.apart j k b ts' us' hjk hj hk h1 h2
def mApp(i:Nat)(f:En->Option Sl):En->Option Out:=fun ρ=>match (ρ[i]?).join with
 | some (.own ds)=>(f ρ).bind fun r=>if ds.length<sizeLine then some (.nx (ρ.set i (some (.own (ds ++ [r.dat]))))) else none
 | _=>none
theorem U6 {HB H0 H : Hp} {σ : L2.St} {ρ : En} {i : Nat} {ds : List PyData} (e : ST R HB H0 H σ ρ) (hsl : R.slot i) (h : (ρ[i]?).join = some (.own ds)) :
 ∃a vs,ρ[i]? = some (some (.own ds))/\σ[i]? = some (some (.ref a))/\HB a=none/\H0 a=none/\H a=some (.lst vs)/\Reps K H0 vs ds:=by
 obtain ⟨v,h1,a,vs,rfl,g1,g2,g3,g4⟩:=RelOk.get (K:=K) e.r hsl (join_some h);exact ⟨a,vs,join_some h,h1,g1,g2,g3,g4⟩
theorem xD{te:TE}{f:En->Option Sl}{i:Nat}(hsl:R.slot i)(h:RE K R te f):RS K R (WR (tBM K "list" rAppend (KL i) (SQ te tNil))) (mApp i f):=fun HB S0 σ ρ H0 H x e o ho D d=>by
 unfold mApp at ho
 split at ho
 . rename_i ds hj;obtain ⟨r,hr,ho⟩:=A0.mp ho
   split at ho
   . rename_i hl
     cases ho
     obtain ⟨a,vs,hi,hs,g1,g2,g3,g4⟩:=U6 (K:=K) e hsl hj;refine ⟨.ref a,hs, .inl ⟨rfl,vs,SqL.of g3⟩,?_⟩;refine h.rv HB σ ρ H0 H x.s1 e r.dat (by unfold mDat;rw [hr];rfl) _ fun v H1 J1 x1 p1=> ?_;have l0:=x1.own a _ g3 True.intro g2;refine ⟨a,vs,v,rfl,rfl,x1.s _ _ g3,by rw [g4.length];exact hl,?_⟩;exact d σ H1 _ ((x.chain x1).write g1 l0 _) ⟨RelOk.write (K:=K) (e.ext (K:=K) x1).r hsl hi hs g1 l0 (x1.s _ _ g3) (Tf.Reps.snoc (Reps.same x1.s0 g4) p1)⟩
   . cases ho
 . cases ho
def mSet(i:Nat)(fj f:En->Option Sl):En->Option Out:=fun ρ=>(f ρ).bind fun r=>match (ρ[i]?).join with
 | some (.own ds)=>(fj ρ).bind fun k=>match k with
  | .val (.int k)=>(ixN ds.length k).map fun j=> .nx (ρ.set i (some (.own (ds.set j r.dat))))
  | _=>none
 | _=>none
theorem Reps.set{H:Hp}{v:V}{d:PyData}(r:Rep K H v d):∀ {vs:List V} {ds:List PyData} (i:Nat),Reps K H vs ds->Reps K H (vs.set i v) (ds.set i d)
 | _,_,_, .nil=> .nil
 | _,_,0, .cons _ t=> .cons r t
 | _,_,i+1, .cons q t=> .cons q (Reps.set r i t)
theorem xK{te tj:TE}{f fj:En->Option Sl}{i:Nat}(hsl:R.slot i)(h:RE K R te f)(hj:RP K R tj fj):RS K R (YQ te (sX (KL i) tj rSetL)) (mSet i fj f):=fun HB S0 σ ρ H0 H x e o ho D d=>by
 obtain ⟨r,hr,ho⟩:=A0.mp ho
 split at ho
 . rename_i ds hown;obtain ⟨k,hk,ho⟩:=A0.mp ho
   split at ho
   . rename_i k;obtain ⟨j,hix,rfl⟩:=Option.map_eq_some_iff.mp ho;refine h.rv HB σ ρ H0 H x.s1 e r.dat (by unfold mDat;rw [hr];rfl) _ fun v H1 J1 x1 p1=> ?_;obtain ⟨a,vs,hi,hs,g1,g2,g3,g4⟩:=U6 (K:=K) (e.ext (K:=K) x1) hsl hown;refine ⟨.ref a,hs,?_⟩;refine hj HB σ ρ H1 J1 x1.s1 (e.ext (K:=K) x1) _ hk _ fun w H2 J2 x2 p2=> ?_;have l0:=x2.own a _ g3 True.intro g2;refine ⟨a,vs,k,j,rfl,p2.int,x2.s _ _ g3,by rw [g4.length];exact hix,?_⟩;exact d σ H2 _ (((x.chain x1).chain x2).write g1 l0 _) ⟨RelOk.write (K:=K) ((e.ext (K:=K) x1).ext (K:=K) x2).r hsl hi hs g1 l0 (x2.s _ _ g3) (Reps.set (Rep.same x2.s0 p1) j (Reps.same x2.s0 g4))⟩
   . cases ho
 . cases ho
def frz1(i:Nat)(ρ:En):En:=match (ρ[i]?).join with
 | some (.own ds)=>ρ.set i (some (.val (.list ds)))
 | _=>ρ
def mFrz(i:Nat)(g:En->Option Out):En->Option Out:=fun ρ=>g (frz1 i ρ)
theorem ER.frz{S0 HB H0 H:Hp}{σ:L2.St}{ρ:En}{i:Nat}{ds:List PyData}(e:ER K HB H0 H σ ρ)(hi:ρ[i]? = some (some (.own ds)))(x:Ext S0 HB H0 H):∃a vs,H a=some (.lst vs)/\Ext S0 HB (upd H0 a (.lst vs)) H/\ER K HB (upd H0 a (.lst vs)) H σ (ρ.set i (some (.val (.list ds)))):=by
 obtain ⟨v,hs,a,vs,rfl,g1,g2,g3,g4⟩:=e.get i _ hi;have s0:Same H0 (upd H0 a (.lst vs)):=Same.upd g2 _
 have x' : Ext S0 HB (upd H0 a (.lst vs)) H := ⟨x.s, x.s0.trans s0, fun b u q => by
  by_cases hb:b=a
  . subst hb;rw [C9] at q;rw [g3];exact q
  . rw [BP hb] at q;exact x.s1 b u q,fun b u q m q0=>by rw [BP (BT q g1)];exact x.own b u q m q0⟩
 refine ⟨a,vs,g3,x',⟨by rw [DX];exact e.len,fun j s hq=> ?_,fun j k b ts us hjk h1 h2 h3 h4=> ?_⟩⟩
 . by_cases hij:i=j
   . subst hij;rw [CK,hi] at hq
     cases hq
     exact ⟨.ref a,hs, .list (SqL.of C9) (Reps.same s0 g4)⟩
   . rw [AI hij] at hq
     obtain ⟨v,h1,h2⟩:=e.get j s hq;refine ⟨v,h1,?_⟩
     cases s with
     | val d=>exact Rep.same s0 h2
     | own ts=>
      obtain ⟨b,ws,rfl,q1,q2,q3,q4⟩:=h2;refine ⟨b,ws,rfl,q1,?_,q3,Reps.same s0 q4⟩;rw [BP]
      . exact q2
      . rintro rfl
        exact e.apart i j b ds ts hij hi hq hs h1
     | dct ts=>
      obtain ⟨b,t,rfl,q1,q2,q3,q4⟩:=h2;refine ⟨b,t,rfl,q1,?_,q3,q4.same s0⟩;rw [BP]
      . exact q2
      . rintro rfl;rw [q3] at g3
        cases g3
 . have hij : i ≠ j := by
    rintro rfl;rw [CK,hi] at h1
    cases h1
   have hik:i≠k:=by
    rintro rfl;rw [CK,hi] at h2
    cases h2
   rw [AI hij] at h1
   rw [AI hik] at h2
   exact e.apart j k b ts us hjk h1 h2 h3 h4
instance relOk_PR:RelOk K (PR K) where
 ext:=fun x e=>ER.ext x e
 get:=fun e _ h=>ER.get e _ _ h
 set:=fun e _ x s h=>ER.set e x s h
 write:=fun e _ h1 h2 h3 h4 _ h5=>ER.write e h1 h2 h3 h4 h5
 frz:=fun e _ h x=>by obtain ⟨a,vs,_,h1,h2⟩:=ER.frz e h x;exact ⟨_,h1,h2⟩
theorem v7{ts:TS}{g:En->Option Out}(i:Nat)(hsl:R.slot i)(h:RS K R ts g):RS K R ts (mFrz i g):=fun HB S0 σ ρ H0 H x e o ho D d=>by
 unfold mFrz frz1 at ho
 split at ho
 . rename_i ds hj;obtain ⟨H0',x',e'⟩:=RelOk.frz (K:=K) e.r hsl (join_some hj) x;exact h HB S0 σ _ H0' H x' ⟨e'⟩ o ho D d
 . exact h HB S0 σ ρ H0 H x e o ho D d
def RG(K:PySem.W.Frag)(R:Rl)(g:TG)(fg:PyData->En->Option En):Prop:=
 ∀(HB:Hp) (σ:L2.St) (ρ ρ':En) (H0 H:Hp) (v:V) (d:PyData),Same H0 H->Same HB H->ST R HB H0 H σ ρ->Rep K H0 v d->fg d ρ=some ρ'->∀Q:L2.St->Hp->Prop,(∀σ',ST R HB H0 H σ' ρ'->Q σ' H)->g v σ H Q
def gVar(i:Nat):PyData->En->Option En:=fun d ρ=>some (ρ.set i (some (.val d)))
theorem ZW(i:Nat)(hsl:R.slot i):RG K R (QY i) (gVar i):=fun HB σ ρ ρ' H0 H v d s sb e r h Q q=>by
 cases h
 exact q _ ⟨RelOk.set (K:=K) e.r hsl (Ext.refl s) sb (show SlH K H H0 H v (.val d) from r)⟩
def gsAll:List (PyData->En->Option En)->List PyData->En->Option En
 | [],[],ρ=>some ρ
 | g::gs,d::ds,ρ=>(g d ρ).bind fun ρ'=>gsAll gs ds ρ'
 | _,_,_=>none
def gTupD(gs:List (PyData->En->Option En)):PyData->En->Option En:=fun d ρ=>match d with
 | .tuple ds=>if ds.length=gs.length then gsAll gs ds ρ else none
 | _=>none
def RGs(K:PySem.W.Frag)(R:Rl)(g:TGs)(gs:List (PyData->En->Option En)):Prop:=
 ∀(HB:Hp) (σ:L2.St) (ρ ρ':En) (H0 H:Hp) (vs:List V) (ds:List PyData),Same H0 H->Same HB H->ST R HB H0 H σ ρ->Reps K H0 vs ds->gsAll gs ds ρ=some ρ'->∀Q:L2.St->Hp->Prop,(∀σ',ST R HB H0 H σ' ρ'->Q σ' H)->g vs σ H Q
theorem ZC:RGs K R gNil []:=fun HB σ ρ ρ' H0 H vs ds s sb e r h Q q=>by
 cases r with
 | nil=>cases h;exact ⟨rfl,q _ e⟩
 | cons _ _=>cases h
theorem WY{g:TG}{u:TGs}{fg:PyData->En->Option En}{gs:List (PyData->En->Option En)}(h1:RG K R g fg)(h2:RGs K R u gs):RGs K R (kG g u) (fg::gs):=fun HB σ ρ ρ' H0 H vs ds s sb e r h Q q=>by
 cases r with
 | nil=>cases h
 | cons r1 r2=>
  obtain ⟨ρ1,e1,h⟩:=A0.mp (show (fg _ ρ).bind _=some ρ' from h);exact ⟨_,_,rfl,h1 HB σ ρ ρ1 H0 H _ _ s sb e r1 e1 _ fun σ' e'=>h2 HB σ' ρ1 ρ' H0 H _ _ s sb e' r2 h Q q⟩
theorem iA{g:TGs}{gs:List (PyData->En->Option En)}{n:Nat}(hn:n=gs.length)(h:RGs K R g gs):RG K R (tQ K n g) (gTupD gs):=fun HB σ ρ ρ' H0 H v d s sb e r hd Q q=>by
 unfold gTupD at hd
 split at hd
 . split at hd
   . rename_i ds hl
     cases r with
     | tuple r1 r2=>exact ⟨_,_,rfl,s.seqT r1,by rw [r2.length,hl,hn],h HB σ ρ ρ' H0 H _ _ s sb e r2 hd Q q⟩
   . cases hd
 . cases hd
def ItR(K:PySem.W.Frag)(H0:Hp)(J:It)(ds:List PyData):Prop:=∀H0' H',Same H0 H0'->Same H0' H'->∀i:Nat,(∀d,ds[i]? = some d->J.go i H'/\∀x H2,J.yld i H' x H2->∃H02,Ext H0' H' H02 H2/\Rep K H02 x d)/\(ds.length<=i->J.stop i H')
def RI(K:PySem.W.Frag)(R:Rl)(wi:TI)(f:En->Option (List PyData)):Prop:=
 ∀(HB:Hp) (σ:L2.St) (ρ:En) (H0 H:Hp),Same H0 H->ST R HB H0 H σ ρ->∀ds,f ρ=some ds->∀R:It->Hp->Prop,(∀J H0' H',Ext H0 H H0' H'->ItR K H0' J ds->R J H')->wi σ H R
def mItems(f:En->Option Sl):En->Option (List PyData):=fun ρ=>(f ρ).bind fun a=>match a.dat with
 | .list ds=>some ds
 | _=>none
def mItemsT(f:En->Option Sl):En->Option (List PyData):=fun ρ=>(f ρ).bind fun a=>match a.dat with
 | .tuple ds=>some ds
 | _=>none
theorem aF{H0:Hp}{a:Addr}{vs:List V}{ds:List PyData}(h:SqL K H0 a vs)(r:Reps K H0 vs ds):ItR K H0 (Itl K a) ds:=fun H0' H' s s' i=>by
 have h':=s'.seq (s.seq h);refine ⟨fun d hd=> ?_,fun hi=>⟨vs,h',by rw [r.length];exact hi⟩⟩;obtain ⟨v,e1,e2⟩:=Tf.Reps.get r hd;refine ⟨⟨vs,v,h',e1⟩,fun x H2 y=> ?_⟩;obtain ⟨rfl,y⟩:=y;have:=y vs h';rw [e1] at this
 cases this
 exact ⟨H0',Ext.refl s',Rep.same s e2⟩
theorem wE{H0:Hp}{a:Addr}{vs:List V}{ds:List PyData}(h:SqT K H0 a vs)(r:Reps K H0 vs ds):ItR K H0 (Itt K a) ds:=fun H0' H' s s' i=>by
 have h':=s'.seqT (s.seqT h);refine ⟨fun d hd=> ?_,fun hi=>⟨vs,h',by rw [r.length];exact hi⟩⟩;obtain ⟨v,e1,e2⟩:=Tf.Reps.get r hd;refine ⟨⟨vs,v,h',e1⟩,fun x H2 y=> ?_⟩;obtain ⟨rfl,y⟩:=y;have:=y vs h';rw [e1] at this
 cases this
 exact ⟨H0',Ext.refl s',Rep.same s e2⟩
theorem oR{te:TE}{f:En->Option Sl}(h:RE K R te f):RI K R (jJ K te) (mItems f):=fun HB σ ρ H0 H s e ds hd R q=>by
 obtain ⟨a,ha,hd⟩:=A0.mp hd
 split at hd
 . rename_i es he
   cases hd
   refine h.rv HB σ ρ H0 H s e a.dat (by unfold mDat;rw [ha];rfl) _ fun v H1 J1 x1 p1=> ?_;rw [he] at p1
   cases p1 with
   | list h1 h2=>exact ⟨_,rfl,⟨_,x1.s1.seq h1⟩,q _ _ _ x1 (aF h1 h2)⟩
 . cases hd
def G8(lo:Int)(n:Nat):List PyData:=(List.range n).map fun i=> .int (lo+(i:Nat))
theorem NB{lo:Int}{n i:Nat}:(G8 lo n)[i]? = if i<n then some (.int (lo+(i:Nat))) else none:=by
 unfold G8;rw [List.getElem?_map]
 by_cases h:i<n
 . rw [BO h,AN h];rfl
 . rw [AR h,BZ (by simpa using h)];rfl
theorem XH{H0:Hp}{lo:Int}{n:Nat}:ItR K H0 (Itr lo n) (G8 lo n):=fun H0' H' s s' i=>by
 refine ⟨fun d hd=> ?_,fun hi=>show n<=i by simpa [G8] using hi⟩;rw [NB] at hd
 split at hd
 . rename_i hi
   cases hd
   exact ⟨hi,fun x H2 y=>by obtain ⟨rfl,rfl⟩:=y;exact ⟨H0',Ext.refl s', .int _⟩⟩
 . cases hd
def inB(i:Int):Prop:= -(2 ^ 62)<=i/\i<2 ^ 62
noncomputable instance (i:Int):Decidable (inB i):=Classical.propDecidable _
noncomputable def J0(f:En->Option (List Sl)):En->Option (List PyData):=fun ρ=>(f ρ).bind fun a=>match a with
 | [.val (.int j)]=>if inB j then some (G8 0 j.toNat) else none
 | _=>none
theorem dJ{ta:TA}{f:En->Option (List Sl)}(h:RQ K R ta f):RI K R (rO ta) (J0 f):=fun HB σ ρ H0 H s e ds hd R q=>by
 obtain ⟨a,ha,hd⟩:=A0.mp hd
 split at hd
 . split at hd
   . rename_i j hb
     cases hd
     refine h HB σ ρ H0 H s e _ ha _ fun vs H1 J1 x1 p1=> ?_;obtain ⟨v,rfl,pa⟩:=IK p1;exact ⟨j,by rw [pa.int],hb.1,hb.2,q _ _ _ x1 XH⟩
   . cases hd
 . cases hd
noncomputable def NT(f:En->Option (List Sl)):En->Option (List PyData):=fun ρ=>(f ρ).bind fun a=>match a with
 | [.val (.int i), .val (.int j)]=>if inB i/\inB j then some (G8 i (j - i).toNat) else none
 | _=>none
theorem d7{ta:TA}{f:En->Option (List Sl)}(h:RQ K R ta f):RI K R (qZ ta) (NT f):=fun HB σ ρ H0 H s e ds hd R q=>by
 obtain ⟨a,ha,hd⟩:=A0.mp hd
 split at hd
 . split at hd
   . rename_i i j hb
     cases hd
     refine h HB σ ρ H0 H s e _ ha _ fun vs H1 J1 x1 p1=> ?_;obtain ⟨v,w,rfl,pa,pb⟩:=nS p1;exact ⟨i,j,by rw [pa.int,pb.int],⟨hb.1.1,hb.1.2,hb.2.1,hb.2.2⟩,q _ _ _ x1 XH⟩
   . cases hd
 . cases hd
def N0(hi:Int)(n:Nat):List PyData:=(List.range n).map fun i=> .int (hi - (i:Nat))
theorem lV{H0:Hp}{hi:Int}{n:Nat}:ItR K H0 (Itd hi n) (N0 hi n):=fun H0' H' s s' i=>by
 refine ⟨fun d hd=> ?_,fun h=>show n<=i by simpa [N0] using h⟩;unfold N0 at hd
 rw [AS] at hd
 by_cases h:i<n
 . rw [BO h] at hd
   cases hd
   exact ⟨h,fun x H2 y=>by obtain ⟨rfl,rfl⟩:=y;exact ⟨H0',Ext.refl s', .int _⟩⟩
 . rw [BZ (by simpa using h)] at hd;cases hd
noncomputable def aA(f:En->Option (List Sl)):En->Option (List PyData):=fun ρ=>(f ρ).bind fun a=>match a with
 | [.val (.int i), .val (.int j), .val (.int (-1))]=>if inB i/\inB j then some (N0 i (i - j).toNat) else none
 | _=>none
theorem mE{H0 H:Hp}{vs:List V}{a b c:Sl}(h:Paired (SlP K H0 H) vs [a,b,c]):∃v w u,vs = [v,w,u]/\SlP K H0 H v a/\SlP K H0 H w b/\SlP K H0 H u c:=by
 cases h with | cons h t=>cases t with | cons h2 t=>cases t with | cons h3 t=>cases t;exact ⟨_,_,_,rfl,h,h2,h3⟩
theorem dW{ta:TA}{f:En->Option (List Sl)}(h:RQ K R ta f):RI K R (rX ta) (aA f):=fun HB σ ρ H0 H s e ds hd R q=>by
 obtain ⟨a,ha,hd⟩:=A0.mp hd
 split at hd
 . split at hd
   . rename_i i j hb
     cases hd
     refine h HB σ ρ H0 H s e _ ha _ fun vs H1 J1 x1 p1=> ?_;obtain ⟨v,w,u,rfl,pa,pb,pc⟩:=mE p1;exact ⟨i,j,by rw [pa.int,pb.int,pc.int],⟨hb.1.1,hb.1.2,hb.2.1,hb.2.2⟩,q _ _ _ x1 lV⟩
   . cases hd
 . cases hd
def IX(xs ys:List PyData):List PyData:=List.zipWith (fun x y=> .tuple [x,y]) xs ys
theorem gP{H0:Hp}{a b:Addr}{vs ws:List V}{ds es:List PyData}(h:SqL K H0 a vs)(r:Reps K H0 vs ds)(h2:SqL K H0 b ws)(r2:Reps K H0 ws es):ItR K H0 (Itz K a b) (IX ds es):=fun H0' H' s s' i=>by
 have h':=s'.seq (s.seq h);have h2':=s'.seq (s.seq h2);refine ⟨fun d hd=> ?_,fun hi=>⟨vs,ws,h',h2',?_⟩⟩
 . unfold IX at hd
   rw [xP] at hd
   cases e1:ds[i]? with
   | none=>rw [e1] at hd;cases hd
   | some x=>
    cases e2:es[i]? with
    | none=>rw [e1,e2] at hd;cases hd
    | some y=>
     rw [e1,e2] at hd
     cases hd
     obtain ⟨v,q1,q2⟩:=Tf.Reps.get r e1;obtain ⟨w,q3,q4⟩:=Tf.Reps.get r2 e2;refine ⟨⟨vs,ws,v,w,h',h2',q1,q3⟩,fun z H2 yl=> ?_⟩;obtain ⟨p,x',y',hp,rfl,rfl,hx,hy⟩:=yl;have:=hx vs h';rw [q1] at this
     cases this
     have:=hy ws h2';rw [q3] at this
     cases this
     refine ⟨_,Ext.allocF s' hp _, .tuple (SqT.of C9) ?_⟩;have s2:=s.trans (Same.upd (s'.free hp) (.tup [v,w]));exact .cons (Rep.same s2 q2) (.cons (Rep.same s2 q4) .nil)
 . rw [r.length,r2.length];unfold IX at hi
   rw [zZ] at hi
   omega
def N5(f:En->Option (List PyData)):En->Option (List PyData):=fun ρ=>(f ρ).bind fun a=>match a with
 | [.list xs, .list ys]=>some (IX xs ys)
 | _=>none
theorem uX{ta:TA}{f:En->Option (List PyData)}(h:RA K R ta f):RI K R (zR K ta) (N5 f):=fun HB σ ρ H0 H s e ds hd R q=>by
 obtain ⟨a,ha,hd⟩:=A0.mp hd
 split at hd
 . cases hd
   refine h HB σ ρ H0 H s e _ ha _ fun vs H1 J1 x1 p1=> ?_
   cases p1 with | cons p1 t=>cases t with | cons p2 t=>
    cases t
    cases p1 with | list a1 a2=>cases p2 with | list b1 b2=>
     exact ⟨_,_,rfl,⟨_,x1.s1.seq a1⟩,⟨_,x1.s1.seq b1⟩,q _ _ _ x1 (gP a1 a2 b1 b2)⟩
 . cases hd
def JZ(fg:PyData->En->Option En)(gb:En->Option Out):List PyData->En->Option Out
 | [],ρ=>some (.nx ρ)
 | d::ds,ρ=>(fg d ρ).bind fun ρ1=>(gb ρ1).bind fun o=>match o with
  | .nx ρ2=>JZ fg gb ds ρ2
  | .ct ρ2=>JZ fg gb ds ρ2
  | .bk ρ2=>some (.nx ρ2)
  | .rt r ρ2=>some (.rt r ρ2)
def GB(fi:En->Option (List PyData))(fg:PyData->En->Option En)(gb:En->Option Out):En->Option Out:=fun ρ=>(fi ρ).bind fun ds=>JZ fg gb ds ρ
theorem LQ {fg : PyData -> En -> Option En} {gb : En -> Option Out} {ds : List PyData} {i : Nat} {d : PyData} {ρ : En} (h : ds[i]? = some d) : JZ fg gb (ds.drop i) ρ = (fg d ρ).bind fun ρ1 => (gb ρ1).bind fun o => match o with
 | .nx ρ2=>JZ fg gb (ds.drop (i+1)) ρ2
 | .ct ρ2=>JZ fg gb (ds.drop (i+1)) ρ2
 | .bk ρ2=>some (.nx ρ2)
 | .rt r ρ2=>some (.rt r ρ2):=by
 obtain ⟨hi,e⟩:=B6.mp h;rw [EZ hi,e];rfl
theorem wO{wi:TI}{g:TG}{tb:TS}{fi:En->Option (List PyData)}{fg:PyData->En->Option En}{gb:En->Option Out}(hi:RI K R wi fi)(hg:RG K R g fg)(hb:RS K R tb gb):RS K R (wM wi g tb) (GB fi fg gb):=fun HB S0 σ ρ H0 H x e o ho D d=>by
 obtain ⟨ds,hds,ho⟩:=A0.mp ho;refine hi HB σ ρ H0 H x.s1 e ds hds _ fun J H1 J1 x1 it=> ?_;have x':=x.chain x1;refine ⟨fun i m σ H=>m=ds.length - i/\((∃ρ H0',i<=ds.length/\Ext H1 HB H0' H/\ST R HB H0' H σ ρ/\JZ fg gb (ds.drop i) ρ=some o)),⟨_,rfl,ρ,H1,DZ _,x'.rebase,e.ext (K:=K) x1,ho⟩,?_⟩;rintro i m σ1 H2 ⟨rfl,ρ1,H0',hile,xx,e1,hf⟩;obtain ⟨ig,is⟩:=it H0' H2 xx.s0 xx.s1 i
 by_cases hlt:i<ds.length
 . right;obtain ⟨go,yl⟩:=ig ds[i] (by simp [hlt]);rw [LQ (d:=ds[i]) (by simp [hlt])] at hf
   obtain ⟨ρ2,hr2,hf⟩:=A0.mp hf;obtain ⟨o2,ho2,hf⟩:=A0.mp hf;refine ⟨go,fun σ' H'=>∃ρ H0',Ext H1 HB H0' H'/\ST R HB H0' H' σ' ρ/\JZ fg gb (ds.drop (i+1)) ρ=some o,fun σ' H' ⟨ρ',H0'',a1,a2,a3⟩=>⟨ds.length - (i+1),by omega,rfl,ρ',H0'',hlt,a1,a2,a3⟩,fun v H3 y=> ?_⟩;obtain ⟨H03,x3,r3⟩:=yl v H3 y;have xx3:=xx.chain x3;refine hg HB σ1 ρ1 ρ2 H03 H3 v _ xx3.s1 xx3.s (e1.ext (K:=K) x3) r3 hr2 _ fun σ2 e2=> ?_;refine hb HB H1 σ2 ρ2 H03 H3 xx3 e2 o2 ho2 _ ?_
   cases o2 with
   | nx ρ3=>exact fun σ' H0'' H' a b=>⟨ρ3,H0'',a,b,hf⟩
   | ct ρ3=>exact fun σ' H0'' H' a b=>⟨ρ3,H0'',a,b,hf⟩
   | bk ρ3=>cases hf;exact fun σ' H0'' H' a b=>d σ' H0'' H' (x'.unbase a) b
   | rt r ρ3=>cases hf;exact fun v σ' H0'' H' a b c=>d v σ' H0'' H' (x'.unbase a) b c
 . left;refine ⟨is (by omega),?_⟩;rw [EB (by omega)] at hf
   cases hf
   exact d σ1 H0' H2 (x'.unbase xx) e1
def FH(c:En->Option Bool)(b:En->Option Out):Nat->En->Option Out
 | 0,_=>none
 | n + 1, ρ => (c ρ).bind fun k => if k then (b ρ).bind fun o => match o with
  | .nx ρ2=>FH c b n ρ2
  | .ct ρ2=>FH c b n ρ2
  | .bk ρ2=>some (.nx ρ2)
  | .rt r ρ2=>some (.rt r ρ2)
  else some (.nx ρ)
open Classical in
noncomputable def J8(c:En->Option Bool)(b:En->Option Out):En->Option Out:=fun ρ=>if h:∃o n,FH c b n ρ=some o then some h.choose else none
theorem JF{c:En->Option Bool}{b:En->Option Out}:∀ {n:Nat} {ρ:En} {o:Out},FH c b n ρ=some o->∀m,n<=m->FH c b m ρ=some o
 | 0,_,_,h,_,_=>by cases h
 | n+1,ρ,o,h,m,hm=>by
  obtain ⟨m,rfl⟩:∃k,m=k+1:=⟨m - 1,by omega⟩;unfold FH at h ⊢
  obtain ⟨k,hk,h⟩:=A0.mp h;rw [hk]
  cases k with
  | false=>exact h
  | true=>
   show Option.bind _ _=_;simp only [HS] at h
   obtain ⟨o2,h2,h⟩:=A0.mp h;rw [h2]
   cases o2 with
   | nx ρ2=>exact JF (n:=n) h m (by omega)
   | ct ρ2=>exact JF (n:=n) h m (by omega)
   | bk ρ2=>exact h
   | rt r _=>exact h
theorem T4{c:En->Option Bool}{b:En->Option Out}{ρ:En}{o:Out}{n:Nat}(h:FH c b n ρ=some o):J8 c b ρ=some o:=by
 have hx:∃o n,FH c b n ρ=some o:=⟨o,n,h⟩;unfold J8;rw [dif_pos hx];obtain ⟨m,hm⟩:=hx.choose_spec;have h1:=JF h (max n m) (Nat.le_max_left _ _);have h2:=JF hm (max n m) (Nat.le_max_right _ _);rw [<-h2,h1]
theorem VY{c:En->Option Bool}{b:En->Option Out}{ρ:En}{o:Out}(h:J8 c b ρ=some o):∃n,FH c b n ρ=some o:=by
 unfold J8 at h
 split at h
 . rename_i hx;obtain ⟨m,hm⟩:=hx.choose_spec
   cases h
   exact ⟨m,hm⟩
 . cases h
theorem jT{c:TT}{tb:TS}{fc:En->Option Bool}{gb:En->Option Out}(hc:RT K R c fc)(hb:RS K R tb gb):RS K R (jP c tb) (J8 fc gb):=fun HB S0 σ ρ H0 H x e o ho D d=>by
 obtain ⟨n,hn⟩:=VY ho;refine ⟨fun m σ H=>∃ρ H0,Ext S0 HB H0 H/\ST R HB H0 H σ ρ/\FH fc gb m ρ=some o,⟨n,ρ,H0,x,e,hn⟩,?_⟩;rintro m σ1 H1 ⟨ρ1,H01,x1,e1,hw⟩
 cases m with
 | zero=>cases hw
 | succ m=>
  unfold FH at hw
  obtain ⟨k,hk,hw⟩:=A0.mp hw;refine hc HB σ1 ρ1 H01 H1 x1.s1 e1 k hk _ fun H2 J2 x2=> ?_;have x12:=x1.chain x2
  cases k with
  | false=>cases hw;exact m8 (d σ1 H2 J2 x12 (e1.ext (K:=K) x2))
  | true=>
   simp only [HS] at hw
   obtain ⟨o2,h2,hw⟩:=A0.mp hw;refine p9 ⟨fun σ' H'=>∃ρ H0,Ext S0 HB H0 H'/\ST R HB H0 H' σ' ρ/\FH fc gb m ρ=some o,fun σ' H' h=>⟨m,HR m,h⟩,?_⟩;refine hb HB S0 σ1 ρ1 H2 J2 x12 (e1.ext (K:=K) x2) o2 h2 _ ?_
   cases o2 with
   | nx ρ3=>exact fun σ' H0'' H' a b=>⟨ρ3,H0'',a,b,hw⟩
   | ct ρ3=>exact fun σ' H0'' H' a b=>⟨ρ3,H0'',a,b,hw⟩
   | bk ρ3=>cases hw;exact fun σ' H0'' H' a b=>d σ' H0'' H' a b
   | rt r ρ3=>cases hw;exact fun v σ' H0'' H' a b c=>d v σ' H0'' H' a b c
def mAsgT(g:PyData->En->Option En)(f:En->Option Sl):En->Option Out:=fun ρ=>(f ρ).bind fun r=>(g r.dat ρ).map .nx
def mPar(i j:Nat)(f:En->Option (List PyData)):En->Option Out:=fun ρ=>(f ρ).bind fun ds=>match ds with
 | [a,b]=>some (.nx ((ρ.set i (some (.val a))).set j (some (.val b))))
 | _=>none
theorem tE{i j:Nat}(hsi:R.slot i)(hsj:R.slot j){ta:TA}{f:En->Option (List PyData)}(h:RA K R ta f):RS K R (y8 i j ta) (mPar i j f):=fun HB S0 σ ρ H0 H x e o ho D d=>by
 obtain ⟨ds,hd,ho⟩:=A0.mp ho
 split at ho
 . cases ho
   refine h HB σ ρ H0 H x.s1 e _ hd _ fun vs H1 J1 x1 p1=> ?_
   cases p1 with | cons p1 t=>cases t with | cons p2 t=>
    cases t
    have x':=x.chain x1;have e1:=RelOk.set (K:=K) (e.ext (K:=K) x1).r hsi (Ext.refl x'.s1) x'.s (show SlH K J1 H1 J1 _ (.val _) from p1);have e2:=RelOk.set (K:=K) e1 hsj (Ext.refl x'.s1) x'.s (show SlH K J1 H1 J1 _ (.val _) from p2);exact ⟨_,_,rfl,d _ H1 J1 x' ⟨e2⟩⟩
 . cases ho
end
end Dm
namespace Tf
open PySem L2
theorem WS(x y:Int):Int.gcd y (x.fmod y)=Int.gcd x y:=by
 have e:x.fmod y=x - y*x.fdiv y:=sI x y;rw [e,Int.gcd_comm x y];simp
theorem aB{x y:Int}(h:y≠0):(x.fmod y).natAbs<y.natAbs:=by
 rcases (by omega:0<y\/y<0) with p | p
 . have h1:=EC x p;have h2:=IF x p;omega
 . have e : x.fmod y = -((-x).fmod (-y)) := by
    rw [sI,sI,Int.neg_fdiv_neg];simp [FZ];omega
   have h1:=EC (-x) (show 0 < -y by omega);have h2:=IF (-x) (show 0 < -y by omega);omega
def sg(a b:Int):Int:=if b<0 then -((Int.gcd a b:Nat):Int) else ((Int.gcd a b:Nat):Int)
def fr(a b:Int):Int×Int:=(a.fdiv (sg a b),b.fdiv (sg a b))
theorem SX{a b:Int}(h:b≠0):sg a b≠0:=by
 have:Int.gcd a b≠0:=by
  intro e;exact h (Int.gcd_eq_zero_iff.mp e).2
 unfold sg
 split <;> omega
theorem j9(a b:Int):sg a b ∣ a/\sg a b ∣ b:=by
 have h1:=Int.gcd_dvd_left a b;have h2:=Int.gcd_dvd_right a b;unfold sg
 split
 . exact ⟨Int.neg_dvd.mpr h1,Int.neg_dvd.mpr h2⟩
 . exact ⟨h1,h2⟩
theorem W2{a d:Int}(hd:d≠0)(h:d ∣ a):a.fdiv d*d=a:=Int.fdiv_mul_cancel h
theorem UG(a b:Int)(h:b≠0):(fr a b).1*sg a b=a/\(fr a b).2*sg a b=b:=
 ⟨W2 (SX h) (j9 a b).1,W2 (SX h) (j9 a b).2⟩
theorem FV{a b:Int}(h:b≠0):0<(fr a b).2:=by
 have e:=(UG a b h).2
 have s:(b<0/\sg a b<0)\/(0<b/\0<sg a b):=by
  have:=SX (a:=a) h;unfold sg at *
  split at * <;> omega
 rcases s with ⟨s1,s2⟩ | ⟨s1,s2⟩
 . rcases (by omega:0<(fr a b).2\/(fr a b).2<=0) with p | p
   . exact p
   . have:=Int.mul_nonneg_of_nonpos_of_nonpos p (HU s2);omega
 . rcases (by omega:0<(fr a b).2\/(fr a b).2<=0) with p | p
   . exact p
   . have:=Int.mul_nonpos_of_nonpos_of_nonneg p (HU s2);omega
theorem Y3(a b:Int):(sg a b).natAbs=Int.gcd a b:=by
 unfold sg
 split <;> omega
theorem V8{a b:Int}(h:b≠0):Int.gcd (fr a b).1 (fr a b).2=1:=by
 have e:=UG a b h;have g:Int.gcd ((fr a b).1*sg a b) ((fr a b).2*sg a b)=Int.gcd (fr a b).1 (fr a b).2*(sg a b).natAbs:=Int.gcd_mul_right _ _ _;rw [e.1,e.2,Y3] at g
 have hp:0<Int.gcd a b:=by
  have:=SX (a:=a) h;have:=Y3 a b;omega
 have:Int.gcd (fr a b).1 (fr a b).2*Int.gcd a b=1*Int.gcd a b:=by omega
 exact Nat.eq_of_mul_eq_mul_right hp this
theorem FS{a b:Int}(h:b≠0):(fr a b).1*b=a*(fr a b).2:=by
 have e:=UG a b h
 calc (fr a b).1*b=(fr a b).1*((fr a b).2*sg a b):=by rw [e.2]
  _=((fr a b).1*sg a b)*(fr a b).2:=by rw [C4 (fr a b).2,CD]
  _=a*(fr a b).2:=by rw [e.1]
theorem zF{n:Nat}{a b:Int}(ha:Bt n a)(hb:Bt n b):Bt n (fr a b).1/\Bt n (fr a b).2:=⟨ha.fdiv,hb.fdiv⟩
theorem rL{n:Nat}{a b:Int}(h:b≠0)(hb:Bt n b):Bt n (sg a b):=by
 refine hb.of_le ?_;rw [Y3];have h2:=CP.mpr (M9 a b);exact MJ (by omega) (by simpa using h2)
def ZN(K:PySem.W.Frag):Sp:=fun vs H Q _=>∃(a:Addr) (ns:List Int),vs = [.ref a]/\SqL K H a (ns.map V.int)/\ns.length<=63/\∀H',Q (.bl true) H'
end Tf
namespace Dm
open PySem PySem.Spec PyProof.Rows L2 Tf
section
variable {K:PySem.W.Frag}
def D3(ix:List (Option Nat))(ρ:En):En:=ix.map fun o=>match o with | some j=>(ρ[j]?).join | none=>none
theorem V1:∀ {ix:List (Option Nat)},(ix.filterMap id).Nodup->∀ {i k j:Nat},ix[i]? = some (some j)->ix[k]? = some (some j)->i=k
 | [],_,i,k,j,h,_=>by simp at h
 | o::r,hn,i,k,j,h1,h2=>by
  have hr:(r.filterMap id).Nodup:=by
   cases o with
   | none=>simpa using hn
   | some a=>have hn:(a::r.filterMap id).Nodup:=hn;exact (ID.mp hn).2
  have out:∀ {k:Nat},o=some j->r[k]? = some (some j)->False:=by
   intro k ho hk;subst ho;have hn:(j::r.filterMap id).Nodup:=hn;exact (ID.mp hn).1 (KN.mpr ⟨some j,AJ hk,rfl⟩)
  cases i with
  | zero=>
   cases k with
   | zero=>rfl
   | succ k=>simp at h1 h2;exact (out h1 h2).elim
  | succ i=>
   cases k with
   | zero=>simp at h1 h2;exact (out h2 h1).elim
   | succ k=>simp at h1 h2;rw [V1 hr h1 h2]
theorem GC{ix:List (Option Nat)}{ρ:En}{i:Nat}{s:Sl}(h:(D3 ix ρ)[i]? = some (some s)):∃j,ix[i]? = some (some j)/\ρ[j]? = some (some s):=by
 unfold D3 at h
 rw [AS] at h
 cases e:ix[i]? with
 | none=>rw [e] at h;cases h
 | some o=>
  rw [e] at h
  cases o with
  | none=>cases h
  | some j=>exact ⟨j,rfl,join_some (AY h)⟩
theorem IY{ix:List (Option Nat)}{σ:L2.St}{i j:Nat}(h:ix[i]? = some (some j)):(F8 ix σ)[i]? = some (σ[j]?).join:=by
 unfold F8;rw [List.getElem?_map,h];rfl
theorem ER.sub{HB H0 H:Hp}{σ:L2.St}{ρ:En}{ix:List (Option Nat)}(hx:(ix.filterMap id).Nodup)(e:ER K HB H0 H σ ρ):ER K (fun _=>none) H0 H (F8 ix σ) (D3 ix ρ):=by
 refine ⟨by unfold F8 D3;rw [List.length_map,List.length_map],fun i s h=> ?_,fun i k a ds es hik h1 h2 h3 h4=> ?_⟩
 . obtain ⟨j,h1,h2⟩:=GC h;obtain ⟨v,h3,h4⟩:=e.get j s h2;refine ⟨v,by rw [IY h1,h3];rfl,?_⟩
   cases s with
   | val d=>exact h4
   | own ds=>
    obtain ⟨a,vs,q1,_,q2⟩:=h4
    exact ⟨a,vs,q1,rfl,q2⟩
   | dct ds=>
    obtain ⟨a,vs,q1,_,q2⟩:=h4;exact ⟨a,vs,q1,rfl,q2⟩
 . obtain ⟨j,g1,g2⟩:=GC h1;obtain ⟨l,g3,g4⟩:=GC h2
   have hjl:j≠l:=by
    rintro rfl;exact hik (V1 hx g1 g3)
   rw [IY g1] at h3
   rw [IY g3] at h4
   exact e.apart j l a ds es hjl g2 g4 (join_some (AY h3)) (join_some (AY h4))
def L5(f:PyData->Option (Option PyData)):List PyData->Option (List PyData)
 | []=>some []
 | d::ds=>(f d).bind fun r=>(L5 f ds).map fun IV=>match r with
  | some x=>x::IV
  | none=>IV
def elM(fg:PyData->En->Option En)(ft:En->Option Bool)(fe:En->Option Sl)(ρ0:En):PyData->Option (Option PyData):=fun d=>(fg d ρ0).bind fun ρ'=>(ft ρ').bind fun b=>if b then (fe ρ').map (fun r=>some r.dat) else some none
def mLC(sb:En->En)(fi:En->Option (List PyData))(fg:PyData->En->Option En)(ft:En->Option Bool)(fe:En->Option Sl):En->Option Sl:=fun ρ=>(fi ρ).bind fun ds=>
 if ds.length<sizeLine then (L5 (elM fg ft fe (sb ρ)) ds).map .own else none
def mYes:En->Option Bool:=fun _=>some true
theorem wH{R:Rl}:RT K R tNoTest mYes:=fun HB σ ρ H0 H s e b hb Q q=>by cases hb;exact q _ _ (Ext.refl s)
theorem sB {R R' : Rl} [RelOk K R] [RelOk K R'] {sb : En -> En} {ix : List (Option Nat)} {wi : TI} {g : CB -> TG} {tt : CB -> TT} {te : CB -> TE} {fi : En -> Option (List PyData)} {fg : PyData -> En -> Option En} {ft : En -> Option Bool} {fe : En -> Option Sl}
 (hx:∀(HB:Hp) (σ:L2.St) (ρ:En) (H0 H:Hp),R.r HB H0 H σ ρ->R'.r (fun _=>none) H0 H (F8 ix σ) (sb ρ))
 (hi:RI K R wi fi) (hg:∀b,RG K R' (g b) fg) (ht:∀b,RT K R' (tt b) ft) (he:∀b,RE K R' (te b) fe):RE K R (tLC ix wi g tt te) (mLC sb fi fg ft fe):=fun HB σ ρ H0 H s e z hz Q q=>by
 obtain ⟨ds,hds,hz⟩:=A0.mp hz
 split at hz
 . rename_i hlen;obtain ⟨all,hall,rfl⟩:=BH.mp hz;refine hi HB σ ρ H0 H s e ds hds _ fun J H1 J1 x1 it b=> ?_;have e1:ST R' (fun _=>none) H1 J1 (F8 ix σ) (sb ρ):=⟨hx HB σ ρ H1 J1 (e.ext (K:=K) x1).r⟩;refine ⟨fun i m ys H=>m=ds.length - i/\i<=ds.length/\∃H0' es IV,Ext H1 J1 H0' H/\Reps K H0' ys es/\es.length<=i/\L5 (elM fg ft fe (sb ρ)) (ds.drop i)=some IV/\es++IV=all,⟨_,rfl,DZ _,H1,[],all,Ext.refl x1.s1, .nil,AA _,hall,rfl⟩,?_⟩;rintro i m ys H2 ⟨rfl,hile,H0',es,IV,xx,hr,hel,hc,hsum⟩;obtain ⟨ig,is⟩:=it H0' H2 xx.s0 xx.s1 i;refine ⟨by rw [hr.length];omega,?_⟩
   by_cases hlt:i<ds.length
   . right;obtain ⟨go,yl⟩:=ig ds[i] (by simp [hlt]);rw [EZ hlt] at hc
     obtain ⟨r,hr1,hc⟩:=A0.mp (show (elM fg ft fe (sb ρ) ds[i]).bind _=some IV from hc);obtain ⟨rest',hr2,hc⟩:=BH.mp hc;refine ⟨go,fun ys' H'=>∃H0' es IV,Ext H1 J1 H0' H'/\Reps K H0' ys' es/\es.length<=i+1/\L5 (elM fg ft fe (sb ρ)) (ds.drop (i+1))=some IV/\es++IV=all,fun ys' H' h=>⟨ds.length - (i+1),by omega,rfl,hlt,h⟩,fun v H3 y=> ?_⟩;obtain ⟨H03,x3,r3⟩:=yl v H3 y;obtain ⟨ρ',hg',hb'⟩:=A0.mp hr1;obtain ⟨bb,hbb,hb'⟩:=A0.mp hb';have xx3:=xx.trans x3;refine hg b (fun _=>none) _ _ ρ' H03 H3 v _ x3.s1 (fun _ _ h=>by cases h) (e1.ext (K:=K) xx3) r3 hg' _ fun σ2 e2=> ?_;refine ht b _ σ2 ρ' H03 H3 x3.s1 e2 bb hbb _ fun H4 J4 x4=> ?_
     cases bb with
     | true=>
      refine p9 ?_;obtain ⟨rr,hrr,rfl⟩:=Option.map_eq_some_iff.mp (show (fe ρ').map (fun r=>some r.dat)=some r from hb');refine (he b).rv _ σ2 ρ' H4 J4 x4.s1 (e2.ext (K:=K) x4) rr.dat (by unfold mDat;rw [hrr];rfl) _ fun w H5 J5 x5 p5=> ?_;refine ⟨H5,es ++ [rr.dat],rest',(xx3.trans x4).trans x5,Tf.Reps.snoc (Reps.same ((x3.s0.trans x4.s0).trans x5.s0) hr) p5,by rw [List.length_append];simpa using hel,hr2,?_⟩;rw [<-hsum, <-hc,List.append_assoc]
      rfl
     | false=>
      refine m8 ?_
      cases hb'
      exact ⟨H4,es,rest',xx3.trans x4,Reps.same (x3.s0.trans x4.s0) hr,by omega,hr2,by rw [<-hsum, <-hc]⟩
   . left;have hi':i=ds.length:=by omega
     refine ⟨is (by omega),fun p hp=> ?_⟩;rw [EB (by omega)] at hc
     cases hc
     rw [DV] at hsum
     subst hsum;have xy:=x1.trans xx;exact q _ _ _ (xy.trans (Ext.alloc xx.s1 hp _)) ⟨p,ys,rfl,xy.s.free hp,xx.s1.free hp,C9,hr⟩
 . cases hz
def F4(n:Nat)(g:En->Option Out)(k:Nat):List PyData->Option Sl:=fun ds=>if ds.length=k then (g (ds.map (fun d=>some (.val d))++List.replicate (n - ds.length) none)).bind fun o=>match o with
 | .rt r _=>some r
 | .nx _=>some (.val .none)
 | _=>none else none
theorem VX{N:List Str}{H0 H:Hp}{vs:List V}{ds:List PyData}(h:Reps K H0 vs ds):ER K H H0 H (L2.start N vs) (ds.map (fun d=>some (.val d))++List.replicate (N.length - ds.length) none):=by
 have hl:=h.length
 have noown:∀(i:Nat) s,(ds.map (fun d=>some (Sl.val d))++List.replicate (N.length - ds.length) none)[i]? = some (some s)->∃d,ds[i]? = some d/\s = .val d:=by
  intro i s hs
  by_cases hi:i<ds.length
  . rw [A9 (by simpa using hi),AS,A8 hi] at hs
    cases hs
    exact ⟨_,A8 hi,rfl⟩
  . rw [A3 (by simpa using hi),E4] at hs
    split at hs <;> cases hs
 refine ⟨?_,fun i s hs=> ?_,fun i j a xs ys _ h1 _ _ _=> ?_⟩
 . unfold L2.start;simp only [List.length_append,List.length_map,List.length_replicate,hl]
 . obtain ⟨d,hd,rfl⟩:=noown i s hs;obtain ⟨v,h1,h2⟩:=Tf.Reps.get h hd;refine ⟨v,?_,h2⟩;unfold L2.start;have hi:i<vs.length:=(List.getElem?_eq_some_iff.mp h1).1;rw [List.getElem?_append_left (by simpa using hi),List.getElem?_map,h1];rfl
 . obtain ⟨d,_,e⟩:=noown i _ h1
   cases e
section
variable {P:Program} {w:World} {mg:Str->Option Value} {base:Heap}
def DSs(X:Cx)(R:Rl)(st:List Stmt)(g:En->Option Out):Prop:=∃t,PSs X st t/\RS X.K R t g
theorem fnD {x qual : Str} {st : Stmt} {f : Addr} {fd : FuncData} {N ps : List Str} {k n m : Nat} {g : En -> Option Out} (F : Fun K x qual st f fd) (S : FnScope N ps (AO st)) (hn : N.length = n) (hm : ps.length = m)
 (hb:∀(cdv:Value) (A:Around) (outer:List Env) (s:Shared) (H:Hp) (E:XK),Room k (A.deeper (envOfC qual (AO st) s.heap.objs.size f cdv))->DSs (PH CX0 P w K mg base N qual (AO st) f cdv A outer s H E).nox (PR K) (HK st) g) :
 FnOk P w K mg base CX0 (k+1) f fd ps (spD K (F4 n g m)):=by
 subst hn hm;refine F.ok S (fun vs H Q E h=> ?_) fun cdv A outer s H vs Q E hr h=> ?_
 . obtain ⟨H0,ds,r,s,hr,hf,_⟩:=h;unfold F4 at hf
   split at hf
   . rename_i hl;rw [hr.length,hl]
   . cases hf
 . obtain ⟨t,ht,rs⟩:=hb cdv A outer s H E hr;refine ⟨t,ht,?_⟩;obtain ⟨H0,ds,r,s0,hr,hf,q⟩:=h;unfold F4 at hf
   split at hf
   . obtain ⟨o,ho,hf⟩:=A0.mp hf;refine rs H H0 _ _ H0 H (Ext.refl s0) ⟨VX hr⟩ o ho _ ?_
     cases o with
     | rt r' _=>cases hf;exact fun v σ H1 J1 a _ b=>q v H1 J1 a b
     | nx _=>cases hf;exact fun σ H1 J1 a b=>q .non H1 J1 a .none
     | bk _=>cases hf
     | ct _=>cases hf
   . cases hf
end
end
theorem qK{K:PySem.W.Frag}{F:List PyData->Option Sl}(hL:∀ns:List Int,ns.length<=63->F [.list (ns.map .int)]=some (.val (.bool true))){vs:List V}{H:Hp}{Q:VK}{E:XK}(h:ZN K vs H Q E):spD K F vs H Q E:=by
 obtain ⟨a,ns,rfl,h1,h2,q⟩:=h
 have allI:∀ns:List Int,Reps K H (ns.map V.int) (ns.map .int):=fun ns=>by
  induction ns with
  | nil=>exact .nil
  | cons n r ih=>exact .cons (.int n) ih
 refine ⟨H,[.list (ns.map .int)], .val (.bool true),Same.refl H, .cons (.list h1 (allI ns)) .nil,hL ns h2,fun v H0' H' x p=> ?_⟩
 cases (show Rep K H0' v (.bool true) from p)
 exact q H'
section
variable {X:Cx} {R R':Rl} [RelOk X.K R] [RelOk X.K R'] {a b c e:Expr} {pos p:Pos} {f g fa fb fc:En->Option Sl}
def DE(X:Cx)(R:Rl)(e:Expr)(f:En->Option Sl):Prop:=∃te,PE X e te/\RE X.K R te f
def DP(X:Cx)(R:Rl)(e:Expr)(f:En->Option Sl):Prop:=∃te,PE X e te/\RP X.K R te f
def DA(X:Cx)(R:Rl)(es:List Expr)(f:En->Option (List PyData)):Prop:=∃ta,PA X es ta/\RA X.K R ta f
def DQ(X:Cx)(R:Rl)(es:List Expr)(f:En->Option (List Sl)):Prop:=∃ta,PA X es ta/\RQ X.K R ta f
def DT(X:Cx)(R:Rl)(e:Expr)(f:En->Option Bool):Prop:=∃tt,PT X e tt/\RT X.K R tt f
def DW(X:Cx)(R:Rl)(e:Expr)(f:En->Option Bool):Prop:=∃tt,PW X e tt/\RT X.K R tt f
def DO(X:Cx)(R:Rl)(e:Option Expr)(f:En->Option (Option Int)):Prop:=∃to,PO X e to/\RO X.K R to f
def DS(X:Cx)(R:Rl)(st:Stmt)(g:En->Option Out):Prop:=∃t,PS X st t/\RS X.K R t g
def DG(X:Cx)(R:Rl)(e:Expr)(g:PyData->En->Option En):Prop:=∃t,PG X e t/\RG X.K R t g
def DGs(X:Cx)(R:Rl)(es:List Expr)(gs:List (PyData->En->Option En)):Prop:=∃t,PGs X es t/\RGs X.K R t gs
def DI(X:Cx)(R:Rl)(tg e:Expr)(f:En->Option (List PyData)):Prop:=∃wi,PI X tg e wi/\RI X.K R wi f
theorem DE.dp(h:DE X R e f):DP X R e f:=by obtain ⟨t,h1,h2⟩:=h;exact ⟨t,h1,h2.rp⟩
theorem A2 (i : Nat) {x : Str} (hN : X.N[i]? = some x := by rfl) (hv : Vis X.env.scope x := by first | exact E1 rfl | exact CF (E1 rfl) | exact CF (CF rfl)) (hd : (x == ("__debug__" : Str)) = false := by decide)
 (hcd:(x==("__classdict__" : Str))=false:=by decide) (hsl:R.slot i:=by first | exact DJ | exact ⟨AD rfl,AD rfl⟩):DP X R (.Name x pos) (mPk i):=⟨_,GD hN hv hd hcd,wJ i hsl⟩
theorem AC (i : Nat) {x : Str} (hN : X.N[i]? = some x := by rfl) (hv : Vis X.env.scope x := by first | exact E1 rfl | exact CF (E1 rfl) | exact CF (CF rfl)) (hd : (x == ("__debug__" : Str)) = false := by decide)
 (hcd:(x==("__classdict__" : Str))=false:=by decide) (hsl:R.slot i:=by first | exact DJ | exact ⟨AD rfl,AD rfl⟩):DE X R (.Name x pos) (mVar i):=⟨_,GD hN hv hd hcd,sN i hsl⟩
theorem AH{i:Int}{j}:DE X R (.Constant (.int i) j pos) (mK (.int i)):=⟨_,vG,kD fun _=> .int i⟩
theorem PZ{i:Bool}{j}:DE X R (.Constant (.bool i) j pos) (mK (.bool i)):=⟨_,zV,kD fun _=> .bool i⟩
theorem PX{j}:DE X R (.Constant .none j pos) (mK .none):=⟨_,wT,kD fun _=> .none⟩
theorem UU{i:Str}{j}:DE X R (.Constant (.str i) j pos) (mK (.str i)):=⟨_,tW,kD fun _=> .str i⟩
theorem pQ {x:Str} {v:V} {u:Value} {d:PyData} (hm:X.mg x=some u) (r:RelV v u) (h:∀H0:Hp,Rep X.K H0 v d) (hg:Gl X x:=by rfl) (hd:(x==("__debug__" : Str))=false:=by decide):DE X R (.Name x pos) (mK d):=⟨_,mM hg hm r hd,kD h⟩
theorem T3{o:Operator}{r:R2}{op:Sl->Sl->Option Sl}(ho:OpR X (binaryOp o) r)(hd:OpD X.K r op)(ha:DP X R a fa)(hb:DP X R b fb):DE X R (.BinOp a o b pos) (mBin op fa fb):=by
 obtain ⟨ta,h1,h2⟩:=ha;obtain ⟨tb,h3,h4⟩:=hb;exact ⟨_,yF ho h1 h3,UV hd h2 h4⟩
def dAddI:Sl->Sl->Option Sl:=iop fun i j=>i+j
def dSub:Sl->Sl->Option Sl:=iop fun i j=>i - j
def NS(i j:Int):Prop:=CMul i j\/rW i j
theorem oQ:OpR X (binaryOp .Mult) (rI NS fun i j=> .int (i*j)):=opI fun _ _ _ _ _ _ _ hc q=>by
 rcases hc with hc | ⟨n,m,h1,h2,h3⟩
 . exact mul_int q hc.ok
 . exact mul_int q (yR h1 h2 h3)
noncomputable def r9:Sl->Sl->Option Sl:=SI NS fun i j=>i*j
noncomputable def EF:Sl->Sl->Option Sl:=SI fH fun i j=>i.fdiv j
noncomputable def FJ:Sl->Sl->Option Sl:=SI (fun _ j=>j≠0) fun i j=>i.fmod j
noncomputable def VT:Sl->Sl->Option Sl:=SI q5 fun i j=>i ^ j.toNat
theorem IH(ha:DP X R a fa)(hb:DP X R b fb):DE X R (.BinOp a .Sub b pos) (mBin dSub fa fb):=T3 wY qL ha hb
theorem ES(ha:DP X R a fa)(hb:DP X R b fb):DE X R (.BinOp a .FloorDiv b pos) (mBin EF fa fb):=T3 gA NF ha hb
theorem FI(ha:DP X R a fa)(hb:DP X R b fb):DE X R (.BinOp a .Mod b pos) (mBin FJ fa fb):=T3 o8 NF ha hb
theorem gZ(ha:DP X R a fa)(hb:DP X R b fb):DE X R (.BinOp a .Pow b pos) (mBin VT fa fb):=T3 t6 NF ha hb
def rR(K:PySem.W.Frag):R2:=fun x y H Q=>∃l b xs zs,x = .ref l/\y = .ref b/\SqL K H l xs/\SqL K H b zs/\xs.length+zs.length<=sizeLine/\∀p,H p=none->Q (.ref p) (upd H p (.lst (xs++zs)))
theorem mU:OpR X (binaryOp .Add) (rR X.K):=by
 intro pins s σ H x y v u Q I rx ry h;obtain ⟨l,b,xs,zs,rfl,rfl,hH,hB,hz,q⟩:=h
 cases rx
 cases ry
 obtain ⟨its,r,p1,_⟩:=I.list hH;obtain ⟨its2,r2,p2,_⟩:=I.list hB;obtain ⟨⟨cls,dd,data,sl⟩,n,ho,hc,hd1,hd⟩:=id p1;obtain ⟨⟨cls2,dd2,data2,sl2⟩,n2,ho2,hc2,hd2',hd2⟩:=id p2;simp only at hc hd hc2 hd2
 subst hc hd hc2 hd2;have l1:=r.length;have l2:=r2.length;refine fD ⟨_,ho,rfl⟩ ⟨_,ho2,rfl⟩ noFill_list_add seq_list_add PySem.F.slot_list_add PySem.F.entry_list_add (PySem.F.args_list_add_2 _ _) (list_addW l b its.toArray its2.toArray n n2 dd dd2 sl sl2 (by rw [AU,AU];omega)) ⟨ho,ho2,?_⟩;have ea:its.toArray++its2.toArray=(its++its2).toArray:=by simp
 rw [ea];exact ⟨.ref _,_,I.lnew (t':=s.toks) (r.append r2) (by rw [AT];omega),rfl,q _ I.fresh⟩
def j4(K:PySem.W.Frag):R2:=fun x y H Q=>∃a b ys,x = .ref a/\y = .ref b/\SqT K H a []/\SqT K H b ys/\Q (.ref b) H
theorem iJ:OpR X (binaryOp .Add) (j4 X.K):=by
 intro pins s σ H x y v u Q I rx ry h;obtain ⟨a,b,ys,rfl,rfl,ha,hb,q⟩:=h
 cases rx
 cases ry
 obtain ⟨its,r1,p1,_⟩:=I.tuple ha;obtain ⟨its2,r2,p2,_⟩:=I.tuple hb
 cases r1
 obtain ⟨⟨cls,dd,data,sl⟩,ho,hc,n,hd⟩:=id p1;obtain ⟨⟨cls2,dd2,data2,sl2⟩,ho2,hc2,n2,hd2⟩:=id p2;simp only at hc hd hc2 hd2
 subst hc hd hc2 hd2
 exact fD ⟨_, ho, rfl⟩ ⟨_, ho2, rfl⟩ lP A02 NY MX (MI _ _)
  (tuple_addW0 a b ([]:List Value).toArray its2.toArray n n2 dd dd2 sl sl2 (by simp)) ⟨ho,ho2, .ref b,H,I,rfl,q⟩
def rY(K:PySem.W.Frag):R2:=fun x y H Q=>rI0 (fun i j=> .int (i+j)) x y H Q\/rR K x y H Q\/j4 K x y H Q\/rJ K x y H Q\/(∃i j,x = .str i/\y = .str j/\i.length+j.length<=sizeLine/\Q (.str (i++j)) H)
theorem m3:OpR X (binaryOp .Add) (rY X.K):=vJ.or (mU.or (iJ.or (oP.or XZ)))
def dAdd(a b:Sl):Option Sl:=match a.dat,b.dat with
 | .int i, .int j=>some (.val (.int (i+j)))
 | .list xs, .list ys=>if xs.length+ys.length<=sizeLine then some (.own (xs++ys)) else none
 | .tuple xs, .tuple ys=>if xs.length+ys.length<=sizeLine then some (.val (.tuple (xs++ys))) else none
 | .str i, .str j=>if i.length+j.length<=sizeLine then some (.val (.str (i++j))) else none
 | _,_=>none
theorem SlP.atom{K:PySem.W.Frag}{H0 H:Hp}{v:V}{d:PyData}{r:Sl}(h:SlP K H0 H v r)(e:r.dat=d)(n:∀ds,d ≠ .list ds)(n2:∀kvs,d ≠ .dict kvs:=by intro _ h;cases h):Rep K H0 v d:=by
 cases r with
 | val _=>cases e;exact h
 | own _=>exact absurd e.symm (n _)
 | dct _=>exact absurd e.symm (n2 _)
theorem Reps.append{K:PySem.W.Frag}{H:Hp}:∀ {vs ws:List V} {ds es:List PyData},Reps K H vs ds->Reps K H ws es->Reps K H (vs++ws) (ds++es)
 | _,_,_,_, .nil,h=>h
 | _,_,_,_, .cons a t,h=> .cons a (Reps.append t h)
theorem mN{K:PySem.W.Frag}:OpD K (rY K) dAdd:=fun H0 H x y sx sy z s px py hz Q q=>by
 unfold dAdd at hz
 split at hz
 . rename_i i j e1 e2
   cases hz
   cases px.atom e1 (fun _ h=>nomatch h)
   cases py.atom e2 (fun _ h=>nomatch h)
   exact .inl ⟨_,_,rfl,rfl,q _ _ _ (Ext.refl s) (.int _)⟩
 . rename_i xs ys e1 e2
   split at hz
   . rename_i hl
     cases hz
     obtain ⟨a,vs,rfl,h1,h2⟩:=px.lst s e1;obtain ⟨b,ws,rfl,h3,h4⟩:=py.lst s e2;exact .inr (.inl ⟨a,b,vs,ws,rfl,rfl,h1,h3,by rw [h2.length,h4.length];exact hl,fun p hp=>q _ _ _ (Ext.alloc s hp _) ⟨p,_,rfl,hp,s.free hp,C9,Reps.append h2 h4⟩⟩)
   . cases hz
 . rename_i xs ys e1 e2
   split at hz
   . rename_i hl
     cases hz
     obtain ⟨a,vs,rfl,h1,h2⟩:=px.tup e1;obtain ⟨b,ws,rfl,h3,h4⟩:=py.tup e2
     by_cases hv:vs = []
     . subst hv
       cases h2
       exact .inr (.inr (.inl ⟨a,b,ws,rfl,rfl,s.seqT h1,s.seqT h3,q _ _ _ (Ext.refl s) (.tuple h3 h4)⟩))
     . refine .inr (.inr (.inr (.inl ⟨a,b,vs,ws,rfl,rfl,s.seqT h1,s.seqT h3,hv,by rw [h2.length,h4.length];exact hl,fun hw=> ?_,fun hw p hp=> ?_⟩)))
       . subst hw
         cases h4
         rw [DV] at q
         exact q _ _ _ (Ext.refl s) (.tuple h1 h2)
       . exact q _ _ _ (Ext.allocF s hp _) (.tuple (SqT.of C9) (Reps.same (Same.upd (s.free hp) _) (Reps.append h2 h4)))
   . cases hz
 . rename_i i j e1 e2
   split at hz
   . rename_i hl
     cases hz
     cases px.atom e1 (fun _ h=>nomatch h)
     cases py.atom e2 (fun _ h=>nomatch h)
     exact .inr (.inr (.inr (.inr ⟨_,_,rfl,rfl,hl,q _ _ _ (Ext.refl s) (.str _)⟩)))
   . cases hz
 . cases hz
theorem E3(ha:DP X R a fa)(hb:DP X R b fb):DE X R (.BinOp a .Add b pos) (mBin dAdd fa fb):=T3 m3 mN ha hb
noncomputable def dRep(a b:Sl):Option Sl:=match a,b with
 | .own xs, .val (.int k)=>if -(2 ^ 63)<=k/\k<2 ^ 63/\xs.length*k.toNat<=sizeLine then some (.own (List.replicate k.toNat xs).flatten) else none
 | a,b=>r9 a b
theorem Reps.rep{K:PySem.W.Frag}{H:Hp}{vs:List V}{ds:List PyData}(h:Reps K H vs ds):∀k:Nat,Reps K H (List.replicate k vs).flatten (List.replicate k ds).flatten
 | 0=> .nil
 | k+1=>by
  rw [FA,FA,GX,GX];exact Reps.append h (Reps.rep h k)
theorem oV{K:PySem.W.Frag}:OpD K (fun x y H Q=>rRep x y H Q\/rI NS (fun i j=> .int (i*j)) x y H Q) dRep:=fun H0 H x y sx sy z s px py hz Q q=>by
 unfold dRep at hz
 split at hz
 . split at hz
   . rename_i hl
     cases hz
     obtain ⟨a,vs,rfl,h1,h2⟩:=px;exact .inl ⟨a,_,vs,rfl,py.int,h1,hl.1,hl.2.1,by rw [h2.length];exact hl.2.2,fun p hp=>q _ _ _ (Ext.alloc s hp _) ⟨p,_,rfl,hp,s.free hp,C9,Reps.rep h2 _⟩⟩
   . cases hz
 . exact .inr (NF H0 H x y _ _ z s px py hz Q q)
theorem DM(ha:DP X R a fa)(hb:DP X R b fb):DE X R (.BinOp a .Mult b pos) (mBin dRep fa fb):=T3 (x8.or oQ) oV ha hb
theorem QK(ha:DP X R a fa):DE X R (.UnaryOp .USub a pos) (mUn (iun fun i=> -i) fa):=by
 obtain ⟨ta,h1,h2⟩:=ha;exact ⟨_,yQ wI h1,yX n0 h2⟩
theorem vW{o:CmpOp}{r:R2}{op:Sl->Sl->Option Sl}(ho:OpR X (compareOp o) r)(hd:OpD X.K r op)(ha:DP X R a fa)(hb:DP X R b fb)(hm:behindInMarks o b=false):DE X R (.Compare a [o] [b] pos) (mBin op fa fb):=by
 obtain ⟨ta,h1,h2⟩:=ha;obtain ⟨tb,h3,h4⟩:=hb;exact ⟨_,nW ho h1 h3 hm,UV hd h2 h4⟩
theorem LC{o:CmpOp}{r:R2}{op:Sl->Sl->Option Sl}(ho:OpR X (compareOp o) r)(hd:OpD X.K r op)(ha:DP X R a fa)(hb:DP X R b fb)(hm:behindInMarks o b=false):DT X R (.Compare a [o] [b] pos) (mTest (mBin op fa fb)):=by
 obtain ⟨ta,h1,h2⟩:=ha;obtain ⟨tb,h3,h4⟩:=hb;exact ⟨_,nL ho h1 h3 hm,qD (UV hd h2 h4).rp⟩
def dLt:Sl->Sl->Option Sl:=icmp fun i j=>decide (i<j)
def dLe:Sl->Sl->Option Sl:=icmp fun i j=>decide (i<=j)
def dGt:Sl->Sl->Option Sl:=icmp fun i j=>decide (j<i)
def dGe:Sl->Sl->Option Sl:=icmp fun i j=>decide (j<=i)
theorem zD(hu:X.A.units+64<cLine)(ha:DP X R a fa)(hb:DP X R b fb):DE X R (.Compare a [.Eq] [b] pos) (mBin deq fa fb):=vW (jW hu) fP ha hb (MK _)
theorem aW(ha:DP X R a fa)(hb:DP X R b fb):DT X R (.Compare a [.Lt] [b] pos) (mTest (mBin dLt fa fb)):=LC zI SD ha hb (MK _)
theorem sC(ha:DP X R a fa)(hb:DP X R b fb):DT X R (.Compare a [.LtE] [b] pos) (mTest (mBin dLe fa fb)):=LC zM SD ha hb (MK _)
theorem rF(ha:DP X R a fa)(hb:DP X R b fb):DT X R (.Compare a [.Gt] [b] pos) (mTest (mBin dGt fa fb)):=LC yU SD ha hb (MK _)
theorem MG(hu:X.A.units+64<cLine)(ha:DP X R a fa)(hb:DP X R b fb):DT X R (.Compare a [.Eq] [b] pos) (mTest (mBin deq fa fb)):=LC (jW hu) fP ha hb (MK _)
theorem aD(hu:X.A.units+64<cLine)(ha:DP X R a fa)(hb:DP X R b fb):DT X R (.Compare a [.NotEq] [b] pos) (mTest (mBin dne fa fb)):=LC (t5 hu) sP ha hb (MK _)
theorem kE(ha:DP X R a fa)(hb:DP X R b fb):DT X R (.Compare a [.Is] [b] pos) (mTest (mBin disN fa fb)):=LC uQ nC ha hb (MK _)
theorem vI(h:DP X R e f)(he:∀whole,isTrue e X.env whole=(do let v <-whole;standAt e.pos;holding [v] (truthy v)):=by intro _;rfl):DT X R e (mTest f):=by
 obtain ⟨t,h1,h2⟩:=h;exact ⟨_,wX h1 he,A15 h2⟩
variable {ft gt:En->Option Bool} {IV:List Expr}
theorem A11(h:DW X R e ft):DT X R e ft:=by obtain ⟨t,h1,h2⟩:=h;exact ⟨t,h1.pt,h2⟩
theorem nG(h:DT X R a ft):DW X R (.BoolOp .And [a] pos) ft:=by obtain ⟨t,h1,h2⟩:=h;exact ⟨t,nI h1,h2⟩
theorem vD(h:DT X R a ft)(k:DW X R (.BoolOp .And (b::IV) pos) gt):DW X R (.BoolOp .And (a::b::IV) pos) (mAnd ft gt):=by obtain ⟨t,h1,h2⟩:=h;obtain ⟨u,h3,h4⟩:=k;exact ⟨_,vQ h1 h3,tK h2 h4⟩
theorem vU(h:DT X R a ft):DT X R (.UnaryOp .Not a pos) (mNot ft):=by obtain ⟨t,h1,h2⟩:=h;exact ⟨_,vA h1,sZ h2⟩
theorem DF(ha:DP X R a fa)(hb:DP X R b fb)(hs:b9 b:=by intro _ _;rfl):DE X R (.Subscript a b pos) (mBin dix fa fb):=by
 obtain ⟨ta,h1,h2⟩:=ha;obtain ⟨tb,h3,h4⟩:=hb;exact ⟨_,zQ sV h1 h3 hs,UV xI h2 h4⟩
variable {lo hi:Option Expr} {fl fh:En->Option (Option Int)} {p2:Pos}
theorem M3:DO X R none mNoPart:=⟨_,mS,m4⟩
theorem LM(h:DP X R e f):DO X R (some e) (mPart f):=by obtain ⟨t,h1,h2⟩:=h;exact ⟨_,pC h1,p7 h2⟩
theorem TK(h:DP X R e f)(hl:DO X R lo fl)(hh:DO X R hi fh):DE X R (.Subscript e (.Slice lo hi none p2) pos) (mSl f fl fh):=by
 obtain ⟨t,h1,h2⟩:=h;obtain ⟨u,h3,h4⟩:=hl;obtain ⟨v,h5,h6⟩:=hh;exact ⟨_,jE (pB.or uE) h1 h3 h5,yN h2 h4 h6⟩
variable {es:List Expr} {fs:En->Option (List PyData)} {fq:En->Option (List Sl)}
theorem AG:DA X R [] mNil:=⟨_,S7,wV⟩
theorem A1(h:DE X R e f)(k:DA X R es fs)(hs:starEach (e::es) X.env=(false,eval e X.env)::starEach es X.env:=by rfl):DA X R (e::es) (mCons f fs):=by obtain ⟨t,h1,h2⟩:=h;obtain ⟨u,h3,h4⟩:=k;exact ⟨_,NJ h1 h3 hs,mL h2 h4⟩
theorem CZ:DQ X R [] mNilP:=⟨_,S7,v6⟩
theorem BU(h:DP X R e f)(k:DQ X R es fq)(hs:starEach (e::es) X.env=(false,eval e X.env)::starEach es X.env:=by rfl):DQ X R (e::es) (mConsP f fq):=by obtain ⟨t,h1,h2⟩:=h;obtain ⟨u,h3,h4⟩:=k;exact ⟨_,NJ h1 h3 hs,n6 h2 h4⟩
theorem FG{x1}(h:DA X R es fs):DE X R (.Tuple es x1 pos) (mTup fs):=by obtain ⟨t,h1,h2⟩:=h;exact ⟨_,vS h1,vC h2⟩
theorem EO(h:DA X R es fs):DE X R (.List es pos) (mLst fs):=by obtain ⟨t,h1,h2⟩:=h;exact ⟨_,uM h1,x6 h2⟩
theorem BA {k j : Nat} {x : Str} {ps : List Str} {F : List PyData -> Option Sl} (D : Tf.Def X.prog X.w X.K X.mg X.base j x ps (spD X.K F)) (hr : Room k X.A) (h : DA X R (e :: es) fs) (hj : j <= k := by decide) (hg : Gl X x := by rfl)
 (hdb:(x==("__debug__" : Str))=false:=by decide) (he:starEach (e::es) X.env=(false,eval e X.env)::starEach es X.env:=by rfl) (hpl:(backTo pos (starEach es X.env)).any (·.1)=false:=by rfl):DE X R (.Call (.Name x p) (e::es) [] pos) (mCall F fs):=by
 obtain ⟨t,h1,h2⟩:=h;exact ⟨_,X6 D hr h1 hj hg hdb he hpl,qB h2⟩
theorem FL {x : Str} {id : String} {r : List V -> Hp -> VK -> Prop} {F : List Sl -> Option Sl} (hc : MD X (.builtin id) r) (hd : NR X.K r F) (hv : bootBuiltins x = some (.builtin id)) (hm : X.mg x = none) (h : DQ X R (e :: es) fq) (hg : Gl X x := by rfl) (hn : x ≠ "__name__" := by decide) (hdb : (x == ("__debug__" : Str)) = false := by decide)
 (he:starEach (e::es) X.env=(false,eval e X.env)::starEach es X.env:=by rfl) (hpl:(backTo pos (starEach es X.env)).any (·.1)=false:=by rfl):DE X R (.Call (.Name x p) (e::es) [] pos) (mCallP F fq):=by
 obtain ⟨t,h1,h2⟩:=h;exact ⟨_,gT hc hg hm hv h1 hn hdb he hpl,W6 hd h2⟩
theorem QH {x : Str} {id : String} {r : List V -> Hp -> VK -> Prop} {F : List Sl -> Option Sl} (hc : MD X (.type id) r) (hd : NR X.K r F) (hv : bootBuiltins x = some (.type id)) (hm : X.mg x = none) (h : DQ X R (e :: es) fq) (hg : Gl X x := by rfl) (hn : x ≠ "__name__" := by decide) (hdb : (x == ("__debug__" : Str)) = false := by decide)
 (he:starEach (e::es) X.env=(false,eval e X.env)::starEach es X.env:=by rfl) (hpl:(backTo pos (starEach es X.env)).any (·.1)=false:=by rfl):DE X R (.Call (.Name x p) (e::es) [] pos) (mCallP F fq):=by
 obtain ⟨t,h1,h2⟩:=h;exact ⟨_,eG hc hg hm hv h1 hn hdb he hpl,W6 hd h2⟩
def S9(K:PySem.W.Frag)(mg:Str->Option Value)(x:Str)(d:PyData):Prop:=∃v u,mg x=some u/\RelV v u/\∀H0:Hp,Rep K H0 v d
theorem NN {x:Str} {d:PyData} (h:S9 X.K X.mg x d) (hg:Gl X x:=by rfl) (hd:(x==("__debug__" : Str))=false:=by decide):DE X R (.Name x pos) (mK d):=by
 obtain ⟨v,u,h1,h2,h3⟩:=h;exact pQ h1 h2 h3 hg hd
theorem EK{K:PySem.W.Frag}{ix:List (Option Nat)}(hx:(ix.filterMap id).Nodup:=by decide):∀(HB:Hp) (σ:L2.St) (ρ:En) (H0 H:Hp),(PR K).r HB H0 H σ ρ->(PR K).r (fun _=>none) H0 H (F8 ix σ) (D3 ix ρ):=fun HB σ ρ H0 H e=>ER.sub hx e
variable {st:Stmt} {sts:List Stmt} {gs gs':En->Option Out} {x y:Str} {pos':Pos} {i j:Nat}
theorem EQ:DSs X R [] mNext:=⟨_,o3,nA⟩
theorem AK(h:DS X R st gs):DSs X R [st] gs:=by obtain ⟨t,h1,h2⟩:=h;exact ⟨_,b8 h1,h2⟩
theorem A6(h:DS X R st gs)(k:DSs X R sts gs'):DSs X R (st::sts) (mSeq gs gs'):=by obtain ⟨t,h1,h2⟩:=h;obtain ⟨u,h3,h4⟩:=k;exact ⟨_,VP h1 h3,uS h2 h4⟩
theorem CG(i:Nat)(h:DS X R st gs)(hsl:R.slot i:=by first | exact DJ | exact ⟨AD rfl,AD rfl⟩):DS X R st (mFrz i gs):=by obtain ⟨t,h1,h2⟩:=h;exact ⟨_,h1,v7 i hsl h2⟩
theorem AW (i : Nat) (h : DE X R e f) (hN : X.N.Nodup) (hi : X.N[i]? = some x := by rfl) (hx : Loc X.env.scope x := by first | exact E1 rfl | exact CF rfl) (hs : swapsWith e (some (.Name x pos')) pos.line X.env = pure false := by rfl) (hf : X.fn x = true \/ X.env.scope.names.lookup x = some .local := by first | exact .inl rfl | exact .inr rfl) (hsl : R.slot i := by first | exact DJ | exact ⟨AD rfl, AD rfl⟩) :
 DS X R (.Assign [.Name x pos'] e pos) (mAsg i f):=by obtain ⟨t,h1,h2⟩:=h;exact ⟨_,YY hN hi hx h1 hs hf,uT hsl h2⟩
theorem DR(h:DE X R e f):DS X R (.Return (some e) pos) (mRet f):=by obtain ⟨t,h1,h2⟩:=h;exact ⟨_,YD h1,sO h2⟩
theorem FW (i : Nat) (hN : X.N[i]? = some x := by rfl) (hv : Vis X.env.scope x := by first | exact E1 rfl | exact CF (E1 rfl) | exact CF (CF rfl)) (hd : (x == ("__debug__" : Str)) = false := by decide)
 (hcd:(x==("__classdict__" : Str))=false:=by decide) (hsl:R.slot i:=by first | exact DJ | exact ⟨AD rfl,AD rfl⟩):DS X R (.Return (some (.Name x pos')) pos) (mRet (mPk i)):=⟨_,YD (GD hN hv hd hcd),o9 i hsl⟩
theorem Z9:DS X R (.Return none pos) mRetN:=⟨_,qC,p8⟩
theorem GO{A B:List Stmt}(hc:DT X R c ft)(h:DSs X R A gs)(k:DSs X R B gs'):DS X R (.If c A B pos) (mIf ft gs gs'):=by obtain ⟨t,h1,h2⟩:=hc;obtain ⟨u,h3,h4⟩:=h;obtain ⟨v,h5,h6⟩:=k;exact ⟨_,zX h1 h3 h5,y0 h2 h4 h6⟩
theorem RK(hp:PassesOwn (model X.prog X.w) X.A X.env X.xe)(hc:DT X R c ft)(h:DSs X R sts gs):DS X R (.While c sts [] pos) (J8 ft gs):=by obtain ⟨t,h1,h2⟩:=hc;obtain ⟨u,h3,h4⟩:=h;exact ⟨_,kL hp h1 h3,jT h2 h4⟩
variable {tg:Expr} {fi:En->Option (List PyData)} {fg:PyData->En->Option En} {gg:List (PyData->En->Option En)}
theorem EW(hp:PassesOwn (model X.prog X.w) X.A X.env X.xe)(hi:DI X R tg e fi)(hg:DG X R tg fg)(h:DSs X R sts gs)(hc:X.calm=true:=by rfl)(hs:∀x,foldedSetIterable e X.env x=pure x:=by intro _;rfl):DS X R (.For tg e sts [] pos) (GB fi fg gs):=by
 obtain ⟨t,h1,h2⟩:=hi;obtain ⟨u,h3,h4⟩:=hg;obtain ⟨v,h5,h6⟩:=h;exact ⟨_,iE hp hc h1 h3 h5 hs,wO h2 h4 h6⟩
theorem D7(i:Nat)(hN:X.N.Nodup)(hi:X.N[i]? = some x:=by rfl)(hx:Loc X.env.scope x:=by first | exact E1 rfl | exact CF rfl)(hf:X.fn x=true\/X.env.scope.names.lookup x=some .local:=by first | exact .inl rfl | exact .inr rfl)(hsl:R.slot i:=by first | exact DJ | exact ⟨AD rfl,AD rfl⟩):DG X R (.Name x pos) (gVar i):=⟨_,ZV hN hi hx hf,ZW i hsl⟩
theorem ND:DGs X R [] []:=⟨_,ZJ,ZC⟩
theorem GN(h:DG X R e fg)(k:DGs X R es gg)(hs:(assignEach (e::es) X.env).map (·.2)=assign e X.env::(assignEach es X.env).map (·.2):=by rfl):DGs X R (e::es) (fg::gg):=by obtain ⟨t,h1,h2⟩:=h;obtain ⟨u,h3,h4⟩:=k;exact ⟨_,VO h1 h3 hs,WY h2 h4⟩
theorem RN{k}{n:Nat}(h:DGs X R es gg)(hl:n=gg.length:=by rfl)(hc:X.calm=true:=by rfl)(hn:(assignEach es X.env).length=n:=by rfl)(hst:(assignEach es X.env).findIdx? (·.1)=none:=by rfl):DG X R (.Tuple es k pos) (gTupD gg):=by
 obtain ⟨t,h1,h2⟩:=h;exact ⟨_,lC hc h1 hn hst,iA hl h2⟩
theorem GP(h:DE X R e f):DI X R tg e (mItems f):=by obtain ⟨t,h1,h2⟩:=h;exact ⟨_,c0 h1,oR h2⟩
theorem G5 (hm:X.mg "range" = none) (h:DQ X R [a] fq) (hg:Gl X "range" :=by rfl) (hs:starEach [a] X.env = [(false,eval a X.env)]:=by rfl):DI X R tg (.Call (.Name "range" p) [a] [] pos) (J0 fq):=by obtain ⟨t,h1,h2⟩:=h;exact ⟨_,dF hg hm h1 hs,dJ h2⟩
theorem OP (hm:X.mg "range" = none) (h:DQ X R [a,b] fq) (hg:Gl X "range" :=by rfl) (hs:starEach [a,b] X.env = [(false,eval a X.env),(false,eval b X.env)]:=by rfl) (hs2:starEach [b] X.env = [(false,eval b X.env)]:=by rfl):DI X R tg (.Call (.Name "range" p) [a,b] [] pos) (NT fq):=by
 obtain ⟨t,h1,h2⟩:=h;exact ⟨_,dU hg hm h1 hs hs2,d7 h2⟩
theorem dX (hm:X.mg "range" = none) (h:DQ X R [a,b,c] fq) (hg:Gl X "range" :=by rfl) (hs:starEach [a,b,c] X.env=(false,eval a X.env)::starEach [b,c] X.env:=by rfl) (hs2:(backTo pos (starEach [b,c] X.env)).any (·.1)=false:=by rfl):DI X R tg (.Call (.Name "range" p) [a,b,c] [] pos) (aA fq):=by
 obtain ⟨t,h1,h2⟩:=h;exact ⟨_,eV hg hm h1 hs hs2,dW h2⟩
theorem SC {elts:List Expr} {k} {tp:Pos} (hm:X.mg "zip" = none) (h:DA X R [a,b] fs) (hg:Gl X "zip" :=by rfl) (hs:starEach [a,b] X.env = [(false,eval a X.env),(false,eval b X.env)]:=by rfl) (hs2:starEach [b] X.env = [(false,eval b X.env)]:=by rfl):DI X R (.Tuple elts k tp) (.Call (.Name "zip" p) [a,b] [] pos) (N5 fs):=by
 obtain ⟨t,h1,h2⟩:=h;exact ⟨_,t9 hg hm h1 hs hs2,uX h2⟩
theorem K2 (i : Nat) {apos cpos : Pos} (h : DE X R e f) (hN : X.N[i]? = some x := by rfl) (hv : Vis X.env.scope x := by first | exact E1 rfl | exact CF (E1 rfl) | exact CF (CF rfl)) (hd : (x == ("__debug__" : Str)) = false := by decide) (hcd : (x == ("__classdict__" : Str)) = false := by decide)
 (hst:starEach [e] X.env=(false,eval e X.env)::starEach [] X.env:=by rfl) (hbase:attributeBase (.Name x p) "append" X.env (eval (.Name x p) X.env)=eval (.Name x p) X.env:=by rfl)
 (hfew:((backTo cpos (starEach [e] X.env)).all (fun x=> !x.1) && (backToKw cpos (keywordEach [] X.env)).all (fun x=>x.1.isSome) && decide ([e].length+([]:List Keyword).length+(if ([]:List Keyword).isEmpty then 0 else 1)<30))=true:=by rfl)
 (hline:(apos.endLine==cpos.line)=true:=by rfl) (hplain:(backTo cpos (starEach [] X.env)).any (·.1)=false:=by rfl)
 (hs:swapsWith (.Call (.Attribute (.Name x p) "append" apos) [e] [] cpos) none pos.line X.env=pure false:=by rfl) (hsl:R.slot i:=by first | exact DJ | exact ⟨AD rfl,AD rfl⟩):DS X R (.Expr (.Call (.Attribute (.Name x p) "append" apos) [e] [] cpos) pos) (mApp i f):=by
 obtain ⟨t,h1,h2⟩:=h;exact ⟨_,Q2 (gN MZ JR lR TQ (GD hN hv hd hcd) (NJ h1 S7 hst) hbase hfew hline hst hplain) hs,xD hsl h2⟩
theorem i7 (i j : Nat) {px py pt : Pos} {kt k2 pt2} (h : DA X R [a, b] fs) (hN : X.N.Nodup) (hi : X.N[i]? = some x := by rfl) (hj : X.N[j]? = some y := by rfl) (hij : i ≠ j := by decide)
 (hx:X.env.scope.names.lookup x=some .local:=by rfl) (hy:X.env.scope.names.lookup y=some .local:=by rfl)
 (hw:swappedStores [.Tuple [.Name x px, .Name y py] kt pt] (.Tuple [a,b] k2 pt2) X.env=pure (some [x,y]):=by rfl)
 (hs:swapsWithSole [.Tuple [.Name x px, .Name y py] kt pt] (.Tuple [a,b] k2 pt2) pos.line X.env=pure false:=by rfl) (hc:X.calm=true:=by rfl) (hsi:R.slot i:=by first | exact DJ | exact ⟨AD rfl,AD rfl⟩) (hsj:R.slot j:=by first | exact DJ | exact ⟨AD rfl,AD rfl⟩):DS X R (.Assign [.Tuple [.Name x px, .Name y py] kt pt] (.Tuple [a,b] k2 pt2) pos) (mPar i j fs):=by
 obtain ⟨t,h1,h2⟩:=h;exact ⟨_,t4 hc hN hi hj hij hx hy h1 hw hs,tE hsi hsj h2⟩
theorem PQ (i : Nat) {px ps : Pos} (h : DE X R e f) (hj : DP X R a fa) (hN : X.N[i]? = some x := by rfl) (hv : Vis X.env.scope x := by first | exact E1 rfl | exact CF (E1 rfl) | exact CF (CF rfl)) (hd : (x == ("__debug__" : Str)) = false := by decide) (hcd : (x == ("__classdict__" : Str)) = false := by decide)
 (ha:∀v,assign (.Subscript (.Name x px) a ps) X.env v=(do
  let ov <-holding [v] (eval (.Name x px) X.env)
  let iv <-holding [v,ov] (eval a X.env)
  standAt ps
  holding [v,ov,iv] (setItem ov iv v)
  release [v,ov,iv] []):=by intro _;rfl)
 (hs:swapsWithSole [.Subscript (.Name x px) a ps] e pos.line X.env=pure false:=by rfl) (hw:swappedStores [.Subscript (.Name x px) a ps] e X.env=pure none:=by rfl) (h1:(assignEach [.Subscript (.Name x px) a ps] X.env).map (·.2) = [assign (.Subscript (.Name x px) a ps) X.env]:=by rfl) (hsl:R.slot i:=by first | exact DJ | exact ⟨AD rfl,AD rfl⟩) :
 DS X R (.Assign [.Subscript (.Name x px) a ps] e pos) (mSet i fa f):=by
 obtain ⟨t,a1,a2⟩:=h;obtain ⟨u,b1,b2⟩:=hj;exact ⟨_,jS a1 (fT (GD hN hv hd hcd) b1 WZ ha) hs hw h1,xK hsl a2 b2⟩
theorem CI{CX:CXT}{P:Program}{w:World}{K:PySem.W.Frag}{mg:Str->Option Value}{base:Heap}{N:List Str}{qual:Str}{scope:Scope}{f:Addr}{cd:Value}{A:Around}{outer:List Env}{s:Shared}{H:Hp}{E:XK}:(PH CX P w K mg base N qual scope f cd A outer s H E).nox.env.scope=scope:=rfl
theorem CH{CX:CXT}{P:Program}{w:World}{K:PySem.W.Frag}{mg:Str->Option Value}{base:Heap}{N:List Str}{qual:Str}{scope:Scope}{f:Addr}{cd:Value}{A:Around}{outer:List Env}{s:Shared}{H:Hp}{E:XK}:(PH CX P w K mg base N qual scope f cd A outer s H E).nox.N=N:=rfl
theorem LG{X:Cx}{osc sc:Scope}{N':List Str}{b:CB}:(cxC X osc sc N' b).N=N':=rfl
theorem LX{X:Cx}{osc sc:Scope}{N':List Str}{b:CB}:(cxC X osc sc N' b).env.scope=NE sc osc:=rfl
def GKm(S:Nat->Bool)(g:TG):Prop:=∀v σ H Q Q',g v σ H Q->(∀σ' H',Q σ' H'->σ'.length=σ.length->(∀i:Nat,S i=false->σ'[i]? = σ[i]?)->Q' σ' H')->g v σ H Q'
def GKs(S:Nat->Bool)(g:TGs):Prop:=∀v σ H Q Q',g v σ H Q->(∀σ' H',Q σ' H'->σ'.length=σ.length->(∀i:Nat,S i=false->σ'[i]? = σ[i]?)->Q' σ' H')->g v σ H Q'
theorem GKm.gk{S:Nat->Bool}{t:TG}(h:GKm S t):GK S t:=fun v σ H Q q=>h v σ H Q _ q fun _ _ a b c=>⟨a,b,c⟩
theorem kT{S:Nat->Bool}{i:Nat}(h:S i=true):GKm S (QY i):=fun v σ H Q Q' q k=>k _ _ q (DX ..) fun j hj=>by
 rw [AI];intro e;subst e;rw [h] at hj
 cases hj
theorem nD{S:Nat->Bool}:GKs S gNil:=fun v σ H Q Q' q k=>⟨q.1,k _ _ q.2 rfl fun _ _=>rfl⟩
theorem kM{S:Nat->Bool}{t:TG}{u:TGs}(h:GKm S t)(k:GKs S u):GKs S (kG t u):=fun v σ H Q Q' q w=>by
 obtain ⟨x,r,e,q⟩:=q;refine ⟨x,r,e,h x σ H _ _ q fun σ' H' q' l1 k1=>k r σ' H' _ _ q' fun σ2 H2 q2 l2 k2=>w σ2 H2 q2 (l2.trans l1) fun i hi=>(k2 i hi).trans (k1 i hi)⟩
theorem n9{S:Nat->Bool}{u:TGs}{K:PySem.W.Frag}{n:Nat}(k:GKs S u):GKm S (tQ K n u):=fun v σ H Q Q' q w=>by
 obtain ⟨a,xs,e,h1,h2,q⟩:=q;exact ⟨a,xs,e,h1,h2,k xs σ H _ _ q w⟩
def DGk(X:Cx)(R:Rl)(S:Nat->Bool)(e:Expr)(g:PyData->En->Option En):Prop:=∃t,PG X e t/\RG X.K R t g/\GKm S t
def oG(X:Cx)(R:Rl)(S:Nat->Bool)(es:List Expr)(gs:List (PyData->En->Option En)):Prop:=∃t,PGs X es t/\RGs X.K R t gs/\GKs S t
def DTs(X:Cx)(R:Rl)(ifs:List Expr)(f:En->Option Bool):Prop:=∃tt,PTs X ifs tt/\RT X.K R tt f
theorem DN:DTs X R [] mYes:=⟨_,mT,wH⟩
theorem ZT(h:DT X R e ft):DTs X R [e] ft:=by obtain ⟨t,h1,h2⟩:=h;exact ⟨_,pT h1,h2⟩
theorem C2{S:Nat->Bool}(i:Nat)(hN:X.N.Nodup)(hS:S i=true:=by rfl)(hi:X.N[i]? = some x:=by rfl)(hx:Loc X.env.scope x:=by first | exact E1 rfl | exact CF rfl)(hf:X.fn x=true\/X.env.scope.names.lookup x=some .local:=by first | exact .inl rfl | exact .inr rfl)(hsl:R.slot i:=by first | exact DJ | exact ⟨AD rfl,AD rfl⟩):DGk X R S (.Name x pos) (gVar i):=⟨_,ZV hN hi hx hf,ZW i hsl,kT hS⟩
theorem KW{S:Nat->Bool}:oG X R S [] []:=⟨_,ZJ,ZC,nD⟩
theorem G4{S:Nat->Bool}(h:DGk X R S e fg)(k:oG X R S es gg)(hs:(assignEach (e::es) X.env).map (·.2)=assign e X.env::(assignEach es X.env).map (·.2):=by rfl):oG X R S (e::es) (fg::gg):=by obtain ⟨t,h1,h2,h5⟩:=h;obtain ⟨u,h3,h4,h6⟩:=k;exact ⟨_,VO h1 h3 hs,WY h2 h4,kM h5 h6⟩
theorem NC{S:Nat->Bool}{k}{n:Nat}(h:oG X R S es gg)(hl:n=gg.length:=by rfl)(hc:X.calm=true:=by rfl)(hn:(assignEach es X.env).length=n:=by rfl)(hst:(assignEach es X.env).findIdx? (·.1)=none:=by rfl):DGk X R S (.Tuple es k pos) (gTupD gg):=by
 obtain ⟨t,h1,h2,h3⟩:=h;exact ⟨_,lC hc h1 hn hst,iA hl h2,n9 h3⟩
variable {osc sc:Scope} {N':List Str} {ix:List (Option Nat)} {ifs:List Expr} {elt iter:Expr} {fe:En->Option Sl}
theorem FN {N : List Str} (ho : X.env.scope = osc) (hN : X.N = N) (ix : List (Option Nat)) (sb : En -> En) (hx : ∀ (HB : Hp) (σ : L2.St) (ρ : En) (H0 H : Hp), R.r HB H0 H σ ρ -> R'.r (fun _ => none) H0 H (F8 ix σ) (sb ρ)) (hi : DI X R tg iter fi) (hg : ∀ b : CB, DGk (cxC X osc sc N' b) R' (RY ix) tg fg) (ht : ∀ b : CB, DTs (cxC X osc sc N' b) R' ifs ft) (he : ∀ b : CB, DE (cxC X osc sc N' b) R' elt fe)
 (hcs:dD osc sc N N' ix=true:=by decide +kernel) (hc:X.calm=true:=by rfl)
 (hs:∀x,foldedSetIterable iter X.env x=pure x:=by intro _;rfl):DE X R (.ListComp elt [⟨tg,iter,ifs,0⟩] sc pos) (mLC sb fi fg ft fe):=by
 obtain ⟨wi,h1,h2⟩:=hi
 exact ⟨_,zO (g:=fun b=>(hg b).choose) (tt:=fun b=>(ht b).choose) (te:=fun b=>(he b).choose) hc ho hN hcs h1 (fun b=>⟨(hg b).choose_spec.1,(ht b).choose_spec.1,(he b).choose_spec.1⟩) (fun b=>(hg b).choose_spec.2.2.gk) hs,
  sB hx h2 (fun b=>(hg b).choose_spec.2.1) (fun b=>(ht b).choose_spec.2) (fun b=>(he b).choose_spec.2)⟩
theorem Q3 {N : List Str} (ho : X.env.scope = osc) (hN : X.N = N) (i : Nat) (ix : List (Option Nat)) (sb : En -> En) (hx : ∀ (HB : Hp) (σ : L2.St) (ρ : En) (H0 H : Hp), R.r HB H0 H σ ρ -> R'.r (fun _ => none) H0 H (F8 ix σ) (sb ρ)) {py spos : Pos} (hnd : X.N.Nodup) (hi : DI X R tg iter fi) (hg : ∀ b : CB, DGk (cxC X osc sc N' b) R' (RY ix) tg fg) (ht : ∀ b : CB, DTs (cxC X osc sc N' b) R' ifs ft) (he : ∀ b : CB, DE (cxC X osc sc N' b) R' elt fe)
 (hi':X.N[i]? = some y:=by rfl) (hy:X.env.scope.names.lookup y=some .local:=by rfl) (hsw:swapsWith (.ListComp elt [⟨tg,iter,ifs,0⟩] sc pos) (some (.Name y py)) spos.line X.env=pure true:=by rfl)
 (hcs:dD osc sc N N' ix=true:=by decide +kernel) (hc:X.calm=true:=by rfl)
 (hs:∀x,foldedSetIterable iter X.env x=pure x:=by intro _;rfl) (hsl:R.slot i:=by first | exact DJ | exact ⟨AD rfl,AD rfl⟩):DS X R (.Assign [.Name y py] (.ListComp elt [⟨tg,iter,ifs,0⟩] sc pos) spos) (mAsg i (mLC sb fi fg ft fe)):=by
 obtain ⟨wi,h1,h2⟩:=hi
 exact ⟨_,nM (g:=fun b=>(hg b).choose) (tt:=fun b=>(ht b).choose) (te:=fun b=>(he b).choose) hnd hi' hy hsw hc ho hN hcs h1 (fun b=>⟨(hg b).choose_spec.1,(ht b).choose_spec.1,(he b).choose_spec.1⟩) (fun b=>(hg b).choose_spec.2.2.gk) hs,
  oN hsl (sB hx h2 (fun b=>(hg b).choose_spec.2.1) (fun b=>(ht b).choose_spec.2) (fun b=>(he b).choose_spec.2))⟩
end
end Dm
namespace Dm
open PySem PySem.Spec L2 Tf
theorem LW {fg : PyData -> En -> Option En} {gb : En -> Option Out} {ds : List PyData} {ρ : En} (P : Nat -> En -> Prop) (h0 : P 0 ρ)
 (hs:∀(i:Nat) d ρ,ds[i]? = some d->P i ρ->∃ρ1,fg d ρ=some ρ1/\∃ρ2,(gb ρ1=some (.nx ρ2)\/gb ρ1=some (.ct ρ2))/\P (i+1) ρ2):∃ρ',JZ fg gb ds ρ=some (.nx ρ')/\P ds.length ρ':=by
 induction ds generalizing ρ P with
 | nil=>exact ⟨ρ,rfl,h0⟩
 | cons d ds ih=>
  obtain ⟨ρ1,h1,ρ2,h2,h3⟩:=hs 0 d ρ rfl h0;obtain ⟨ρ',h4,h5⟩:=ih (ρ:=ρ2) (fun i=>P (i+1)) h3 (fun i d' ρ hi hp=>hs (i+1) d' ρ (by simpa using hi) hp);refine ⟨ρ',?_,h5⟩;unfold JZ;rw [h1];show Option.bind (gb ρ1) _=_;rcases h2 with h2 | h2 <;> (rw [h2];exact h4)
theorem Y9 {fg : PyData -> En -> Option En} {gb : En -> Option Out} {lo : Int} {n : Nat} {ρ : En} (P : Nat -> En -> Prop) (h0 : P 0 ρ)
 (hs:∀(i:Nat) ρ,i<n->P i ρ->∃ρ1,fg (.int (lo+(i:Nat))) ρ=some ρ1/\∃ρ2,(gb ρ1=some (.nx ρ2)\/gb ρ1=some (.ct ρ2))/\P (i+1) ρ2):∃ρ',JZ fg gb (G8 lo n) ρ=some (.nx ρ')/\P n ρ':=by
 have h:=LW (fg:=fg) (gb:=gb) (ds:=G8 lo n) (ρ:=ρ) P h0 (fun i d ρ hi hp=>by
  rw [NB] at hi
  split at hi
  . rename_i hlt
    cases hi
    exact hs i ρ hlt hp
  . cases hi)
 have hl:(G8 lo n).length=n:=by simp [G8]
 rw [hl] at h
 exact h
theorem cR {fg : PyData -> En -> Option En} {gb : En -> Option Out} {lo : Int} {n : Nat} {ρ : En} (P : Nat -> En -> Prop) (Z : Out -> Prop) (h0 : P 0 ρ)
 (hs:∀(i:Nat) ρ,i<n->P i ρ->∃ρ1,fg (.int (lo+(i:Nat))) ρ=some ρ1/\((∃ρ2,gb ρ1=some (.nx ρ2)/\P (i+1) ρ2)\/∃r ρ2,gb ρ1=some (.rt r ρ2)/\Z (.rt r ρ2))):(∃ρ',JZ fg gb (G8 lo n) ρ=some (.nx ρ')/\P n ρ')\/∃o,JZ fg gb (G8 lo n) ρ=some o/\Z o:=by
 have gen:∀(k j:Nat) ρ,j+k=n->P j ρ->(∃ρ',JZ fg gb ((G8 lo n).drop j) ρ=some (.nx ρ')/\P n ρ')\/∃o,JZ fg gb ((G8 lo n).drop j) ρ=some o/\Z o:=by
  intro k
  induction k with
  | zero=>
   intro j ρ hj hp;have:j=n:=by omega
   subst this;rw [EB (by simp [G8])]
   exact .inl ⟨ρ,rfl,hp⟩
  | succ k ih=>
   intro j ρ hj hp;obtain ⟨ρ1,h1,h2⟩:=hs j ρ (by omega) hp;rw [LQ (d:= .int (lo+(j:Nat))) (by rw [NB,AN (by omega)]),h1];rcases h2 with ⟨ρ2,h3,h4⟩ | ⟨r,ρ2,h3,h4⟩
   . have:=ih (j+1) ρ2 (by omega) h4;simp only [BQ,h3];exact this
   . simp only [BQ,h3];exact .inr ⟨_,rfl,h4⟩
 have:=gen n 0 ρ (by omega) h0;simpa using this
theorem CA{α:Type}{f:PyData->Option (Option PyData)}{en:α->PyData}{g:α->PyData}:∀ {xs:List α},(∀x ∈ xs,f (en x)=some (some (g x)))->L5 f (xs.map en)=some (xs.map g)
 | [],_=>rfl
 | x::xs,h=>by
  rw [CT,L5,h x D8,CA (fun y hy=>h y (BV _ hy))];rfl
theorem IB{f:PyData->Option (Option PyData)}{g:Nat->PyData}{lo:Int}{n:Nat}(h:∀i,i<n->f (.int (lo+(i:Nat)))=some (some (g i))):L5 f (G8 lo n)=some ((List.range n).map g) :=
 CA (en:=fun i:Nat=>PyData.int (lo+(i:Nat))) fun i hi=>h i (C5.mp hi)
theorem TR {c : En -> Option Bool} {b : En -> Option Out} {ρ : En} (P : En -> Prop) (μ : En -> Nat) (h0 : P ρ)
 (hs:∀ρ,P ρ->c ρ=some false\/(c ρ=some true/\∃ρ',b ρ=some (.nx ρ')/\P ρ'/\μ ρ'<μ ρ)):∃ρ',J8 c b ρ=some (.nx ρ')/\P ρ'/\c ρ'=some false:=by
 have gen:∀(n:Nat) ρ,μ ρ<n->P ρ->∃ρ',FH c b n ρ=some (.nx ρ')/\P ρ'/\c ρ'=some false:=by
  intro n
  induction n with
  | zero=>intro ρ h;omega
  | succ n ih=>
   intro ρ hm hp;rcases hs ρ hp with h | ⟨h,ρ1,h1,h2,h3⟩
   . exact ⟨ρ,by simp [FH,h],hp,h⟩
   . obtain ⟨ρ',h4,h5⟩:=ih ρ1 (by omega) h2;exact ⟨ρ',by simp [FH,h,h1,h4],h5⟩
 obtain ⟨ρ',h1,h2⟩:=gen (μ ρ+1) ρ (by omega) h0;exact ⟨ρ',T4 h1,h2⟩
def Rts(g:En->Option Out)(ρ:En)(r:Sl):Prop:=∃ρ',g ρ=some (.rt r ρ')
theorem FC{f g:En->Option Out}{ρ ρ':En}{r:Sl}(h:f ρ=some (.nx ρ'))(k:Rts g ρ' r):Rts (mSeq f g) ρ r:=by
 obtain ⟨ρ2,k⟩:=k;exact ⟨ρ2,by unfold mSeq;rw [h];exact k⟩
theorem GF{f:En->Option Sl}{ρ:En}{r:Sl}(h:f ρ=some r):Rts (mRet f) ρ r:=⟨ρ,by unfold mRet;rw [h];rfl⟩
theorem FF{n k:Nat}{g:En->Option Out}{ds:List PyData}{ρ:En}{r:Sl}(hl:ds.length=k)(e:ds.map (fun d=>some (Sl.val d))++List.replicate (n - ds.length) none=ρ)(h:Rts g ρ r):F4 n g k ds=some r:=by
 obtain ⟨ρ',h⟩:=h;unfold F4;rw [if_pos hl,e,h];rfl
theorem FT{f g:En->Option Out}{ρ ρ':En}{o:Out}(h:f ρ=some (.nx ρ'))(k:g ρ'=some o):mSeq f g ρ=some o:=by
 unfold mSeq;rw [h];exact k
theorem XO{f g:En->Option Out}{ρ ρ':En}{r:Sl}(h:f ρ=some (.rt r ρ')):mSeq f g ρ=some (.rt r ρ'):=by
 unfold mSeq;rw [h];rfl
theorem PB{c:En->Option Bool}{f g:En->Option Out}{ρ:En}{o:Out}{b:Bool}(h:c ρ=some b)(k:(if b then f ρ else g ρ)=some o):mIf c f g ρ=some o:=by
 unfold mIf;rw [h];exact k
theorem EL{i:Nat}{f:En->Option Sl}{ρ:En}{r:Sl}(h:f ρ=some r):mAsg i f ρ=some (.nx (ρ.set i (some r))):=by
 unfold mAsg;rw [h];rfl
theorem jI{f:En->Option Sl}{ρ:En}{r:Sl}(h:f ρ=some r):mRet f ρ=some (.rt r ρ):=by
 unfold mRet;rw [h];rfl
theorem BF{F:List PyData->Option Sl}{f:En->Option (List PyData)}{ρ:En}{ds:List PyData}{r:Sl}(h:f ρ=some ds)(k:F ds=some r):mCall F f ρ=some r:=by
 unfold mCall;rw [h];exact k
theorem MW{fi:En->Option (List PyData)}{fg:PyData->En->Option En}{gb:En->Option Out}{ρ:En}{ds:List PyData}{o:Out}(h:fi ρ=some ds)(k:JZ fg gb ds ρ=some o):GB fi fg gb ρ=some o:=by
 unfold GB;rw [h];exact k
theorem EX{sb:En->En}{fi:En->Option (List PyData)}{fg:PyData->En->Option En}{ft:En->Option Bool}{fe:En->Option Sl}{ρ:En}{ds es:List PyData}(h:fi ρ=some ds)(hl:ds.length<sizeLine)(k:L5 (elM fg ft fe (sb ρ)) ds=some es):mLC sb fi fg ft fe ρ=some (.own es):=by
 unfold mLC;rw [h];show (if ds.length<sizeLine then _ else _)=_;rw [if_pos hl,k];rfl
theorem FM{i j:Int}(h:NS i j):dRep (.val (.int i)) (.val (.int j))=some (.val (.int (i*j))):=by
 unfold dRep r9 SI;simp only [if_pos h]
theorem PK{i j:Int}(h:fH i j):EF (.val (.int i)) (.val (.int j))=some (.val (.int (i.fdiv j))):=by
 unfold EF SI;simp only [if_pos h]
theorem M6{i j:Int}(h:j≠0):FJ (.val (.int i)) (.val (.int j))=some (.val (.int (i.fmod j))):=by
 unfold FJ SI;simp only [if_pos h]
theorem A14{i j:Int}(h:q5 i j):VT (.val (.int i)) (.val (.int j))=some (.val (.int (i ^ j.toNat))):=by
 unfold VT SI;simp only [if_pos h]
theorem IJ{f:En->Option (List Sl)}{ρ:En}{j:Nat}(h:f ρ=some [.val (.int j)])(hj:j<=1000):J0 f ρ=some (G8 0 j):=by
 have b:inB (j:Int):=by
  constructor
  . have : -(2 ^ 62:Int)<=0:=by decide
    omega
  . have:(1000:Int)<2 ^ 62:=by decide
    omega
 unfold J0;rw [h];show (if inB (j:Int) then some (G8 0 ((j:Int).toNat)) else none)=_;rw [if_pos b,Int.toNat_natCast]
theorem V7{f:En->Option (List Sl)}{ρ:En}{i j:Nat}(h:f ρ=some [.val (.int i), .val (.int j)])(hi:i<=1000)(hj:j<=1000):NT f ρ=some (G8 i (j - i)):=by
 have b:∀j:Nat,j<=1000->inB (j:Int):=by
  intro j hj
  constructor
  . have : -(2 ^ 62:Int)<=0:=by decide
    omega
  . have:(1000:Int)<2 ^ 62:=by decide
    omega
 unfold NT;rw [h];show (if inB (i:Int)/\inB (j:Int) then some (G8 i (((j:Int) - (i:Int)).toNat)) else none)=_;rw [if_pos ⟨b i hi,b j hj⟩,Int.toNat_sub]
theorem UJ:(200:Nat)<=sizeLine:=by decide
theorem eqD_int(i j:Int):eqD (.int i) (.int j)=some (decide (i=j)):=by
 have:PyData.eqv (.int i) (.int j)=decide (i=j):=by simp [PyData.eqv,Bool.beq_eq_decide_eq]
 unfold eqD;rw [if_pos ⟨rfl,rfl,by simp [PyData.depth]⟩,this]
def BL(q:Int×Int):PyData:= .tuple [.int q.1, .int q.2]
theorem WT{α:Type}{en:α->PyData}(h:∀x,(en x).canLay0=true):∀xs:List α,PyData.canLayAll0 (xs.map en)=true
 | []=>rfl
 | x::xs=>by rw [CT,PyData.canLayAll0,h x,WT h xs];rfl
theorem VJ{α:Type}{en:α->PyData}{k:Nat}(h:∀x,(en x).depth<=k):∀xs:List α,PyData.depthAll (xs.map en)<=k
 | []=>DZ _
 | x::xs=>by rw [CT,PyData.depthAll];exact Nat.max_le.mpr ⟨h x,VJ h xs⟩
theorem yA(q:Int×Int):(BL q).depth<=3:=by simp [BL,PyData.depth,PyData.depthAll]
theorem gX{d:PyData}(h:d.canLay0=true)(k:d.depth<=60):eqD d d=some true:=by
 unfold eqD;rw [if_pos ⟨h,h,by omega⟩,SeqAt.eqv_refl d h]
end Dm
namespace Dm
open PySem PySem.Spec PyProof.Rows L2 Tf
section
variable {X:Cx}
def wD(K:PySem.W.Frag)(neg:Bool):R2:=fun x y H Q=>∃p xs dx ds,y = .ref p/\(SqL K H p xs\/SqT K H p xs)/\Rep K H x dx/\Reps K H xs ds/\dx.canLay0=true/\(∀d ∈ ds,d.canLay0=true)/\dx.depth<=60/\Q (.bl (if neg then !(ds.any fun d=>PyData.eqv d dx) else ds.any fun d=>PyData.eqv d dx)) H
open Classical in
noncomputable def eqW(h:Heap)(ds:List PyData)(dx:PyData)(u:Value):Bool:=decide (∃d ∈ ds,(∃as,Reads h u d as)/\PyData.eqv d dx=true)
open Classical in
theorem S5{h:Heap}{ds:List PyData}{dx d:PyData}{u:Value}{as:List Addr}(hd:d ∈ ds)(hl:∀d ∈ ds,d.canLay0=true)(r:Reads h u d as):eqW h ds dx u=PyData.eqv d dx:=by
 unfold eqW
 by_cases e:PyData.eqv d dx=true
 . rw [e];exact ET ⟨d,hd,⟨as,r⟩,e⟩
 . rw [IU.mpr e];refine CC ?_;rintro ⟨d',hd',⟨as',r'⟩,e'⟩;rw [<-SeqAt.Reads.unique d d' u as as' (hl d hd) r r'] at e'
   exact e e'
theorem NQ{h:Heap}{dx:PyData}{all:List PyData}(hl:∀d ∈ all,d.canLay0=true):∀ {us:List Value} {ds:List PyData} {as:List Addr},ReadsAll h us ds as->(∀d ∈ ds,d ∈ all)->us.any (eqW h all dx)=ds.any fun d=>PyData.eqv d dx
 | _,_,_, .nil,_=>rfl
 | _,_,_, .cons r t,hs=>by
  rw [lS,lS,S5 (hs _ D8) hl r,NQ hl t fun d hd=>hs d (BV _ hd)]
theorem HN{h:Heap}:∀ {us:List Value} {ds:List PyData} {as:List Addr},ReadsAll h us ds as->∀u ∈ us,∃d ∈ ds,∃bs,Reads h u d bs
 | _,_,_, .nil,u,hu=>by cases hu
 | _,_,_, .cons r t,u,hu=>by
  rcases B8.mp hu with rfl | hu
  . exact ⟨_,D8,_,r⟩
  . obtain ⟨d,hd,q⟩:=HN t u hu;exact ⟨d,BV _ hd,q⟩
theorem M0(A:Around):A.in1.units=A.units+1:=rfl
theorem uN(hu:X.A.units+64<cLine):OpR X (compareOp .In) (wD X.K false):=by
 intro pins s σ H x y v u Q I rx ry h;obtain ⟨p,xs,dx,ds,rfl,hq,hx,hs,lx,ld,dp,q⟩:=h
 cases ry
 obtain ⟨bs,r2⟩:=hx.reads I rx lx;rcases hq with hq | hq
 . obtain ⟨its,r,pl,hz⟩:=I.list hq;obtain ⟨as,ra⟩:=Reps.reads I hs r (JY ld);refine SeqAt.in_listAt (eqW s.heap ds dx) pl.isList (fun w hw=> ?_) ⟨.bl _,H,I,rfl,?_⟩
   . obtain ⟨d,hd,cs,rd⟩:=HN ra w (by simpa using hw);rw [S5 hd ld rd];exact QB d dx _ _ _ _ _ _ rd r2 (ld d hd) lx (by have:=M0 X.A;omega)
   . rw [show its.toArray.any (eqW s.heap ds dx)=its.any (eqW s.heap ds dx) by simp,NQ ld ra fun _ h=>h];exact q
 . obtain ⟨its,r,pl,hz⟩:=I.tuple hq;obtain ⟨as,ra⟩:=Reps.reads I hs r (JY ld);refine SeqAt.in_tupleAt (eqW s.heap ds dx) pl (fun w hw=> ?_) ⟨.bl _,H,I,rfl,?_⟩
   . obtain ⟨d,hd,cs,rd⟩:=HN ra w (by simpa using hw);rw [S5 hd ld rd];exact QB d dx _ _ _ _ _ _ rd r2 (ld d hd) lx (by have:=M0 X.A;omega)
   . rw [show its.toArray.any (eqW s.heap ds dx)=its.any (eqW s.heap ds dx) by simp,NQ ld ra fun _ h=>h];exact q
theorem cL(hu:X.A.units+64<cLine):OpR X (compareOp .NotIn) (wD X.K true):=by
 intro pins s σ H x y v u Q I rx ry h;obtain ⟨p,xs,dx,ds,rfl,hq,hx,hs,lx,ld,dp,q⟩:=h
 cases ry
 obtain ⟨bs,r2⟩:=hx.reads I rx lx;rcases hq with hq | hq
 . obtain ⟨its,r,pl,hz⟩:=I.list hq;obtain ⟨as,ra⟩:=Reps.reads I hs r (JY ld);refine SeqAt.notIn_listAt (eqW s.heap ds dx) pl.isList (fun w hw=> ?_) ⟨.bl _,H,I,rfl,?_⟩
   . obtain ⟨d,hd,cs,rd⟩:=HN ra w (by simpa using hw);rw [S5 hd ld rd];exact QB d dx _ _ _ _ _ _ rd r2 (ld d hd) lx (by have:=M0 X.A;omega)
   . rw [show its.toArray.any (eqW s.heap ds dx)=its.any (eqW s.heap ds dx) by simp,NQ ld ra fun _ h=>h];exact q
 . obtain ⟨its,r,pl,hz⟩:=I.tuple hq;obtain ⟨as,ra⟩:=Reps.reads I hs r (JY ld);refine SeqAt.notIn_tupleAt (eqW s.heap ds dx) pl (fun w hw=> ?_) ⟨.bl _,H,I,rfl,?_⟩
   . obtain ⟨d,hd,cs,rd⟩:=HN ra w (by simpa using hw);rw [S5 hd ld rd];exact QB d dx _ _ _ _ _ _ rd r2 (ld d hd) lx (by have:=M0 X.A;omega)
   . rw [show its.toArray.any (eqW s.heap ds dx)=its.any (eqW s.heap ds dx) by simp,NQ ld ra fun _ h=>h];exact q
def inD(neg:Bool)(dx:PyData)(ds:List PyData):Option Sl:=if dx.canLay0=true/\(ds.all fun d=>d.canLay0)=true/\dx.depth<=60 then some (.val (.bool (if neg then !(ds.any fun d=>PyData.eqv d dx) else ds.any fun d=>PyData.eqv d dx))) else none
def SA(neg:Bool)(a b:Sl):Option Sl:=match b.dat with
 | .list ds=>inD neg a.dat ds
 | .tuple ds=>inD neg a.dat ds
 | _=>none
theorem cA{K:PySem.W.Frag}{neg:Bool}:OpD K (wD K neg) (SA neg):=fun H0 H x y sx sy z s px py hz Q q=>by
 unfold SA at hz
 split at hz
 . rename_i ds hd;unfold inD at hz
   split at hz
   . rename_i hc
     cases hz
     obtain ⟨a,vs,rfl,h1,h2⟩:=py.lst s hd;exact ⟨a,vs,_,ds,rfl, .inl h1,px.rep s,Reps.same s h2,hc.1,fun d hd=>FP.mp hc.2.1 d hd,hc.2.2,q _ _ _ (Ext.refl s) (.bool _)⟩
   . cases hz
 . rename_i ds hd;unfold inD at hz
   split at hz
   . rename_i hc
     cases hz
     obtain ⟨a,vs,rfl,h1,h2⟩:=py.tup hd;exact ⟨a,vs,_,ds,rfl, .inr (s.seqT h1),px.rep s,Reps.same s h2,hc.1,fun d hd=>FP.mp hc.2.1 d hd,hc.2.2,q _ _ _ (Ext.refl s) (.bool _)⟩
   . cases hz
 . cases hz
variable {R:Rl} [RelOk X.K R] {a b e:Expr} {pos p:Pos} {fa fb f:En->Option Sl}
theorem wR(hu:X.A.units+64<cLine)(ha:DP X R a fa)(hb:DP X R b fb)(hm:behindInMarks .In b=false:=by with_unfolding_all rfl):DT X R (.Compare a [.In] [b] pos) (mTest (mBin (SA false) fa fb)):=LC (uN hu) cA ha hb hm
theorem eJ(hu:X.A.units+64<cLine)(ha:DP X R a fa)(hb:DP X R b fb)(hm:behindInMarks .NotIn b=false:=by with_unfolding_all rfl):DT X R (.Compare a [.NotIn] [b] pos) (mTest (mBin (SA true) fa fb)):=LC (cL hu) cA ha hb hm
end
end Dm
namespace Tf
open PySem PySem.Spec PyProof.Rows L2
variable {X:Cx}
end Tf
namespace Tf
open PySem PySem.Spec PyProof.Rows L2
def BM(h:Heap)(mg:Str->Option Value):Prop:=∃bm o,mg "__builtins__" = some (.ref bm)/\bm≠builtinsNs/\h.get? bm=some o/\o.cls = .type "module" /\ o.dict=some builtinsNs/\o.data = .plain
def yM(f:Addr)(fo:Obj):HO:= .ext fun h=>h.get? f=some fo
structure Made (H H':Hp) (f c:Addr) (oc fo:Obj):Prop where
 same:∃H1,(H1=H\/(H c=none/\H1=upd H c (.frz oc (.own 0))))/\H1 f=none/\H'=upd H1 f (yM f fo)
 code:H' c=some (.frz oc (.own 0))
 fn:H' f=some (yM f fo)
 rec_:∃vs x,oc.data = .fields vs/\vs[1]? = some x
variable {X:Cx}
end Tf
namespace Tf
open PySem PySem.Spec PyProof.Rows L2
structure LB where
 q:Str
 f:Addr
 cd:Value
 s:Shared
 H:Hp
structure LamSc (X:Cx) (sc:Scope) (cl:List (Str×Addr)) (x:Str) (ys:List Str):Prop where
 kind:sc.kind = .function
 co:sc.isCoroutine=false
 gen:sc.isGenerator=false
 par:sc.names.lookup x=some .local
 nocell:∀y ∈ sc.names,y.2 ≠ .cell
 free:∀y,sc.names.lookup y=some .free->y ∈ ys
 fr:∀y ∈ ys,sc.names.lookup y=some .free
 cells:∀y c,cl.lookup y=some c->X.env.cells.lookup y=some c
 has:∀y ∈ ys,∃c,cl.lookup y=some c
 out:∀y ∈ ys,X.env.scope.names.lookup y=some .cell
variable {X:Cx}
end Tf
namespace Dm
open PySem PySem.Spec PyProof.Rows L2 Tf
section
variable {X:Cx} {a:Expr} {ta:TE} {p1 p2 pos pos2:Pos}
end
section
variable {K:PySem.W.Frag} {R:Rl} [RelOk K R]
end
section
variable {X:Cx} {R:Rl} [RelOk X.K R] {a:Expr} {p1 p2 pos pos2:Pos} {fa:En->Option Sl}
end
end Dm
namespace Tf
open PySem PySem.Spec PyProof.Rows L2
variable {X:Cx}
end Tf
namespace Dm
open PySem PySem.Spec PyProof.Rows L2 Tf
section
variable {K:PySem.W.Frag} {R:Rl} [RelOk K R]
end
section
variable {X:Cx} {R:Rl} [RelOk X.K R]
end
end Dm
namespace Tf
open PySem PySem.Spec PyProof.Rows L2
variable {X:Cx}
end Tf
namespace Dm
open PySem PySem.Spec PyProof.Rows L2 Tf
section
variable {K:PySem.W.Frag}
end
end Dm
namespace Tf
open PySem PySem.Spec PyProof.Rows L2
variable {X:Cx}
end Tf
namespace Dm
open PySem PySem.Spec PyProof.Rows L2 Tf
section
variable {K:PySem.W.Frag}
end
end Dm
namespace Dm
open PySem PySem.Spec PyProof.Rows L2 Tf
section
variable {K:PySem.W.Frag} {R:Rl} [RelOk K R]
end
section
variable {X:Cx} {R:Rl} [RelOk X.K R] {a b e o:Expr} {f fa fb:En->Option Sl} {p pos apos cpos:Pos} {st:Stmt}
end
end Dm
namespace Tf
open PySem PySem.Spec PyProof.Rows L2
def sA(ts:List Addr):Obj:={cls:= .type "tables",data:= .fields (ts.map Value.ref).toArray}
def JU(K:PySem.W.Frag)(ts:List Addr):PySem.W.Frag:=K.filter (fun p=>decide (p.1 ∉ ts)) ++ [(mainGlobals,sA ts)]
def tbK(names:List Str)(K:PySem.W.Frag):List (Addr×Addr):=names.filterMap (PySem.W.tabIn K)
theorem XX(K:PySem.W.Frag)(ts:List Addr):RH (JU K ts)=ts:=by
 have e:(JU K ts).getLast? = some (mainGlobals,sA ts):=by unfold JU;simp
 unfold RH;rw [e];show ((ts.map Value.ref).toArray.toList.filterMap _)=ts;rw [List.toList_toArray,List.filterMap_map];exact List.filterMap_some
theorem KZ{ts:List Addr}{a:Addr}(h:a ∉ ts):∀K:PySem.W.Frag,List.lookup a (K.filter fun p=>decide (p.1 ∉ ts))=List.lookup a K
 | []=>rfl
 | (b,o)::K=>by
  have ih:=KZ h K;rw [List.filter_cons]
  by_cases hb:b ∈ ts
  . have ne : (a == b) = false := by
     refine IU.mpr fun z=> ?_;have:=EH.mp z;exact h (this ▸ hb)
    rw [AR (by simp [hb]),ih,List.lookup,ne]
  . rw [AN (by simp [hb]),List.lookup,List.lookup]
    cases a==b
    . exact ih
    . rfl
theorem T6{ts:List Addr}{a:Addr}(h:a ∈ ts):∀K:PySem.W.Frag,List.lookup a (K.filter fun p=>decide (p.1 ∉ ts))=none
 | []=>rfl
 | (b,o)::K=>by
  have ih:=T6 h K;rw [List.filter_cons]
  by_cases hb:b ∈ ts
  . rw [AR (by simp [hb]),ih]
  . rw [AN (by simp [hb]),List.lookup]
    have ne:(a==b)=false:=by
     refine IU.mpr fun z=> ?_;have:=EH.mp z;exact hb (this ▸ h)
    rw [ne];exact ih
theorem HZ{K:PySem.W.Frag}{ts:List Addr}{a:Addr}{o:Obj}(h:a ∉ ts)(e:K.lookup a=some o):(JU K ts).lookup a=some o:=by
 unfold JU;rw [List.lookup_append,KZ h,e];rfl
theorem uL{K:PySem.W.Frag}{ts:List Addr}{a:Addr}{o:Obj}(hm:∃o,K.lookup mainGlobals=some o)(hn:mainGlobals ∉ ts)(e:(JU K ts).lookup a=some o):K.lookup a=some o/\a ∉ ts:=by
 unfold JU at e
 rw [List.lookup_append] at e
 by_cases ha:a ∈ ts
 . rw [T6 ha] at e
   have ne:(a==mainGlobals)=false:=by
    refine IU.mpr fun z=> ?_;have:=EH.mp z;exact hn (this ▸ ha)
   simp [List.lookup,ne] at e
 . refine ⟨?_,ha⟩;rw [KZ ha] at e
   by_cases hg:a=mainGlobals
   . subst hg;obtain ⟨o',ho'⟩:=hm;rw [ho'] at e
     simpa [ho'] using e
   . have ne:(a==mainGlobals)=false:=IU.mpr fun z=>hg (EH.mp z)
     cases hk:K.lookup a with
     | none=>rw [hk] at e;simp [List.lookup,ne] at e
     | some o'=>rw [hk] at e;simpa using e
theorem NK{K:PySem.W.Frag}{h:Heap}{ts:List Addr}{a:Addr}{o:Obj}(KX:K.In h)(hT:∀p ∈ ts,h.get? p=some (PySem.W.tabObj #[]))(e:K.lookup a=some o)(hne:o≠PySem.W.tabObj #[]):a ∉ ts:=fun hm=>by
 have e1:=KX a o e;rw [hT a hm] at e1
 exact hne (AY e1).symm
theorem BY{K:PySem.W.Frag}{h:Heap}{ts:List Addr}{x qual:Str}{st:Stmt}{f:Addr}{fd:FuncData}(KX:K.In h)(hT:∀p ∈ ts,h.get? p=some (PySem.W.tabObj #[]))(F:Fun K x qual st f fd):Fun (JU K ts) x qual st f fd:=by
 obtain ⟨oc,od,kV,doc,pm,an,cdv,ct,osl,rfl,lk,hcd⟩:=F.ex;have l2:=HZ (NK KX hT lk (fun z=>by cases z)) lk;refine ⟨⟨oc,od,kV,doc,pm,an,cdv,ct,osl,rfl,l2,?_⟩,?_⟩
 . unfold PySem.W.codeIn at hcd ⊢
   split at hcd
   . rename_i c
     split at hcd
     . rename_i oc' od' vs sl' hc
       have hne:(⟨oc',od', .fields vs,sl'⟩:Obj)≠PySem.W.tabObj #[]:=fun z=>by
        cases z
        simp at hcd
       rw [HZ (NK KX hT hc hne) hc];exact hcd
     . cases hcd
   . cases hcd
 . unfold PySem.W.keepIn
   dsimp only
   rw [l2]
theorem cW {P : Program} {w : World} {K : PySem.W.Frag} {mg mb : Str -> Option Value} {k : Nat} {fa a : Addr} {fd : FuncData} {x : Str} {sp : Sp} {s₁ : Shared} {vs : List Value} {ns : List Int} {tb : List (Addr × Addr)}
 (KX:K.In s₁.heap) (hmain:∃o,K.lookup mainGlobals=some o) (hns:s₁.heap.Ns mainGlobals mg) (hb:s₁.heap.Ns builtinsNs mb) (hbb:∀x:Str,x ≠ "__name__" -> mb x=bootBuiltins x) (hlim:s₁.heap.NoLimit) (hg:s₁.gens = #[])
 (ha:s₁.heap.get? a=some {cls:= .type "list",data:= .seq vs.toArray}) (hi:IntsAre vs ns) (hl:ns.length<=sizeLine) (hr:Room k callerA)
 (hT:∀p ∈ tb,PySem.W.CodeHd s₁.heap p.1 p.2/\s₁.heap.get? p.2=some (PySem.W.tabObj #[])) (hbm:BM s₁.heap mg)
 (F:∀base:Heap,(JU K (tb.map (·.2))).In base->base.Ns mainGlobals mg->(∀p ∈ tb,PySem.W.CodeHd base p.1 p.2)->BM base mg->FnOk P w (JU K (tb.map (·.2))) mg base CX0 k fa fd [x] sp) (hbind:∀(s:Shared) (u:Value),BindsTo s fd ⟨[u],[]⟩ [(x,u)])
 (hsp:∀H:Hp,SqL (JU K (tb.map (·.2))) H a (ns.map V.int)->sp [.ref a] H (fun v _=>v = .bl true) fun _ _ _=>False) :
 codeAny (model P w) callerA (.call (.ref fa) ⟨[.ref a],[]⟩) (fun r s'=>r = .ok (.ret (.bool true))/\OldK s₁.heap s'.heap/\s'.os=s₁.os/\AllBare s'.gens) s₁:=by
 have rv:=TZ hi;have lenV:=hi.length
 let ts:=tb.map (·.2)
 have hts:∀p ∈ ts,s₁.heap.get? p=some (PySem.W.tabObj #[]):=fun p hp=>by
  obtain ⟨q,hq,rfl⟩:=CW.mp hp;exact (hT q hq).2
 have nts:∀ {b:Addr} {o:Obj},s₁.heap.get? b=some o->o≠PySem.W.tabObj #[]->b ∉ ts:=fun {b o} e n hm=>by
  rw [hts b hm] at e
  exact n (AY e).symm
 have hat:a ∉ ts:=nts ha fun z=>by cases z
 have hmt:mainGlobals ∉ ts:=by
  obtain ⟨o,es,ep,e,d,_⟩:=hns;exact nts e fun z=>by rw [z] at d;cases d
 let ao:Obj:={cls:= .type "list",data:= .seq vs.toArray}
 let H:Hp:=fun b=>if b ∈ ts then some (.tbl #[]) else if b=a/\K.lookup a=none then some (.frz ao (.lst (ns.map V.int))) else none
 have Ht:∀ {b:Addr},b ∈ ts->H b=some (.tbl #[]):=fun {b} hm=>AN hm
 have Hc:∀b,(b ∈ ts/\H b=some (.tbl #[]))\/(b=a/\K.lookup a=none/\H b=some (.frz ao (.lst (ns.map V.int))))\/(H b=none/\b ∉ ts/\(b=a->K.lookup a≠none)):=fun b=>by
  by_cases h1:b ∈ ts
  . exact .inl ⟨h1,Ht h1⟩
  . by_cases h2:b=a/\K.lookup a=none
    . exact .inr (.inl ⟨h2.1,h2.2,(AR h1).trans (AN h2)⟩)
    . exact .inr (.inr ⟨(AR h1).trans (AR h2),h1,fun z c=>h2 ⟨z,c⟩⟩)
 have hok:HOk P w H s₁.heap:=fun b u e=>by
  rcases Hc b with ⟨h1,h2⟩ | ⟨rfl,h1,h2⟩ | ⟨h1,_,_⟩
  . rw [h2] at e
    cases e
    exact ⟨#[],hts b h1,DJ,fun pos v z=>by simp [codeAmong] at z⟩
  . rw [h2] at e
    cases e
    exact ⟨ha,by rw [A4];exact hl,vs,_,rv,ha⟩
  . rw [h1] at e
    cases e
 have free:∀ {b:Addr} {o:Obj},s₁.heap.get? b=some o->o≠PySem.W.tabObj #[]->o≠ao->H b=none:=fun {b o} e n1 n2=>by
  rcases Hc b with ⟨h1,_⟩ | ⟨rfl,_,_⟩ | ⟨h1,_,_⟩
  . exact absurd h1 (nts e n1)
  . rw [ha] at e
    exact absurd (AY e).symm n2
  . exact h1
 have base_of:∀ {b:Addr} {o:Obj},s₁.heap.get? b=some o->H b=none->(S8 s₁.heap H).get? b=some o:=fun e n=>lD e n;have nsK:∀ {b:Addr} {m:Str->Option Value},s₁.heap.Ns b m->(S8 s₁.heap H).Ns b m:=fun {b m} ⟨o,es,ep,e,d,r⟩=>⟨o,es,ep,base_of e (free e (fun z=>by rw [z] at d;cases d) (fun z=>by rw [z] at d;cases d)),d,r⟩
 have hKb:(JU K ts).In (S8 s₁.heap H):=fun b o e=>by
  obtain ⟨e1,e2⟩:=uL hmain hmt e;refine base_of (KX b o e1) ?_;rcases Hc b with ⟨h1,_⟩ | ⟨rfl,h1,_⟩ | ⟨h1,_,_⟩
  . exact absurd h1 e2
  . rw [h1] at e1;cases e1
  . exact h1
 have hM:Mod (JU K ts) mg (S8 s₁.heap H):=⟨hKb,nsK hns,⟨mb,nsK hb,hbb⟩,let ⟨mc,h1,h2⟩:=hlim;⟨mc,nsK h1,h2⟩⟩
 have hCb:∀p ∈ tb,PySem.W.CodeHd (S8 s₁.heap H) p.1 p.2:=fun p hp=>by
  obtain ⟨o,vs',file,tf,flags,tg,inF,text,tt,e,c,r⟩:=(hT p hp).1;exact ⟨o,vs',file,tf,flags,tg,inF,text,tt,base_of e (free e (fun z=>by rw [z] at c;cases c) (fun z=>by rw [z] at c;exact absurd (Value.type.inj c) (by decide))),c,r⟩
 have hBb:BM (S8 s₁.heap H) mg:=by
  obtain ⟨b,ob,b1,b2,b3,b4,b5,b6⟩:=hbm;exact ⟨b,ob,b1,b2,base_of b3 (free b3 (fun z=>by rw [z] at b4;cases b4) (fun z=>by rw [z] at b4;exact absurd (Value.type.inj b4) (by decide))),b4,b5,b6⟩
 have e0:Env0 P w (JU K ts) mg (S8 s₁.heap H) callerA [] s₁ H:=⟨rfl,hM,fun b o e=>pK e,sE (cK _ _),trivial,fun b hb=>absurd (show b ∈ ([]:List Addr) from hb) (by simp),hok, .of_eq hg,fun p hp=>by rw [XX] at hp;exact ⟨_,Ht hp⟩⟩
 have hS:SqL (JU K ts) H a (ns.map V.int):=by
  cases hk:K.lookup a with
  | some o=>
   have e:=KX a o hk;rw [ha] at e
   cases e
   exact .inr ⟨_,vs.toArray,_,HZ hat hk,rfl,rfl,rfl,by rw [AU,lenV];exact hl,by simpa using rv⟩
  | none=>exact .inl (.inr ⟨ao,(AR hat).trans (AN ⟨rfl,hk⟩)⟩)
 refine fC ((F _ hKb (nsK hns) hCb hBb).run callerA [] s₁ H ⟨[.ref a],[]⟩ [.ref a] [.ref a] _ _ hr e0 (hbind s₁ (.ref a)) (.cons rfl .nil) (hsp H hS)) fun r s' h=> ?_
 cases r with
 | error e=>exact False.elim h
 | ok fl=>
  cases fl with
  | next=>exact False.elim h
  | brk=>exact False.elim h
  | cont=>exact False.elim h
  | ret u=>
   obtain ⟨v,H',os,bare,un,hok',r',q⟩:=h;have q':v = .bl true:=q;subst q';obtain rfl:u=Value.bool true:=r'
   have grown:∀ {b:Addr},b ∈ ts->∃qs,s'.heap.get? b=some (PySem.W.tabObj qs):=fun {b} hm=>by
    obtain ⟨more,e⟩:=un.tbls b _ (Ht hm);obtain ⟨qs,e1,_⟩:=hok' b _ e;exact ⟨qs,e1⟩
   have keep:∀ {b:Addr} {o:Obj},b ∉ ts->s₁.heap.get? b=some o->s'.heap.get? b=some o:=fun {b o} hb' e=>by
    rcases Hc b with ⟨h1,_⟩ | ⟨rfl,_,h2⟩ | ⟨h1,_,_⟩
    . exact absurd h1 hb'
    . have z2:=un.frzs _ _ _ h2;obtain ⟨e2,_⟩:=hok' _ _ z2;rw [ha] at e
      cases e
      exact e2
    . exact un.keep b o e h1 (by intro z;exact absurd (show b ∈ ([]:List Addr) from z) (by simp)) (by simp)
   refine ⟨rfl,⟨fun b o e=> ?_,fun b o e=> ?_⟩,os,bare⟩
   . by_cases hm:b ∈ ts
     . obtain ⟨q,hq,rfl⟩:=CW.mp hm;obtain ⟨qs,e1⟩:=grown hm;rw [hts _ hm] at e
       cases e
       exact .inr (.inl ⟨((hT q hq).1.tab (hT q hq).2).isCodeTable,rfl, #[],qs,rfl,by rw [Array.empty_append];exact e1⟩)
     . exact .inl (keep hm e)
   . by_cases hm:b ∈ ts
     . obtain ⟨qs,e1⟩:=grown hm;exact ⟨_,e1⟩
     . exact ⟨o,keep hm e⟩
theorem gL {l : PySem.W.OpenLaw} {n k : Nat} {q : Program} {loose : List Str} {XP : (Str -> Option Value) -> Heap -> Prop} {YP : World -> Heap -> Prop} {d : DefRec} {K : Params -> PySem.W.Frag} {names : List Str} {sp : PySem.W.Frag -> Sp} {x : Str}
 (hn:l.most=some n) (hn2:n<=sizeLine) (hdf:d.params.defaults = []) (hr:Room k callerA)
 (hY:∀(w:World) (h:Heap),YP w h->(K w.params).In h)
 (hrec:∀y ∈ names,∃e,(recsOf q).find? (fun e=>e.name==y)=some e)
 (F:∀(w:World) (mg:Str->Option Value) (fa:Addr) (h:Heap),(K w.params).In h->h.Ns mainGlobals mg->mg d.name=some (.ref fa)->(∀p ∈ (tbK names (K w.params)).map (·.2),h.get? p=some (PySem.W.tabObj #[])) ->
  (∃o,(K w.params).lookup mainGlobals=some o)/\∃fd:FuncData,(∀(s:Shared) (u:Value),BindsTo s fd ⟨[u],[]⟩ [(x,u)]) /\
   ∀base:Heap,(JU (K w.params) ((tbK names (K w.params)).map (·.2))).In base->base.Ns mainGlobals mg->(∀p ∈ tbK names (K w.params),PySem.W.CodeHd base p.1 p.2)->BM base mg->FnOk l.prog w (JU (K w.params) ((tbK names (K w.params)).map (·.2))) mg base CX0 k fa fd [x] (sp (JU (K w.params) ((tbK names (K w.params)).map (·.2)))))
 (hsp:∀(K:PySem.W.Frag) (H:Hp) (a:Addr) (ns:List Int),ns.length<=n->SqL K H a (ns.map V.int)->sp K [.ref a] H (fun v _=>v = .bl true) fun _ _ _=>False) :
 PySem.W.WalkO q loose XP YP l.row.toRowW d [] (fun f vs=>PySem.call f vs):=by
 refine Att.attach_call hn hdf fun w s₀ s₁ mg mb fa o pm cd doc a vs ns G Y ho hd hcd hmg hobj hints hlen hg=> ?_;have KX:=hY w _ Y
 have hT:∀p ∈ tbK names (K w.params),PySem.W.CodeHd s₁.heap p.1 p.2/\s₁.heap.get? p.2=some (PySem.W.tabObj #[]):=fun p hp=>by
  obtain ⟨y,hy,e⟩:=KN.mp hp;obtain ⟨e',he'⟩:=hrec y hy;exact PySem.W.tab_of G.T KX he' e
 obtain ⟨hmain,fd,hb,hF⟩:=F w mg fa _ KX G.T.g hmg fun p hp=>by
  obtain ⟨r,hr',rfl⟩:=CW.mp hp;exact (hT r hr').2
 obtain ⟨bm,ob,b1,b2,b3,b4⟩:=G.T.bmain;exact cW KX hmain G.T.g G.T.b G.T.builtins G.T.nolimit hg hobj hints (BG hlen hn2) hr hT ⟨bm,ob,b1,b2,b3,b4⟩ hF hb fun H hS=>hsp _ H a ns hlen hS
theorem mQ{K:PySem.W.Frag}{x:Str}{v:Option Value}(h:PySem.W.nsIn K mainGlobals x=some v):∃o,K.lookup mainGlobals=some o:=by
 unfold PySem.W.nsIn at h
 cases e:K.lookup mainGlobals with
 | none=>rw [e] at h;simp at h
 | some o=>exact ⟨o,rfl⟩
end Tf
namespace Dm
open PySem PySem.Spec PyProof.Rows L2 Tf
section
variable {K:PySem.W.Frag} {P:Program} {w:World} {mg:Str->Option Value} {base:Heap}
end
end Dm
namespace Dm
open PySem PySem.Spec PyProof.Rows L2 Tf
def cnt:L2.St->Nat
 | []=>0
 | none::r=>cnt r
 | some _::r=>cnt r+1
theorem YZ:∀l:L2.St,cnt l<=l.length
 | []=>AA _
 | none::r=>A31 (YZ r)
 | some _::r=>Nat.succ_le_succ (YZ r)
theorem X9:∀ {l:L2.St} {j:Nat} {u v:V},l[j]? = some (some u)->cnt (l.set j (some v))=cnt l
 | [],_,_,_,h=>by simp at h
 | o::r,0,u,v,h=>by simp at h;subst h;rfl
 | o::r,j+1,u,v,h=>by
  have:=X9 (l:=r) (j:=j) (u:=u) (v:=v) (by simpa using h)
  cases o <;> simp [cnt,this]
theorem X0:∀ {l:L2.St} {j:Nat} {v:V},l[j]? = some none->cnt (l.set j (some v))=cnt l+1
 | [],_,_,h=>by simp at h
 | o::r,0,v,h=>by simp at h;subst h;rfl
 | o::r,j+1,v,h=>by
  have:=X0 (l:=r) (j:=j) (v:=v) (by simpa using h)
  cases o <;> simp [cnt,this]
structure OA (C:Addr) (names:List Str) (HB H0 H:Hp) (p:Addr) (vals:L2.St):Prop where
 hp:HB p=none
 h0p:H0 p=none
 len:vals.length=names.length
 ins:∃dx fs,H p=some (.ins C dx fs)/\fs.length<=cnt vals/\(∀(j:Nat) f,names[j]? = some f->fs.lookup f=(vals[j]?).join)/\∀f,f ∉ names->fs.lookup f=none
section
variable {K:PySem.W.Frag} {C:Addr} {names:List Str}
theorem OA.ext{HB H0 H H0' H':Hp}{p:Addr}{vals:L2.St}(x:Ext H0 H H0' H')(o:OA C names HB H0 H p vals):OA C names HB H0' H' p vals:=by
 obtain ⟨dx,fs,h1,h2⟩:=o.ins;exact ⟨o.hp,x.own p _ h1 trivial o.h0p,o.len,dx,fs,x.s _ _ h1,h2⟩
theorem OA.other{HB H0 H:Hp}{p a:Addr}{vals:L2.St}{vs:List V}{u:HO}(o:OA C names HB H0 H p vals)(h:H a=some (.lst vs)):OA C names HB H0 (upd H a u) p vals:=by
 obtain ⟨dx,fs,h1,h2⟩:=o.ins;have hne:p≠a:=by rintro rfl;rw [h1] at h;cases h
 exact ⟨o.hp,o.h0p,o.len,dx,fs,by rw [BP hne];exact h1,h2⟩
theorem OA.frz{HB H0 H:Hp}{p a:Addr}{vals:L2.St}{vs:List V}{u:HO}(o:OA C names HB H0 H p vals)(h:H a=some (.lst vs)):OA C names HB (upd H0 a u) H p vals:=by
 obtain ⟨dx,fs,h1,h2⟩:=o.ins;have hne:p≠a:=by rintro rfl;rw [h1] at h;cases h
 exact ⟨o.hp,by rw [BP hne];exact o.h0p,o.len,dx,fs,h1,h2⟩
theorem OA.base{HB HB' H0 H:Hp}{p:Addr}{vals:L2.St}(s:Same HB HB')(o:OA C names HB' H0 H p vals):OA C names HB H0 H p vals:=⟨s.free o.hp,o.h0p,o.len,o.ins⟩
theorem ER.base{HB HB' H0 H:Hp}{σ:L2.St}{ρ:En}(s:Same HB HB')(e:ER K HB' H0 H σ ρ):ER K HB H0 H σ ρ:=
 ⟨e.len,fun i r h=>by obtain ⟨v,h1,h2⟩:=e.get i r h;exact ⟨v,h1,h2.base s⟩,e.apart⟩
theorem ER.updO{HB H0 H:Hp}{σ:L2.St}{ρ:En}{p:Addr}{o:HO}(e:ER K HB H0 H σ ρ)(hp:∀vs,H p≠some (.lst vs))(hd:∀t,H p≠some (.ext t)):ER K HB H0 (upd H p o) σ ρ:=
 ⟨e.len,fun i r h=>by
  obtain ⟨v,h1,h2⟩:=e.get i r h;refine ⟨v,h1,?_⟩
  cases r with
  | val d=>exact h2
  | own ds=>
   obtain ⟨a,vs,rfl,q1,q2,q3,q4⟩:=h2
   exact ⟨a,vs,rfl,q1,q2,by rw [BP (by rintro rfl;exact hp _ q3)];exact q3,q4⟩
  | dct ds=>
   obtain ⟨a,vs,rfl,q1,q2,q3,q4⟩:=h2;exact ⟨a,vs,rfl,q1,q2,by rw [BP (by rintro rfl;exact hd _ q3)];exact q3,q4⟩,e.apart⟩
structure OD where
 C:Addr
 names:List Str
 s:Nat
 n:Nat
 p:Addr
def FR(K:PySem.W.Frag)(od:OD):Rl:=
 ⟨fun HB H0 H σ ρ=>σ.length=od.n/\∃p vals,p=od.p/\σ[od.s]? = some (some (.ref p))/\OA od.C od.names HB H0 H p vals/\ER K HB H0 H (σ++vals) ρ,fun i=>i≠od.s/\i<od.n⟩
theorem ZI{σ vals:L2.St}{i:Nat}{v:Option V}(h:i<σ.length):(σ++vals).set i v=σ.set i v++vals:=by
 rw [List.set_append_left _ _ h]
theorem fY{σ vals:L2.St}{j:Nat}{v:Option V}:(σ++vals).set (σ.length+j) v=σ++vals.set j v:=by
 rw [List.set_append_right _ _ (D2 _ _),CY]
instance relOk_FR {od:OD}:RelOk K (FR K od) where
 ext:=fun x ⟨h1,p,vals,hpp,h2,h3,h4⟩=>⟨h1,p,vals,hpp,h2,h3.ext x,h4.ext x⟩
 get:=fun ⟨h1,p,vals,hpp,h2,h3,h4⟩ hs h=>by
  obtain ⟨v,e1,e2⟩:=h4.get _ _ h;rw [A9 (by rw [h1];exact hs.2)] at e1
  exact ⟨v,e1,e2⟩
 set:=fun {HB H0 H H0' H' σ ρ i v s} ⟨h1,p,vals,hpp,h2,h3,h4⟩ hs x sb h=>by
  refine ⟨by rw [DX];exact h1,p,vals,hpp,by rw [AI hs.1];exact h2,h3.ext x,?_⟩;have:=h4.set (i:=i) x sb h;rw [ZI (by rw [h1];exact hs.2)] at this
  exact this
 write:=fun {HB H0 H σ ρ i a ds es vs ys} ⟨h1,p,vals,hpp,h2,h3,h4⟩ hs hi hσ hb h0 ha hr=>by
  refine ⟨h1,p,vals,hpp,h2,h3.other ha,?_⟩;exact h4.write hi (by rw [A9 (by rw [h1];exact hs.2)];exact hσ) hb h0 hr
 frz:=fun ⟨h1,p,vals,hpp,h2,h3,h4⟩ _ hi x=>by
  obtain ⟨a,vs,ha,x',e'⟩:=h4.frz hi x;exact ⟨_,x',h1,p,vals,hpp,h2,h3.frz ha,e'⟩
variable {od:OD}
theorem g8 {HB H0 H : Hp} {σ : L2.St} {ρ : En} {j : Nat} {f : Str} {r : Sl} (e : ST (FR K od) HB H0 H σ ρ) (hj : od.names[j]? = some f) (h : ρ[od.n + j]? = some (some r)) :
 ∃p dx fs v,σ[od.s]? = some (some (.ref p))/\H p=some (.ins od.C dx fs)/\fs.lookup f=some v/\SlH K HB H0 H v r:=by
 obtain ⟨h1,p,vals,hpp,h2,h3,h4⟩:=e.r;obtain ⟨v,e1,e2⟩:=h4.get _ _ h;rw [<-h1,A3 (D2 _ _),CY] at e1
 obtain ⟨dx,fs,q1,q2,q3,q4⟩:=h3.ins;exact ⟨p,dx,fs,v,h2,q1,by rw [q3 j f hj,e1];rfl,e2⟩
theorem tS{j:Nat}{f:Str}(hc:Cls K od.C)(hn:NoAttr K od.C f)(hj:od.names[j]? = some f):RP K (FR K od) (cP K (KL od.s) f) (mPk (od.n+j)):=fun HB σ ρ H0 H s e r hr Q q=>by
 obtain ⟨p,dx,fs,v,h1,h2,h3,h4⟩:=g8 e hj (join_some hr);exact ⟨.ref p,h1,p,od.C,dx,fs,v,rfl,h2,hc,hn,h3,q v H0 H (Ext.refl s) h4.p⟩
theorem tV{j:Nat}{f:Str}(hc:Cls K od.C)(hn:NoAttr K od.C f)(hj:od.names[j]? = some f):RE K (FR K od) (cP K (KL od.s) f) (mVar (od.n+j)):=fun HB σ ρ H0 H s e r hr Q q=>by
 unfold mVar at hr
 cases ej:(ρ[od.n+j]?).join with
 | none=>rw [ej] at hr;cases hr
 | some r' =>
  rw [ej] at hr
  cases r' with
  | own _=>cases hr
  | dct _=>cases hr
  | val d=>
   cases hr
   obtain ⟨p,dx,fs,v,h1,h2,h3,h4⟩:=g8 e hj (join_some ej);exact ⟨.ref p,h1,p,od.C,dx,fs,v,rfl,h2,hc,hn,h3,q v H0 H (Ext.refl s) h4⟩
theorem XG{f:Str}{v u:V}:∀ {fs:List (Str×V)},fs.lookup f=some u->(K7 f v fs).length=fs.length
 | [],h=>by cases h
 | (g,x)::r,h=>by
  show (if g=f then (g,v)::r else (g,x)::K7 f v r).length=_
  split
  . rfl
  . rename_i hg;have:(f==g)=false:=F9.mpr fun z=>hg z.symm;rw [List.lookup,this] at h
    rw [C8,C8,XG h]
theorem wQ {te : TE} {fe : En -> Option Sl} {j : Nat} {f : Str} (hc : Cls K od.C) (hn : NoAttr K od.C f) (hj : od.names[j]? = some f) (hnd : od.names.Nodup) (hlt : od.names.length < 1000) (h : RE K (FR K od) te fe) :
 RS K (FR K od) (yB K (KL od.s) te f) (mAsg (od.n+j) fe):=fun HB S0 σ ρ H0 H x e o ho D d=>by
 obtain ⟨r,hr,rfl⟩:=BH.mp ho;refine h HB σ ρ H0 H x.s1 e r hr _ fun v H1 J1 x1 p1=> ?_;obtain ⟨h1,p,vals,hpp,h2,h3,h4⟩:=e.r;have oa:=h3.ext x1;obtain ⟨dx,fs,q1,q2,q3,q4⟩:=oa.ins;have e1:=h4.set (i:=od.n+j) x1 x.s p1;rw [<-h1,fY] at e1
 have xx:=(x.chain x1).write oa.hp oa.h0p (.ins od.C dx (K7 f v fs));have hjl:j<vals.length:=by rw [h3.len];exact (B6.mp hj).1
 refine ⟨.ref p,h2,p,od.C,dx,fs,rfl,q1,hc,hn,by have:=YZ vals;have:=h3.len;omega,?_⟩;refine d σ H1 _ xx ⟨⟨h1,p,vals.set j (some v),hpp,h2,⟨oa.hp,oa.h0p,by rw [DX];exact h3.len,dx,_,C9,?_,fun k g hk=> ?_,fun g hg=> ?_⟩,?_⟩⟩
 . cases hv:vals[j]? with
   | none=>rw [List.getElem?_eq_none_iff] at hv;omega
   | some ov=>
    cases ov with
    | none=>rw [X0 hv];have:=L8 f v fs;omega
    | some u=>
     rw [X9 hv,XG (u:=u) (by rw [q3 j f hj,hv];rfl)];exact q2
 . rw [JI]
   split
   . rename_i hg;subst hg;have:k=j:=R6 hnd hk hj;subst this;rw [IQ (by exact hjl)];rfl
   . rename_i hg;have:j≠k:=by rintro rfl;rw [hj] at hk;exact hg (AY hk).symm
     rw [AI this];exact q3 k g hk
 . rw [JI,AR]
   . exact q4 g hg
   . rintro rfl;exact hg (AJ hj)
 . rw [h1] at e1
   exact e1.updO (fun vs z=>by rw [q1] at z;cases z) (fun vs z=>by rw [q1] at z;cases z)
theorem aJ {HB H0 H : Hp} {σ : L2.St} {ρ : En} {j : Nat} {f : Str} {ds : List PyData} (e : ST (FR K od) HB H0 H σ ρ) (hj : od.names[j]? = some f) (h : (ρ[od.n + j]?).join = some (.own ds)) :
 ∃p dx fs a vs,σ[od.s]? = some (some (.ref p))/\H p=some (.ins od.C dx fs)/\fs.lookup f=some (.ref a)/\HB a=none/\H0 a=none/\H a=some (.lst vs)/\Reps K H0 vs ds /\
  ∀(H0' H':Hp) ys es,Ext H0 H H0' H'->Reps K H0' ys es->ST (FR K od) HB H0' (upd H' a (.lst ys)) σ (ρ.set (od.n+j) (some (.own es))):=by
 obtain ⟨h1,p,vals,hpp,h2,h3,h4⟩:=e.r;obtain ⟨v,e1,a,vs,rfl,g1,g2,g3,g4⟩:=h4.get _ _ (join_some h);have e1':=e1;rw [<-h1,A3 (D2 _ _),CY] at e1
 obtain ⟨dx,fs,q1,q2,q3,q4⟩:=h3.ins;refine ⟨p,dx,fs,a,vs,h2,q1,by rw [q3 j f hj,e1];rfl,g1,g2,g3,g4,fun H0' H' ys es x hr=> ?_⟩;exact ⟨h1,p,vals,hpp,h2,(h3.ext x).other (x.s _ _ g3),(h4.ext x).write (join_some h) e1' g1 (x.own _ _ g3 trivial g2) hr⟩
theorem mR{te:TE}{fe:En->Option Sl}{j:Nat}{f:Str}(hc:Cls K od.C)(hn:NoAttr K od.C f)(hj:od.names[j]? = some f)(h:RE K (FR K od) te fe):RS K (FR K od) (WR (tBM K "list" rAppend (cP K (KL od.s) f) (SQ te tNil))) (mApp (od.n+j) fe):=fun HB S0 σ ρ H0 H x e o ho D d=>by
 unfold mApp at ho
 split at ho
 . rename_i ds hown;obtain ⟨r,hr,ho⟩:=A0.mp ho
   split at ho
   . rename_i hl
     cases ho
     obtain ⟨p,dx,fs,a,vs,h1,h2,h3,g1,g2,g3,g4,wr⟩:=aJ e hj hown;refine ⟨.ref p,h1,p,od.C,dx,fs, .ref a,rfl,h2,hc,hn,h3, .inl ⟨rfl,vs,SqL.of g3⟩,?_⟩;refine h.rv HB σ ρ H0 H x.s1 e r.dat (by unfold mDat;rw [hr];rfl) _ fun v H1 J1 x1 p1=> ?_;refine ⟨a,vs,v,rfl,rfl,x1.s _ _ g3,by rw [g4.length];exact hl,?_⟩;exact d σ H1 _ ((x.chain x1).write g1 (x1.own a _ g3 trivial g2) _) (wr H1 J1 _ _ x1 (Tf.Reps.snoc (Reps.same x1.s0 g4) p1))
   . cases ho
 . cases ho
theorem nB{te tj:TE}{fe fj:En->Option Sl}{j:Nat}{f:Str}(hc:Cls K od.C)(hn:NoAttr K od.C f)(hj:od.names[j]? = some f)(h:RE K (FR K od) te fe)(hk:RP K (FR K od) tj fj):RS K (FR K od) (YQ te (sX (cP K (KL od.s) f) tj rSetL)) (mSet (od.n+j) fj fe):=fun HB S0 σ ρ H0 H x e o ho D d=>by
 obtain ⟨r,hr,ho⟩:=A0.mp ho
 split at ho
 . rename_i ds hown;obtain ⟨k,hkk,ho⟩:=A0.mp ho
   split at ho
   . rename_i k;obtain ⟨i,hix,rfl⟩:=Option.map_eq_some_iff.mp ho;refine h.rv HB σ ρ H0 H x.s1 e r.dat (by unfold mDat;rw [hr];rfl) _ fun v H1 J1 x1 p1=> ?_;obtain ⟨p,dx,fs,a,vs,h1,h2,h3,g1,g2,g3,g4,wr⟩:=aJ (e.ext (K:=K) x1) hj hown;refine ⟨.ref p,h1,p,od.C,dx,fs, .ref a,rfl,h2,hc,hn,h3,?_⟩;refine hk HB σ ρ H1 J1 x1.s1 (e.ext (K:=K) x1) _ hkk _ fun w H2 J2 x2 p2=> ?_;refine ⟨a,vs,k,i,rfl,p2.int,x2.s _ _ g3,by rw [g4.length];exact hix,?_⟩;exact d σ H2 _ (((x.chain x1).chain x2).write g1 (x2.own a _ g3 trivial g2) _) (wr H2 J2 _ _ x2 (Reps.set (Rep.same x2.s0 p1) i (Reps.same x2.s0 g4)))
   . cases ho
 . cases ho
def spM(K:PySem.W.Frag)(C:Addr)(names:List Str)(F:En->List PyData->Option (En×PyData)):Sp:=fun vs H Q _=>∃HB H0 p vals φ ds φ' d vs',vs = .ref p::vs'/\Same HB H/\Same H0 H/\OA C names HB H0 H p vals/\ER K HB H0 H vals φ/\Reps K H0 vs' ds/\F φ ds=some (φ',d) /\
 ∀v H0' H' vals',Ext H0 HB H0' H'->OA C names HB H0' H' p vals'->ER K HB H0' H' vals' φ'->Rep K H0' v d->Q v H'
open Classical in
noncomputable def PM(H:Hp)(p:Addr)(vals:L2.St)(φ:En):Hp:=fun b=>if b=p\/∃(j:Nat) (ds:List PyData),φ[j]? = some (some (.own ds))/\vals[j]? = some (some (.ref b)) then none else H b
theorem cJ{H:Hp}{p:Addr}{vals:L2.St}{φ:En}:Same (PM H p vals φ) H:=fun b o h=>by
 unfold PM at h
 split at h
 . cases h
 . exact h
def noD(φ:En):Bool:=φ.all fun s=>match s with | some (.dct _)=>false | _=>true
theorem u8{φ:En}(h:noD φ=true){j:Nat}{kvs:List (PyData×PyData)}:φ[j]? ≠ some (some (.dct kvs)):=fun e=>by
 have:=FP.mp h _ (AJ e)
 cases this
def dY(F:En->List PyData->Option (En×PyData)):Prop:=∀φ ds r,F φ ds=some r->noD φ=true
theorem SN {HB S0 H0 H : Hp} {σ : L2.St} {ρ : En} {vs' : List V} {ds : List PyData} {F : En -> List PyData -> Option (En × PyData)} {φ' : En} {dd : PyData} {Q : VK} {E : XK} (x : Ext S0 HB H0 H) (e : ST (FR K od) HB H0 H σ ρ) (hr : Reps K H0 vs' ds) (hN : dY F) (hF : F (ρ.drop od.n) ds = some (φ', dd))
 (q:∀v H0' H',Ext S0 HB H0' H'->ST (FR K od) HB H0' H' σ (ρ.take od.n++φ')->Rep K H0' v dd->Q v H'):∃p dx fs,σ[od.s]? = some (some (.ref p))/\H p=some (.ins od.C dx fs)/\(∀m,m ∉ od.names->fs.lookup m=none)/\spM K od.C od.names F (.ref p::vs') H Q E:=by
 obtain ⟨h1,p,vals,hpp,h2,h3,h4⟩:=e.r;obtain ⟨dx,fs,q1,q2,q3,q4⟩:=h3.ins;have lρ:ρ.length=od.n+vals.length:=by rw [<-h4.len,AT,h1]
 have fi:∀(j:Nat),(ρ.drop od.n)[j]? = ρ[od.n+j]? :=fun j=>GI;have si:∀(j:Nat),(σ++vals)[od.n+j]? = vals[j]? :=fun j=>by rw [<-h1,A3 (D2 _ _),CY]
 refine ⟨p,dx,fs,h2,q1,q4,PM H p vals (ρ.drop od.n),H0,p,vals,ρ.drop od.n,ds,φ',dd,vs',rfl,cJ,x.s1,⟨?_,h3.h0p,h3.len,h3.ins⟩,?_,hr,hF,fun v H0' H' vals' x' o' e' r' => ?_⟩
 . unfold PM;rw [if_pos (.inl rfl)]
 . refine ⟨by rw [JJ,lρ];omega,fun j s hs=> ?_,fun i j a xs ys hij g1 g2 g3 g4=> ?_⟩
   . rw [fi] at hs
     obtain ⟨v,e1,e2⟩:=h4.get _ _ hs;rw [si] at e1
     refine ⟨v,e1,?_⟩
     cases s with
     | val d=>exact e2
     | own es=>
      obtain ⟨a,ws,rfl,k1,k2,k3,k4⟩:=e2;refine ⟨a,ws,rfl,?_,k2,k3,k4⟩;unfold PM
      rw [AN (.inr ⟨j,es,by rw [fi];exact hs,e1⟩)]
     | dct es=>exact absurd (show (ρ.drop od.n)[j]? = some (some (.dct es)) by rw [fi];exact hs) (u8 (hN _ _ _ hF))
   . rw [fi] at g1 g2
     exact h4.apart (od.n+i) (od.n+j) a xs ys (by omega) g1 g2 (by rw [si];exact g3) (by rw [si];exact g4)
 . -- behind the call
   have out:∀b,HB b≠none->PM H p vals (ρ.drop od.n) b=H b:=by
    intro b hb;unfold PM;rw [if_neg];rintro (rfl | ⟨j,es,k1,k2⟩)
    . exact hb h3.hp
    . rw [fi] at k1
      obtain ⟨w,e1,a,ws,rfl,k3,_⟩:=h4.get _ _ k1;rw [si,k2] at e1
      cases e1
      exact hb k3
   have back:∀a,PM H p vals (ρ.drop od.n) a=none->HB a=none:=by
    intro a ha
    cases hb:HB a with
    | none=>rfl
    | some u=>
     rw [out a (by rw [hb];simp),x.s a u hb] at ha
     cases ha
   have loc:∀(i:Nat) es a ws,i<od.n->ρ[i]? = some (some (.own es))->σ[i]? = some (some (.ref a))->H a=some (.lst ws)->PM H p vals (ρ.drop od.n) a=some (.lst ws):=by
    intro i es a ws hi k1 k2 k3;unfold PM;rw [if_neg]
    . exact k3
    . rintro (rfl | ⟨j,ts,k4,k5⟩)
      . rw [q1] at k3;cases k3
      . rw [fi] at k4
        exact h4.apart i (od.n+j) a es ts (by omega) k1 k4 (by rw [A9 (by omega)];exact k2) (by rw [si];exact k5)
   have xx:Ext S0 HB H0' H':=⟨fun b u hb=>x'.s b u (by rw [out b (by rw [hb];simp)];exact x.s b u hb),x.s0.trans x'.s0,x'.s1,fun b u hb m h0=>x'.own b u (by rw [out b (by rw [hb];simp)];exact x.s b u hb) m (x.own b u hb m h0)⟩;have lφ:φ'.length=vals'.length:=e'.len.symm;have tk:(ρ.take od.n).length=od.n:=by rw [CV,lρ];omega
   have left:∀(i:Nat),i<od.n->(ρ.take od.n++φ')[i]? = ρ[i]? :=fun i hi=>by rw [A9 (by omega),lO hi]
   have right:∀(i:Nat),od.n<=i->(ρ.take od.n++φ')[i]? = φ'[i - od.n]? :=fun i hi=>by rw [A3 (by omega),tk]
   have sl:∀(i:Nat),i<od.n->(σ++vals')[i]? = σ[i]? :=fun i hi=>A9 (by omega);have sr:∀(i:Nat),od.n<=i->(σ++vals')[i]? = vals'[i - od.n]? :=fun i hi=>by rw [A3 (by omega),h1]
   have lown:∀(i:Nat) es a,i<od.n->ρ[i]? = some (some (.own es))->σ[i]? = some (some (.ref a))->∃ws,H a=some (.lst ws)/\HB a=none/\H0 a=none/\Reps K H0 ws es:=by
    intro i es a hi k1 k2;obtain ⟨v,e1,b,ws,rfl,k3,k4,k5,k6⟩:=h4.get _ _ k1;rw [A9 (by omega),k2] at e1
    cases e1
    exact ⟨ws,k5,k3,k4,k6⟩
   refine q v H0' H' xx ⟨h1,p,vals',hpp,h2,⟨h3.hp,o'.h0p,o'.len,o'.ins⟩,?_,fun i s hs=> ?_,fun i j a xs ys hij g1 g2 g3 g4=> ?_⟩ r'
   . rw [AT,AT,tk,lφ,h1]
   . by_cases hi:i<od.n
     . rw [left i hi] at hs
       rw [sl i hi];obtain ⟨w,e1,e2⟩:=h4.get _ _ hs;rw [A9 (by omega)] at e1
       refine ⟨w,e1,?_⟩
       cases s with
       | val d=>exact Rep.same x'.s0 e2
       | own es=>
        obtain ⟨a,ws,rfl,k1,k2,k3,k4⟩:=e2;have hl:=loc i es a ws hi hs e1 k3
        exact ⟨a,ws,rfl,k1,x'.own a _ hl trivial k2,x'.s a _ hl,Reps.same x'.s0 k4⟩
       | dct es=>
        obtain ⟨a,ws,rfl,k1,k2,k3,k4⟩:=e2
        have hl:PM H p vals (ρ.drop od.n) a=some (.ext (DcE a ws)):=by
         unfold PM;rw [if_neg]
         . exact k3
         . rintro (rfl | ⟨j,ts,k5,k6⟩)
           . rw [q1] at k3;cases k3
           . rw [fi] at k5
             obtain ⟨w,e1',b,us,rfl,_,_,k7,_⟩:=h4.get _ _ k5;rw [si,k6] at e1'
             cases e1'
             rw [k7] at k3
             cases k3
        exact ⟨a,ws,rfl,k1,x'.own a _ hl trivial k2,x'.s a _ hl,k4.same x'.s0⟩
     . rw [right i (by omega)] at hs
       rw [sr i (by omega)];obtain ⟨w,e1,e2⟩:=e'.get _ _ hs;refine ⟨w,e1,?_⟩
       cases s with
       | val d=>exact e2
       | own es=>
        obtain ⟨a,ws,rfl,k1,k2⟩:=e2
        exact ⟨a,ws,rfl,back a k1,k2⟩
       | dct es=>
        obtain ⟨a,ws,rfl,k1,k2⟩:=e2;exact ⟨a,ws,rfl,back a k1,k2⟩
   . have mixed : ∀ (i j : Nat) xs ys, i < od.n -> od.n <= j -> (ρ.take od.n ++ φ')[i]? = some (some (.own xs)) -> (ρ.take od.n ++ φ')[j]? = some (some (.own ys)) -> (σ ++ vals')[i]? = some (some (.ref a)) -> (σ ++ vals')[j]? ≠ some (some (.ref a)) := by
      intro i j xs ys hi hj g1 g2 g3 g4;rw [left i hi] at g1
      rw [right j hj] at g2
      rw [sl i hi] at g3
      rw [sr j hj] at g4
      obtain ⟨ws,k3,_⟩:=lown i xs a hi g1 g3;have hl:=loc i xs a ws hi g1 g3 k3;obtain ⟨w,e1,b,us,rfl,k1,_⟩:=e'.get _ _ g2;rw [g4] at e1
      cases e1
      rw [hl] at k1
      cases k1
     by_cases hi:i<od.n
     . by_cases hj:j<od.n
       . rw [left i hi] at g1
         rw [left j hj] at g2
         rw [sl i hi] at g3
         rw [sl j hj] at g4
         exact h4.apart i j a xs ys hij g1 g2 (by rw [A9 (by omega)];exact g3) (by rw [A9 (by omega)];exact g4)
       . exact mixed i j xs ys hi (by omega) g1 g2 g3 g4
     . by_cases hj:j<od.n
       . exact mixed j i ys xs hj (by omega) g2 g1 g4 g3
       . rw [right i (by omega)] at g1
         rw [right j (by omega)] at g2
         rw [sr i (by omega)] at g3
         rw [sr j (by omega)] at g4
         exact e'.apart (i - od.n) (j - od.n) a xs ys (by omega) g1 g2 g3 g4
def JH(n:Nat)(F:En->List PyData->Option (En×PyData))(fa:En->Option (List PyData))(k:En->PyData->Option Out):En->Option Out:=fun ρ=>(fa ρ).bind fun ds=>(F (ρ.drop n) ds).bind fun r=>k (ρ.take n++r.1) r.2
theorem fO{ta:TA}{fa:En->Option (List PyData)}{F:En->List PyData->Option (En×PyData)}{m:Str}{E:XK}(hm:m ∉ od.names)(hN:dY F)(h:RA K (FR K od) ta fa):RS K (FR K od) (WR (ZZ od.C m (spM K od.C od.names F) [] E (KL od.s) ta)) (JH od.n F fa fun ρ _=>some (.nx ρ)):=fun HB S0 σ ρ H0 H x e o ho D d=>by
 obtain ⟨ds,hd,ho⟩:=A0.mp ho;obtain ⟨⟨φ',dd⟩,hF,ho⟩:=A0.mp ho
 cases ho
 obtain ⟨h1,p,vals,hpp,h2,h3,h4⟩:=e.r;obtain ⟨dx,fs,q1,q2,q3,q4⟩:=h3.ins;refine ⟨.ref p,h2,p,dx,fs,rfl,q1,q4 m hm,?_⟩;refine h HB σ ρ H0 H x.s1 e ds hd _ fun vs H1 J1 x1 p1=> ?_;rw [DV];obtain ⟨p',dx',fs',k1,k2,k3,k4⟩:=SN (E:=E) (x.chain x1) (e.ext (K:=K) x1) p1 hN hF (fun v H2 J2 x2 e2 r2=>d σ H2 J2 x2 e2);rw [h2] at k1
 cases k1
 exact k4
theorem fF {ta : TA} {fa : En -> Option (List PyData)} {F : En -> List PyData -> Option (En × PyData)} {m : Str} {E : XK} {i : Nat} (hs : (FR K od).slot i) (hm : m ∉ od.names) (hN : dY F) (h : RA K (FR K od) ta fa) :
 RS K (FR K od) (YQ (ZZ od.C m (spM K od.C od.names F) [] E (KL od.s) ta) (QY i)) (JH od.n F fa fun ρ d=>some (.nx (ρ.set i (some (.val d))))):=fun HB S0 σ ρ H0 H x e o ho D d=>by
 obtain ⟨ds,hd,ho⟩:=A0.mp ho;obtain ⟨⟨φ',dd⟩,hF,ho⟩:=A0.mp ho
 cases ho
 obtain ⟨h1,p,vals,hpp,h2,h3,h4⟩:=e.r;obtain ⟨dx,fs,q1,q2,q3,q4⟩:=h3.ins;refine ⟨.ref p,h2,p,dx,fs,rfl,q1,q4 m hm,?_⟩;refine h HB σ ρ H0 H x.s1 e ds hd _ fun vs H1 J1 x1 p1=> ?_;rw [DV];obtain ⟨p',dx',fs',k1,k2,k3,k4⟩:=SN (E:=E) (x.chain x1) (e.ext (K:=K) x1) p1 hN hF (fun v H2 J2 x2 e2 r2=>d _ H2 J2 x2 ⟨RelOk.set (K:=K) (s:= .val dd) e2.r hs (Ext.refl x2.s1) x2.s r2⟩);rw [h2] at k1
 cases k1
 exact k4
end
end Dm
namespace Dm
open PySem PySem.Spec PyProof.Rows L2 Tf
section
variable {K:PySem.W.Frag} {C:Addr} {names:List Str}
def OM(n m k:Nat)(g:En->Option Out):En->List PyData->Option (En×PyData):=fun φ ds=>if (ds.length+1=m/\φ.length=k)/\noD φ=true then (g ((none::ds.map (fun d=>some (.val d)))++List.replicate (n - (ds.length+1)) none++φ)).bind fun o=>match o with
 | .rt (.val d) ρ=>some (ρ.drop n,d)
 | .nx ρ=>some (ρ.drop n, .none)
 | _=>none else none
theorem WN{n m k:Nat}{g:En->Option Out}:dY (OM n m k g):=fun φ ds r h=>by
 unfold OM at h
 split at h
 . rename_i hc;exact hc.2
 . cases h
theorem aZ {HB H0 H : Hp} {p : Addr} {vs : List V} {ds : List PyData} {N : List Str} {vals : L2.St} {φ : En} (hn : ds.length + 1 <= N.length) (hr : Reps K H0 vs ds) (e : ER K HB H0 H vals φ) :
 ER K HB H0 H (L2.start N (.ref p::vs)++vals) ((none::ds.map (fun d=>some (.val d)))++List.replicate (N.length - (ds.length+1)) none++φ):=by
 have hl:=hr.length
 have ls:(L2.start N (.ref p::vs)).length=N.length:=by
  unfold L2.start;simp only [List.length_append,List.length_map,List.length_replicate,List.length_cons];omega
 have lr:((none::ds.map (fun d=>some (Sl.val d)))++List.replicate (N.length - (ds.length+1)) (none:Option Sl)).length=N.length:=by
  simp only [AT,A4,GS,C8];omega
 have lv:∀(i:Nat) s,i<N.length->((none::ds.map (fun d=>some (Sl.val d)))++List.replicate (N.length - (ds.length+1)) (none:Option Sl))[i]? = some (some s)->∃j d,i=j+1/\ds[j]? = some d/\s = .val d:=by
  intro i s hi hs
  cases i with
  | zero=>cases hs
  | succ j=>
   by_cases hj:j<ds.length
   . rw [JK,BX,A9 (by simpa using hj),AS,A8 hj] at hs
     cases hs
     exact ⟨j,_,rfl,A8 hj,rfl⟩
   . rw [JK,BX,A3 (by simpa using hj),E4] at hs
     split at hs <;> cases hs
 refine ⟨by rw [AT,AT,ls,lr,e.len],fun i s hs=> ?_,fun i j a xs ys hij g1 g2 g3 g4=> ?_⟩
 . by_cases hi:i<N.length
   . rw [A9 (by omega)] at hs ⊢
     obtain ⟨j,d,rfl,hd,rfl⟩:=lv i s hi hs;obtain ⟨v,h1,h2⟩:=Tf.Reps.get hr hd;refine ⟨v,?_,h2⟩;unfold L2.start;have hj:j<vs.length:=(List.getElem?_eq_some_iff.mp h1).1;rw [List.map_cons,List.cons_append,List.getElem?_cons_succ,List.getElem?_append_left (by simpa using hj),List.getElem?_map,h1];rfl
   . rw [A3 (by omega),lr] at hs
     rw [A3 (by omega),ls];exact e.get _ _ hs
 . have big : ∀ (i : Nat) xs, ((none :: ds.map (fun d => some (Sl.val d))) ++ List.replicate (N.length - (ds.length + 1)) (none : Option Sl) ++ φ)[i]? = some (some (.own xs)) -> N.length <= i := by
    intro i xs h
    by_cases hi:i<N.length
    . rw [A9 (by omega)] at h
      obtain ⟨_,_,_,_,z⟩:=lv i _ hi h
      cases z
    . omega
   have b1:=big i xs g1;have b2:=big j ys g2;rw [A3 (by omega),lr] at g1 g2
   rw [A3 (by omega),ls] at g3 g4
   exact e.apart _ _ a xs ys (by omega) g1 g2 g3 g4
section
variable {P:Program} {w:World} {mg:Str->Option Value} {base:Heap}
theorem fnM {x qual : Str} {st : Stmt} {f : Addr} {fd : FuncData} {N ps : List Str} {k n m l : Nat} {g : En -> Option Out} (F : Fun K x qual st f fd) (S : FnScope N ps (AO st)) (hn : N.length = n) (hm : ps.length = m) (hl : names.length = l)
 (hb:∀(cdv:Value) (A:Around) (outer:List Env) (s:Shared) (H:Hp) (E:XK) (p:Addr),Room k (A.deeper (envOfC qual (AO st) s.heap.objs.size f cdv))->DSs (PH CX0 P w K mg base N qual (AO st) f cdv A outer s H E).nox (FR K ⟨C,names,0,n,p⟩) (HK st) g) :
 FnOk P w K mg base CX0 (k+1) f fd ps (spM K C names (OM n m l g)):=by
 subst hn hm hl;have hpl:ps.length<=N.length:=by have:=KM List.length S.pre;rw [CV] at this;omega
 refine F.ok S (fun vs H Q E h=> ?_) fun cdv A outer s H vs Q E hr h=> ?_
 . obtain ⟨HB,H0,p,vals,φ,ds,φ',d,vs',rfl,s1,s2,oa,er,hr,hf,_⟩:=h;unfold OM at hf
   split at hf
   . rename_i hl;rw [C8,hr.length];exact hl.1.1
   . cases hf
 . obtain ⟨HB,H0,p,vals,φ,ds,φ',d,vs',rfl,s1,s2,oa,er,hr',hf,q⟩:=h;obtain ⟨t,ht,rs⟩:=hb cdv A outer s H E p hr;refine ⟨t,ht,?_⟩;have hr:=hr';unfold OM at hf
   split at hf
   . rename_i hl;obtain ⟨o,ho,hf⟩:=A0.mp hf;have hvl:=hr.length
     have ls:(L2.start N (.ref p::vs')).length=N.length:=by
      unfold L2.start;simp only [List.length_append,List.length_map,List.length_replicate,List.length_cons];omega
     refine rs HB H0 _ _ H0 H ⟨s1,Same.refl _,s2,fun _ _ _ _ h=>h⟩ ⟨⟨ls,p,vals,rfl,rfl,oa,aZ (by omega) hr er⟩⟩ o ho _ ?_
     have fin:∀ {σ:L2.St} {H1 J1:Hp} {ρ:En} {v:V} {dd:PyData},Ext H0 HB H1 J1->ST (FR K ⟨C,names,0,N.length,p⟩) HB H1 J1 σ ρ->Rep K H1 v dd->(ρ.drop N.length,dd)=(φ',d)->Q v J1:=by
      intro σ H1 J1 ρ v dd x e r he;obtain ⟨h1,p',vals',hpp,h2,h3,h4⟩:=e.r
      cases he
      cases hpp
      refine q v H1 J1 vals' x h3 ⟨?_,fun i s hs=> ?_,fun i j a xs ys hij g1 g2 g3 g4=> ?_⟩ r
      . have:=h4.len;rw [AT,h1] at this
        rw [JJ];show _=_ - _;have hh:(⟨C,names,0,N.length,p⟩:OD).n=N.length:=rfl;omega
      . rw [GI] at hs
        obtain ⟨w,e1,e2⟩:=h4.get _ _ hs;rw [A3 (by rw [h1];exact D2 _ _),h1] at e1
        refine ⟨w,?_,e2⟩;have hh:(⟨C,names,0,N.length,p⟩:OD).n=N.length:=rfl;rw [hh,CY] at e1
        exact e1
      . have si : ∀ i : Nat, (σ ++ vals')[N.length + i]? = vals'[i]? := fun i => by
         have hh:(⟨C,names,0,N.length,p⟩:OD).n=N.length:=rfl;rw [A3 (by rw [h1];exact D2 _ _),h1,hh,CY]
        rw [GI] at g1 g2
        exact h4.apart _ _ a xs ys (by omega) g1 g2 (by rw [si];exact g3) (by rw [si];exact g4)
     cases o with
     | rt r ρ=>
      cases r with
      | val dd=>exact fun v σ H1 J1 a b c=>fin a b c (AY hf)
      | own _=>cases hf
      | dct _=>cases hf
     | nx ρ=>exact fun σ H1 J1 a b=>fin (v:= .non) a b .none (AY hf)
     | bk _=>cases hf
     | ct _=>cases hf
   . cases hf
end
end
end Dm
namespace Dm
open PySem PySem.Spec PyProof.Rows L2 Tf
section
variable {K:PySem.W.Frag} {C:Addr} {names:List Str} {R:Rl} [RelOk K R]
def RB(K:PySem.W.Frag)(R:Rl)(C:Addr)(names:List Str)(te:TE)(fo:En->Option En):Prop:=
 ∀(HB:Hp) (σ:L2.St) (ρ:En) (H0 H:Hp),Same H0 H->ST R HB H0 H σ ρ->∀φ,fo ρ=some φ->∀Q:VK,(∀p vals H0' H',Ext H0 H H0' H'->OA C names H H0' H' p vals->ER K H H0' H' vals φ->Q (.ref p) H')->te σ H Q
def VZ(k:Nat)(F:En->List PyData->Option (En×PyData))(fa:En->Option (List PyData)):En->Option En:=fun ρ=>(fa ρ).bind fun ds=>(F (List.replicate k none) ds).bind fun r=>match r.2 with
 | .none=>some r.1
 | _=>none
theorem oE{ta:TA}{fa:En->Option (List PyData)}{F:En->List PyData->Option (En×PyData)}{E:XK}{k:Nat}(hk:k=names.length)(h:RA K R ta fa):RB K R C names (r0 C (spM K C names F) [] E ta) (VZ k F fa):=fun HB σ ρ H0 H s e φ hφ Q q=>by
 subst hk;obtain ⟨ds,hd,hφ⟩:=A0.mp hφ;obtain ⟨⟨φ',d⟩,hF,hφ⟩:=A0.mp hφ
 have hdn:d = .none/\φ'=φ:=by
  cases d with
  | none=>cases hφ;exact ⟨rfl,rfl⟩
  | _=>cases hφ
 obtain ⟨rfl,rfl⟩:=hdn;refine h HB σ ρ H0 H s e ds hd _ fun vs H1 J1 x1 p1=> ?_;intro x dx hx hdx hne;rw [DV];have s1:Same J1 (upd (upd J1 dx (.own x)) x (.ins C dx [])):=fun b u hb=>by rw [BP (BT hb hx),BP (BT hb hdx)];exact hb
 refine ⟨J1,H1,x,List.replicate names.length none,List.replicate names.length none,ds,φ', .none,vs,rfl,s1,x1.s1.trans s1,⟨hx,x1.s1.free hx,GS,dx,[],C9,DZ _,fun j f hj=> ?_,fun f _=>rfl⟩,⟨by rw [GS,GS],fun i r hr=> ?_,fun i j a xs ys _ g1 _ _ _=> ?_⟩,p1,hF,fun v H2 J2 vals' x2 o2 e2 r2=>⟨?_,?_⟩⟩
 . show none=_;rw [E4]
   split <;> rfl
 . rw [E4] at hr
   split at hr <;> cases hr
 . rw [E4] at g1
   split at g1 <;> cases g1
 . cases r2;rfl
 . exact q x vals' H2 J2 (x1.trans x2) (o2.base x1.s) (e2.base x1.s)
def spO(K:PySem.W.Frag)(C:Addr)(names:List Str)(F:List PyData->Option En):Sp:=fun vs H Q _=>∃H0 ds φ,Same H0 H/\Reps K H0 vs ds/\F ds=some φ/\∀p vals H0' H',Ext H0 H H0' H'->OA C names H H0' H' p vals->ER K H H0' H' vals φ->Q (.ref p) H'
def QJ(F:List PyData->Option En)(fa:En->Option (List PyData)):En->Option En:=fun ρ=>(fa ρ).bind F
theorem pH{ta:TA}{fa:En->Option (List PyData)}{F:List PyData->Option En}{E:XK}(h:RA K R ta fa):RB K R C names (ZH (spO K C names F) [] E ta) (QJ F fa):=fun HB σ ρ H0 H s e φ hφ Q q=>by
 obtain ⟨ds,hd,hφ⟩:=A0.mp hφ;refine h HB σ ρ H0 H s e ds hd _ fun vs H1 J1 x1 p1=> ?_;rw [DV];exact ⟨H1,ds,φ,x1.s1,p1,hφ,fun p vals H2 J2 x2 o2 e2=>q p vals H2 J2 (x1.trans x2) (o2.base x1.s) (e2.base x1.s)⟩
section
variable {P:Program} {w:World} {mg:Str->Option Value} {base:Heap}
def DB(X:Cx)(R:Rl)(C:Addr)(names:List Str)(e:Expr)(fo:En->Option En):Prop:=∃te,PE X e te/\RB X.K R C names te fo
def fG(n m:Nat)(fo:En->Option En):List PyData->Option En:=fun ds=>if ds.length=m then fo (ds.map (fun d=>some (.val d))++List.replicate (n - ds.length) none) else none
theorem fnO {x qual : Str} {st : Stmt} {f : Addr} {fd : FuncData} {N ps : List Str} {k n m : Nat} {fo : En -> Option En} {e : Expr} {pos : Pos} (F : Fun K x qual st f fd) (S : FnScope N ps (AO st)) (hn : N.length = n) (hm : ps.length = m) (hst : HK st = [.Return (some e) pos])
 (hb:∀(cdv:Value) (A:Around) (outer:List Env) (s:Shared) (H:Hp) (E:XK),Room k (A.deeper (envOfC qual (AO st) s.heap.objs.size f cdv))->DB (PH CX0 P w K mg base N qual (AO st) f cdv A outer s H E).nox (PR K) C names e fo) :
 FnOk P w K mg base CX0 (k+1) f fd ps (spO K C names (fG n m fo)):=by
 subst hn hm;refine F.ok S (fun vs H Q E h=> ?_) fun cdv A outer s H vs Q E hr h=> ?_
 . obtain ⟨H0,ds,φ,s,hr,hf,_⟩:=h;unfold fG at hf
   split at hf
   . rename_i hl;rw [hr.length,hl]
   . cases hf
 . obtain ⟨t,ht,rb⟩:=hb cdv A outer s H E hr;refine ⟨_,by rw [hst];exact b8 (YD ht),?_⟩;obtain ⟨H0,ds,φ,s0,hr,hf,q⟩:=h;unfold fG at hf
   split at hf
   . exact rb H _ _ H0 H s0 ⟨VX hr⟩ φ hf _ fun p vals H1 J1 x1 o1 e1=>q p vals H1 J1 x1 o1 e1
   . cases hf
end
def XW(n s:Nat)(fo:En->Option En)(g:En->Option Out):En->Option Out:=fun ρ=>if ρ.length=n then (fo ρ).bind fun φ=>(g (ρ.set s none++φ)).bind fun o=>match o with
 | .rt r _=>some (.rt r (List.replicate ρ.length none))
 | _=>none else none
theorem mC{HB H0 H:Hp}{σ:L2.St}{n:Nat}(h:σ.length=n):ER K HB H0 H σ (List.replicate n none) :=
 ⟨by rw [GS];exact h,fun i r hr=>(by rw [E4] at hr;split at hr <;> cases hr),fun i j a xs ys _ g1 _ _ _=>(by rw [E4] at g1;split at g1 <;> cases g1)⟩
theorem xB{te:TE}{tr:TS}{fo:En->Option En}{g:En->Option Out}{s n:Nat}(h:RB K (PR K) C names te fo)(hr:∀p:Addr,RS K (FR K ⟨C,names,s,n,p⟩) tr g)(hs:s<n):RS K (PR K) (xF (YQ te (QY s)) tr) (XW n s fo g):=fun HB S0 σ ρ H0 H x e o ho D d=>by
 unfold XW at ho
 split at ho
 . rename_i hlen;obtain ⟨φ,hφ,ho⟩:=A0.mp ho;obtain ⟨o1,ho1,ho⟩:=A0.mp ho;have hσ:σ.length=n:=by rw [<-hlen];exact e.r.len
   refine h HB σ ρ H0 H x.s1 e φ hφ _ fun p vals H1 J1 x1 oa er=> ?_;have e1:ER K HB H1 J1 σ ρ:=ER.ext x1 e.r;have xx:=x.chain x1;have ob:OA C names HB H1 J1 p vals:=oa.base x.s;have eb:ER K HB H1 J1 vals φ:=er.base x.s;have lf:vals.length=φ.length:=er.len
   have nown:∀(i:Nat) r,(ρ.set s none)[i]? = some (some r)->i≠s/\ρ[i]? = some (some r):=by
    intro i r hi
    by_cases z:s=i
    . subst z;rw [CK] at hi
      cases hq:ρ[s]? with
      | none=>rw [hq] at hi;cases hi
      | some _=>rw [hq] at hi;cases hi
    . rw [AI z] at hi
      exact ⟨fun w=>z w.symm,hi⟩
   have old:∀(i:Nat) xs a,ρ[i]? = some (some (.own xs))->σ[i]? = some (some (.ref a))->∃u,H a=some u:=by
    intro i xs a k1 k2;obtain ⟨v,g1,b,ws,rfl,_,_,g2,_⟩:=ER.get e.r i _ k1;rw [k2] at g1
    cases g1
    exact ⟨_,g2⟩
   have new:∀(j:Nat) ys a,φ[j]? = some (some (.own ys))->vals[j]? = some (some (.ref a))->H a=none:=by
    intro j ys a k1 k2;obtain ⟨v,g1,b,ws,rfl,g2,_⟩:=er.get j _ k1;rw [k2] at g1
    cases g1
    exact g2
   have l1:(ρ.set s none).length=n:=by rw [DX,hlen]
   have l2:(σ.set s (some (V.ref p))).length=n:=by rw [DX,hσ]
   refine hr p HB S0 _ _ H1 J1 xx ⟨⟨l2,p,vals,rfl,?_,ob,?_,fun i r hi=> ?_,fun i j a xs ys hij g1 g2 g3 g4=> ?_⟩⟩ o1 ho1 D ?_
   . show (σ.set s (some (V.ref p)))[s]? = _;rw [IQ (by rw [hσ];exact hs)]
   . rw [AT,AT,l1,l2,lf]
   . by_cases hin:i<n
     . rw [A9 (by omega)] at hi ⊢
       obtain ⟨z,hi⟩:=nown i r hi;obtain ⟨v,g1,g2⟩:=e1.get i r hi;exact ⟨v,by rw [AI (fun w=>z w.symm)];exact g1,g2⟩
     . rw [A3 (by omega),l1] at hi
       rw [A3 (by omega),l2];exact eb.get _ r hi
   . have mixed : ∀ (i j : Nat) xs ys, i < n -> n <= j -> (ρ.set s none ++ φ)[i]? = some (some (.own xs)) -> (ρ.set s none ++ φ)[j]? = some (some (.own ys)) -> (σ.set s (some (V.ref p)) ++ vals)[i]? = some (some (.ref a)) -> (σ.set s (some (V.ref p)) ++ vals)[j]? ≠ some (some (.ref a)) := by
      intro i j xs ys hi hj g1 g2 g3 g4;rw [A9 (by omega)] at g1 g3
      rw [A3 (by omega),l1] at g2
      rw [A3 (by omega),l2] at g4
      obtain ⟨z,g1⟩:=nown i _ g1;rw [AI (fun w=>z w.symm)] at g3
      obtain ⟨u,k1⟩:=old i xs a g1 g3;rw [new _ ys a g2 g4] at k1
      cases k1
     by_cases hi:i<n
     . by_cases hj:j<n
       . rw [A9 (by omega)] at g1 g2 g3 g4
         obtain ⟨z1,g1⟩:=nown i _ g1;obtain ⟨z2,g2⟩:=nown j _ g2;rw [AI (fun w=>z1 w.symm)] at g3
         rw [AI (fun w=>z2 w.symm)] at g4
         exact e1.apart i j a xs ys hij g1 g2 g3 g4
       . exact mixed i j xs ys hi (by omega) g1 g2 g3 g4
     . by_cases hj:j<n
       . exact mixed j i ys xs hj (by omega) g2 g1 g4 g3
       . rw [A3 (by omega),l1] at g1 g2
         rw [A3 (by omega),l2] at g3 g4
         exact eb.apart _ _ a xs ys (by omega) g1 g2 g3 g4
   . cases o1 with
     | rt r ρ' =>
      cases ho
      exact fun v σ' H2 J2 a b c=>d v σ' H2 J2 a ⟨by rw [hlen];exact mC b.r.1⟩ c
     | nx _=>cases ho
     | bk _=>cases ho
     | ct _=>cases ho
 . cases ho
variable {od:OD}
theorem pV{ix:List (Option Nat)}(hx:(ix.filterMap id).Nodup:=by decide)(hn:(ix.all fun o=>match o with | some j=>decide (j<od.n) | none=>true)=true:=by rfl):∀(HB:Hp) (σ:L2.St) (ρ:En) (H0 H:Hp),(FR K od).r HB H0 H σ ρ->(PR K).r (fun _=>none) H0 H (F8 ix σ) (D3 ix ρ):=fun HB σ ρ H0 H e=>by
 obtain ⟨h1,p,vals,hpp,h2,h3,h4⟩:=e;have e:=ER.sub hx h4
 have:F8 ix (σ++vals)=F8 ix σ:=by
  unfold F8;refine List.map_congr_left fun o ho=> ?_
  cases o with
  | none=>rfl
  | some j=>
   have:=FP.mp hn _ ho;have hj:j<od.n:=by simpa using this
   show ((σ++vals)[j]?).join=_;rw [A9 (by omega)]
 rw [this] at e
 exact e
def subF(ix:List (Option Nat))(n:Nat)(ρ:En):En:=D3 ix ρ++ρ.drop n
theorem x0 {ix : List (Option Nat)} {s' n' : Nat} (hs : ix[s']? = some (some od.s) := by rfl) (hl : ix.length = n' := by rfl) (hx : (ix.filterMap id).Nodup := by decide) (hn : (ix.all fun o => match o with | some j => decide (j < od.n) | none => true) = true := by rfl) :
 ∀(HB:Hp) (σ:L2.St) (ρ:En) (H0 H:Hp),(FR K od).r HB H0 H σ ρ->(FR K ⟨od.C,od.names,s',n',od.p⟩).r (fun _=>none) H0 H (F8 ix σ) (subF ix od.n ρ):=fun HB σ ρ H0 H e=>by
 obtain ⟨h1,p,vals,hpp,h2,h3,h4⟩:=e
 have hlt:∀(i j:Nat),ix[i]? = some (some j)->j<od.n:=fun i j h=>by
  have:=FP.mp hn _ (AJ h);simpa using this
 have ls:(F8 ix σ).length=n':=by unfold F8;rw [List.length_map,hl]
 have le:(D3 ix ρ).length=n':=by unfold D3;rw [List.length_map,hl]
 have lρ:ρ.length=od.n+vals.length:=by rw [<-h4.len,AT,h1]
 have fi:∀(j:Nat),(ρ.drop od.n)[j]? = ρ[od.n+j]? :=fun j=>GI;have si:∀(j:Nat),(σ++vals)[od.n+j]? = vals[j]? :=fun j=>by rw [<-h1,A3 (D2 _ _),CY]
 have sg:∀(i j:Nat),ix[i]? = some (some j)->(F8 ix σ)[i]? = some ((σ++vals)[j]?).join:=fun i j h=>by rw [IY h,A9 (by rw [h1];exact hlt i j h)]
 refine ⟨ls,p,vals,hpp,?_,⟨rfl,h3.h0p,h3.len,h3.ins⟩,?_,fun i r hi=> ?_,fun i k a xs ys hij g1 g2 g3 g4=> ?_⟩
 . show (F8 ix σ)[s']? = _;rw [IY hs,h2];rfl
 . unfold subF;rw [List.length_append,List.length_append,ls,le,List.length_drop,lρ];omega
 . unfold subF at hi
   by_cases hin:i<n'
   . rw [A9 (by omega)] at hi ⊢
     obtain ⟨j,k1,k2⟩:=GC hi;obtain ⟨v,k3,k4⟩:=h4.get j r k2;refine ⟨v,by rw [sg i j k1,k3];rfl,k4.base fun _ _ h=>by cases h⟩
   . rw [A3 (by omega),le,fi] at hi
     rw [A3 (by omega),ls];obtain ⟨v,k3,k4⟩:=h4.get _ r hi;rw [si] at k3
     exact ⟨v,k3,k4.base fun _ _ h=>by cases h⟩
 . unfold subF at g1 g2
   have mixed:∀(i k:Nat) xs ys,i<n'->n'<=k->(D3 ix ρ++ρ.drop od.n)[i]? = some (some (.own xs))->(D3 ix ρ++ρ.drop od.n)[k]? = some (some (.own ys))->(F8 ix σ++vals)[i]? = some (some (.ref a))->(F8 ix σ++vals)[k]? ≠ some (some (.ref a)):=by
    intro i k xs ys hi hk g1 g2 g3 g4;rw [A9 (by omega)] at g1 g3
    rw [A3 (by omega),le,fi] at g2
    rw [A3 (by omega),ls] at g4
    obtain ⟨j,k1,k2⟩:=GC g1;rw [sg i j k1] at g3
    exact h4.apart j (od.n+(k - n')) a xs ys (by have:=hlt i j k1;omega) k2 g2 (join_some (AY g3)) (by rw [si];exact g4)
   by_cases hi:i<n'
   . by_cases hk:k<n'
     . rw [A9 (by omega)] at g1 g2 g3 g4
       obtain ⟨j,k1,k2⟩:=GC g1;obtain ⟨l,k3,k4⟩:=GC g2;rw [sg i j k1] at g3
       rw [sg k l k3] at g4
       exact h4.apart j l a xs ys (by rintro rfl;exact hij (V1 hx k1 k3)) k2 k4 (join_some (AY g3)) (join_some (AY g4))
     . exact mixed i k xs ys hi (by omega) g1 g2 g3 g4
   . by_cases hk:k<n'
     . exact mixed k i ys xs hk (by omega) g2 g1 g4 g3
     . rw [A3 (by omega),le,fi] at g1 g2
       rw [A3 (by omega),ls] at g3 g4
       exact h4.apart _ _ a xs ys (by omega) g1 g2 (by rw [si];exact g3) (by rw [si];exact g4)
end
section
structure Klass (K:PySem.W.Frag) (C:Addr) (names:List Str):Prop where
 cl:Cls K C
 no:∀f ∈ names,NoAttr K C f
structure MDef (P:Program) (w:World) (K:PySem.W.Frag) (mg:Str->Option Value) (base:Heap) (k:Nat) (C:Addr) (m:Str) (ps:List Str) (sp:Sp):Prop where
 ex:∃f fd,FnOk P w K mg base CX0 k f fd ps sp/\Meth K C m f/\Binds K fd ps []
structure KDef (P:Program) (w:World) (K:PySem.W.Frag) (mg:Str->Option Value) (base:Heap) (k:Nat) (C:Addr) (x:Str) (ps:List Str) (sp:Sp):Prop where
 ex:∃f fd,FnOk P w K mg base CX0 k f fd ps sp/\Mk K C f/\mg x=some (.ref C)/\Binds K fd ps []
variable {X:Cx} {od:OD} {e a:Expr} {es:List Expr} {pos p apos cpos:Pos} {x f m:Str} {fe fa:En->Option Sl} {fs:En->Option (List PyData)} {R:Rl} [RelOk X.K R] {C:Addr} {names:List Str}
theorem KF (j : Nat) (k : Klass X.K od.C od.names) (hN : X.N[od.s]? = some x := by rfl) (hv : Vis X.env.scope x := by first | exact E1 rfl | exact CF (E1 rfl) | exact CF (CF rfl)) (hj : od.names[j]? = some f := by rfl) (hd : (x == ("__debug__" : Str)) = false := by decide) (hcd : (x == ("__classdict__" : Str)) = false := by decide)
 (hb:attributeBase (.Name x p) f X.env (eval (.Name x p) X.env)=eval (.Name x p) X.env:=by rfl):DP X (FR X.K od) (.Attribute (.Name x p) f pos) (mPk (od.n+j)) :=
 ⟨_,RU (GD hN hv hd hcd) hb,tS k.cl (k.no f (AJ hj)) hj⟩
theorem YR (j : Nat) (k : Klass X.K od.C od.names) (hN : X.N[od.s]? = some x := by rfl) (hv : Vis X.env.scope x := by first | exact E1 rfl | exact CF (E1 rfl) | exact CF (CF rfl)) (hj : od.names[j]? = some f := by rfl) (hd : (x == ("__debug__" : Str)) = false := by decide) (hcd : (x == ("__classdict__" : Str)) = false := by decide)
 (hb:attributeBase (.Name x p) f X.env (eval (.Name x p) X.env)=eval (.Name x p) X.env:=by rfl):DE X (FR X.K od) (.Attribute (.Name x p) f pos) (mVar (od.n+j)) :=
 ⟨_,RU (GD hN hv hd hcd) hb,tV k.cl (k.no f (AJ hj)) hj⟩
theorem QS (j : Nat) {pos' : Pos} (k : Klass X.K od.C od.names) (h : DE X (FR X.K od) e fe) (hN : X.N[od.s]? = some x := by rfl) (hv : Vis X.env.scope x := by first | exact E1 rfl | exact CF (E1 rfl) | exact CF (CF rfl)) (hj : od.names[j]? = some f := by rfl) (hd : (x == ("__debug__" : Str)) = false := by decide) (hcd : (x == ("__classdict__" : Str)) = false := by decide)
 (hs:swapsWith e (some (.Attribute (.Name x p) f pos')) pos.line X.env=pure false:=by rfl) (hnd:od.names.Nodup:=by exact AD rfl) (hlt:od.names.length<1000:=by exact AD rfl):DS X (FR X.K od) (.Assign [.Attribute (.Name x p) f pos'] e pos) (mAsg (od.n+j) fe):=by
 obtain ⟨t,h1,h2⟩:=h;exact ⟨_,vT (GD hN hv hd hcd) h1 hs,wQ k.cl (k.no f (AJ hj)) hj hnd hlt h2⟩
theorem oO (j : Nat) {p3 : Pos} (k : Klass X.K od.C od.names) (h : DE X (FR X.K od) e fe) (hN : X.N[od.s]? = some x := by rfl) (hv : Vis X.env.scope x := by first | exact E1 rfl | exact CF (E1 rfl) | exact CF (CF rfl)) (hj : od.names[j]? = some f := by rfl) (hd : (x == ("__debug__" : Str)) = false := by decide) (hcd : (x == ("__classdict__" : Str)) = false := by decide)
 (hb:attributeBase (.Name x p) f X.env (eval (.Name x p) X.env)=eval (.Name x p) X.env:=by rfl)
 (hst:starEach [e] X.env=(false,eval e X.env)::starEach [] X.env:=by rfl) (hbase:attributeBase (.Attribute (.Name x p) f p3) "append" X.env (eval (.Attribute (.Name x p) f p3) X.env)=eval (.Attribute (.Name x p) f p3) X.env:=by rfl)
 (hfew:((backTo cpos (starEach [e] X.env)).all (fun x=> !x.1) && (backToKw cpos (keywordEach [] X.env)).all (fun x=>x.1.isSome) && decide ([e].length+([]:List Keyword).length+(if ([]:List Keyword).isEmpty then 0 else 1)<30))=true:=by rfl)
 (hline:(apos.endLine==cpos.line)=true:=by rfl) (hplain:(backTo cpos (starEach [] X.env)).any (·.1)=false:=by rfl)
 (hs:swapsWith (.Call (.Attribute (.Attribute (.Name x p) f p3) "append" apos) [e] [] cpos) none pos.line X.env=pure false:=by rfl):DS X (FR X.K od) (.Expr (.Call (.Attribute (.Attribute (.Name x p) f p3) "append" apos) [e] [] cpos) pos) (mApp (od.n+j) fe):=by
 obtain ⟨t,h1,h2⟩:=h;exact ⟨_,Q2 (gN MZ JR lR TQ (RU (GD hN hv hd hcd) hb) (NJ h1 S7 hst) hbase hfew hline hst hplain) hs,mR k.cl (k.no f (AJ hj)) hj h2⟩
theorem ZA (j : Nat) {p3 ps : Pos} (k : Klass X.K od.C od.names) (h : DE X (FR X.K od) e fe) (hi : DP X (FR X.K od) a fa) (hN : X.N[od.s]? = some x := by rfl) (hv : Vis X.env.scope x := by first | exact E1 rfl | exact CF (E1 rfl) | exact CF (CF rfl)) (hj : od.names[j]? = some f := by rfl) (hd : (x == ("__debug__" : Str)) = false := by decide) (hcd : (x == ("__classdict__" : Str)) = false := by decide)
 (hb:attributeBase (.Name x p) f X.env (eval (.Name x p) X.env)=eval (.Name x p) X.env:=by rfl)
 (ha:∀v,assign (.Subscript (.Attribute (.Name x p) f p3) a ps) X.env v=(do
  let ov <-holding [v] (eval (.Attribute (.Name x p) f p3) X.env)
  let iv <-holding [v,ov] (eval a X.env)
  standAt ps
  holding [v,ov,iv] (setItem ov iv v)
  release [v,ov,iv] []):=by intro _;rfl)
 (hs:swapsWithSole [.Subscript (.Attribute (.Name x p) f p3) a ps] e pos.line X.env=pure false:=by rfl) (hw:swappedStores [.Subscript (.Attribute (.Name x p) f p3) a ps] e X.env=pure none:=by rfl) (h1:(assignEach [.Subscript (.Attribute (.Name x p) f p3) a ps] X.env).map (·.2) = [assign (.Subscript (.Attribute (.Name x p) f p3) a ps) X.env]:=by rfl) :
 DS X (FR X.K od) (.Assign [.Subscript (.Attribute (.Name x p) f p3) a ps] e pos) (mSet (od.n+j) fa fe):=by
 obtain ⟨t,a1,a2⟩:=h;obtain ⟨u,b1,b2⟩:=hi;exact ⟨_,jS a1 (fT (RU (GD hN hv hd hcd) hb) b1 WZ ha) hs hw h1,nB k.cl (k.no f (AJ hj)) hj a2 b2⟩
variable {ps:List Str} {kk jj:Nat} {F:En->List PyData->Option (En×PyData)}
theorem VQ {pl : Sem Bool} (M : MDef X.prog X.w X.K X.mg X.base jj od.C m ps (spM X.K od.C od.names F)) (k : Klass X.K od.C od.names) (hr : Room kk X.A) (h : DA X (FR X.K od) (e :: es) fs) (hjj : jj <= kk := by decide) (hm : m ∉ od.names := by exact AD rfl) (hND : dY F := by exact WN) (hN : X.N[od.s]? = some x := by rfl) (hv : Vis X.env.scope x := by first | exact E1 rfl | exact CF (E1 rfl) | exact CF (CF rfl)) (hd : (x == ("__debug__" : Str)) = false := by decide) (hcd : (x == ("__classdict__" : Str)) = false := by decide)
 (hst:starEach (e::es) X.env=(false,eval e X.env)::starEach es X.env:=by rfl) (hpl:(backTo cpos (starEach es X.env)).any (·.1)=false:=by rfl)
 (ht:eval (.Call (.Attribute (.Name x p) m apos) (e::es) [] cpos) X.env=(do
  let ov <-eval (.Name x p) X.env
  standAt apos.atName
  let (f,first) <-holding [ov] (getMethod ov m pl)
  callWith cpos f first (backTo cpos (starEach (e::es) X.env)) (backToKw cpos (keywordEach [] X.env))):=by rfl)
 (hs:swapsWith (.Call (.Attribute (.Name x p) m apos) (e::es) [] cpos) none pos.line X.env=pure false:=by rfl):DS X (FR X.K od) (.Expr (.Call (.Attribute (.Name x p) m apos) (e::es) [] cpos) pos) (JH od.n F fs fun ρ _=>some (.nx ρ)):=by
 obtain ⟨t,h1,h2⟩:=h;obtain ⟨f,fd,F1,M1,b1⟩:=M.ex;exact ⟨_,Q2 (UQ (pl:=pl) (GD hN hv hd hcd) k.cl M1 F1 (hr.mono hjj) b1 .nil XA h1 hst hpl ht) hs,fO hm hND h2⟩
theorem fS (i : Nat) {pl : Sem Bool} {y : Str} {pos' : Pos} (M : MDef X.prog X.w X.K X.mg X.base jj od.C m ps (spM X.K od.C od.names F)) (k : Klass X.K od.C od.names) (hr : Room kk X.A) (h : DA X (FR X.K od) (e :: es) fs) (hnd : X.N.Nodup) (hjj : jj <= kk := by decide) (hm : m ∉ od.names := by exact AD rfl) (hND : dY F := by exact WN) (hN : X.N[od.s]? = some x := by rfl) (hv : Vis X.env.scope x := by first | exact E1 rfl | exact CF (E1 rfl) | exact CF (CF rfl)) (hd : (x == ("__debug__" : Str)) = false := by decide) (hcd : (x == ("__classdict__" : Str)) = false := by decide)
 (hst:starEach (e::es) X.env=(false,eval e X.env)::starEach es X.env:=by rfl) (hpl:(backTo cpos (starEach es X.env)).any (·.1)=false:=by rfl)
 (ht:eval (.Call (.Attribute (.Name x p) m apos) (e::es) [] cpos) X.env=(do
  let ov <-eval (.Name x p) X.env
  standAt apos.atName
  let (f,first) <-holding [ov] (getMethod ov m pl)
  callWith cpos f first (backTo cpos (starEach (e::es) X.env)) (backToKw cpos (keywordEach [] X.env))):=by rfl)
 (hi:X.N[i]? = some y:=by rfl) (hx:Loc X.env.scope y:=by first | exact E1 rfl | exact CF rfl) (hs:swapsWith (.Call (.Attribute (.Name x p) m apos) (e::es) [] cpos) (some (.Name y pos')) pos.line X.env=pure false:=by rfl) (hf:X.fn y=true\/X.env.scope.names.lookup y=some .local:=by first | exact .inl rfl | exact .inr rfl)
 (hsl:(FR X.K od).slot i:=by exact ⟨AD rfl,AD rfl⟩):DS X (FR X.K od) (.Assign [.Name y pos'] (.Call (.Attribute (.Name x p) m apos) (e::es) [] cpos) pos) (JH od.n F fs fun ρ d=>some (.nx (ρ.set i (some (.val d))))):=by
 obtain ⟨t,h1,h2⟩:=h;obtain ⟨f,fd,F1,M1,b1⟩:=M.ex;exact ⟨_,YY hnd hi hx (UQ (pl:=pl) (GD hN hv hd hcd) k.cl M1 F1 (hr.mono hjj) b1 .nil XA h1 hst hpl ht) hs hf,fF hsl hm hND h2⟩
theorem qI {l : Nat} (M : KDef X.prog X.w X.K X.mg X.base jj C x ps (spM X.K C names F)) (hr : Room kk X.A) (h : DA X R (e :: es) fs) (hl : l = names.length := by rfl) (hjj : jj + 1 <= kk := by decide) (hg : Gl X x := by rfl) (hdb : (x == ("__debug__" : Str)) = false := by decide) (he : starEach (e :: es) X.env = (false, eval e X.env) :: starEach es X.env := by rfl) (hpl : (backTo pos (starEach es X.env)).any (·.1) = false := by rfl) :
 DB X R C names (.Call (.Name x p) (e::es) [] pos) (VZ l F fs):=by
 obtain ⟨t,h1,h2⟩:=h;obtain ⟨f,fd,F1,M1,m1,b1⟩:=M.ex;exact ⟨_,m5 M1 F1 (hr.mono hjj) hg m1 b1 .nil XA h1 hdb he hpl,oE hl h2⟩
theorem nP {G : List PyData -> Option En} (D : Tf.Def X.prog X.w X.K X.mg X.base jj x ps (spO X.K C names G)) (hr : Room kk X.A) (h : DA X R (e :: es) fs) (hj : jj <= kk := by decide) (hg : Gl X x := by rfl)
 (hdb:(x==("__debug__" : Str))=false:=by decide) (he:starEach (e::es) X.env=(false,eval e X.env)::starEach es X.env:=by rfl) (hpl:(backTo pos (starEach es X.env)).any (·.1)=false:=by rfl):DB X R C names (.Call (.Name x p) (e::es) [] pos) (QJ G fs):=by
 obtain ⟨t,h1,h2⟩:=h;exact ⟨_,X6 D hr h1 hj hg hdb he hpl,pH h2⟩
theorem oF (s n : Nat) {fo : En -> Option En} {g : En -> Option Out} {IV : List Stmt} {pos' : Pos} (h : DB X (PR X.K) C names e fo) (hr : ∀ p : Addr, DSs X (FR X.K ⟨C, names, s, n, p⟩) IV g) (hnd : X.N.Nodup) (hsn : s < n := by decide) (hi : X.N[s]? = some x := by rfl) (hx : Loc X.env.scope x := by first | exact E1 rfl | exact CF rfl)
 (hs:swapsWith e (some (.Name x pos')) pos.line X.env=pure false:=by rfl) (hf:X.fn x=true\/X.env.scope.names.lookup x=some .local:=by first | exact .inl rfl | exact .inr rfl):DSs X (PR X.K) (.Assign [.Name x pos'] e pos::IV) (XW n s fo g):=by
 obtain ⟨t,h1,h2⟩:=h;refine ⟨_,VP (YY hnd hi hx h1 hs hf) (u:=fun D σ H=>∃p,(hr p).choose D σ H) (fun pins s σ H D I ⟨p,hp⟩=>(hr p).choose_spec.1 pins s σ H D I hp),xB h2 (fun p=> ?_) hsn⟩;exact fun HB S0 σ ρ H0 H x e o ho D d=>⟨p,(hr p).choose_spec.2 HB S0 σ ρ H0 H x e o ho D d⟩
end
end Dm
namespace Dm
open PySem PySem.Spec PyProof.Rows L2 Tf
def UpK(K J:PySem.W.Frag):Prop:=∀a o,K.lookup a=some o->o≠PySem.W.tabObj #[]->J.lookup a=some o
theorem LJ{K:PySem.W.Frag}{h:Heap}{ts:List Addr}(KX:K.In h)(hT:∀p ∈ ts,h.get? p=some (PySem.W.tabObj #[])):UpK K (JU K ts):=fun _ _ e hne=>HZ (NK KX hT e hne) e
section
variable {K J:PySem.W.Frag}
theorem UpK.ns(u:UpK K J){n:Addr}{x:Str}{v:Option Value}(h:PySem.W.nsIn K n x=some v):PySem.W.nsIn J n x=some v:=by
 unfold PySem.W.nsIn at h ⊢
 split at h
 . rename_i oc od es ep sl e;rw [u _ _ e (fun z=>by cases z)];exact h
 . cases h
theorem UpK.own(u:UpK K J){x:Str}{c:Value}{v:Option Value}(h:PySem.W.ownIn K x c=some v):PySem.W.ownIn J x c=some v:=by
 unfold PySem.W.ownIn at h ⊢
 split at h
 . exact h
 . split at h
   . rename_i oc od cd sl e
     try dsimp only
     rw [u _ _ e (fun z=>by cases z)];exact u.ns h
   . cases h
 . exact h
theorem UpK.along(u:UpK K J){x:Str}{v:Option Value}:∀ {cs:List Value},PySem.W.alongIn K x cs=some v->PySem.W.alongIn J x cs=some v
 | [],h=>h
 | c::r,h=>by
  rw [PySem.W.alongIn] at h ⊢
  split at h
  . rename_i w e;rw [u.own e];exact h
  . rename_i e;rw [u.own e];exact u.along h
  . cases h
theorem UpK.find(u:UpK K J){t:Value}{x:Str}{v:Option Value}(h:PySem.W.findIn K t x=some v):PySem.W.findIn J t x=some v:=by
 unfold PySem.W.findIn at h ⊢
 split at h
 . exact h
 . split at h
   . rename_i oc od cd sl e
     try dsimp only
     rw [u _ _ e (fun z=>by cases z)];exact u.along h
   . cases h
 . cases h
theorem UpK.cls(u:UpK K J){C:Addr}{cd:ClassData}(h:PySem.W.clsIn K C=some cd):PySem.W.clsIn J C=some cd:=by
 unfold PySem.W.clsIn at h ⊢
 split at h
 . rename_i oc od c sl e;rw [u _ _ e (fun z=>by cases z)];exact h
 . cases h
theorem UpK.type(u:UpK K J){v t:Value}(h:PySem.W.typeIn K v=some t)(hne:t ≠ .none\/∀a,v ≠ .ref a):PySem.W.typeIn J v=some t:=by
 unfold PySem.W.typeIn at h ⊢
 split at h
 . rename_i a;obtain ⟨o,e,rfl⟩:=BH.mp h;rcases hne with hne | hne
   . try dsimp only
     rw [u _ _ e (fun z=>by rw [z] at hne;exact hne rfl)];rfl
   . exact absurd rfl (hne a)
 . exact h
 . exact h
 . exact h
theorem UpK.special(u:UpK K J){w:Value}{x:Str}{v:Option Value}(h:PySem.W.specialIn K w x=some v):PySem.W.specialIn J w x=some v:=by
 unfold PySem.W.specialIn at h ⊢
 obtain ⟨t,ht,h⟩:=A0.mp h;rw [u.type ht (.inl fun z=>by subst z;cases h)];exact u.find h
theorem UpK.mro(u:UpK K J){C:Addr}{b:Value}{r:Bool}(h:PySem.W.mroIn K C b=some r):PySem.W.mroIn J C b=some r:=by
 unfold PySem.W.mroIn at h ⊢
 obtain ⟨cd,e,h⟩:=A0.mp h;rw [u.cls e];exact h
theorem UpK.inst(u:UpK K J){v b:Value}{r:Bool}(h:PySem.W.instIn K v b=some r):PySem.W.instIn J v b=some r:=by
 unfold PySem.W.instIn at h ⊢
 obtain ⟨t,ht,h⟩:=Option.bind_eq_some_iff.mp h;rw [u.type ht (.inl fun z=>by subst z;cases h)];show PySem.W.subIn J t b=some r;unfold PySem.W.subIn at h ⊢
 split at h
 . exact h
 . exact u.mro h
 . cases h
theorem UpK.isFn(u:UpK K J){v:Value}(h:PySem.W.isFn K v=true):PySem.W.isFn J v=true:=by
 unfold PySem.W.isFn at h ⊢
 rw [u.type (EH.mp h) (.inl fun z=>by cases z)];rfl
theorem UpK.keep(u:UpK K J){v:Value}(h:PySem.W.keepIn K v=true):PySem.W.keepIn J v=true:=by
 unfold PySem.W.keepIn at h ⊢
 split at h
 . split at h
   . rename_i oc od f sl e
     try dsimp only
     rw [u _ _ e (fun z=>by cases z)]
   . rename_i oc od c sl e
     try dsimp only
     rw [u _ _ e (fun z=>by cases z)]
     try dsimp only
     rw [u.special (EH.mp h)];rfl
   . cases h
 . cases h
theorem UpK.clas(u:UpK K J){C:Addr}(c:Cls K C):Cls J C:=by
 obtain ⟨h1,h2,h3,h4⟩:=c;refine ⟨?_,?_,?_,u.find h4⟩
 . unfold PySem.W.plainGet at h1 ⊢
   obtain ⟨a,b⟩:=xU.mp h1;rw [u.find (EH.mp a),u.find (EH.mp b)];rfl
 . unfold PySem.W.hasDictIn at h2 ⊢
   cases e:PySem.W.clsIn K C with
   | none=>rw [e] at h2;cases h2
   | some cd=>rw [e] at h2;rw [u.cls e];exact h2
 . unfold PySem.W.plainOver at h3 ⊢
   cases e:PySem.W.clsIn K C with
   | none=>rw [e] at h3;cases h3
   | some cd=>rw [e] at h3;rw [u.cls e];exact h3
theorem UpK.klass(u:UpK K J){C:Addr}{names:List Str}(k:Klass K C names):Klass J C names:=⟨u.clas k.cl,fun f hf=>u.find (k.no f hf)⟩
theorem UpK.meth(u:UpK K J){C f:Addr}{m:Str}(k:Meth K C m f):Meth J C m f:=⟨u.find k.at_,u.isFn k.fn,u.keep k.kp⟩
theorem UpK.mk(u:UpK K J){C f:Addr}(k:Mk K C f):Mk J C f:=by
 refine ⟨?_,u.find k.init,u.isFn k.fn,u.keep k.kp⟩;have h:=k.makes;unfold PySem.W.makesIn at h ⊢
 split at h
 . rename_i oc od cd sl e;rw [u _ _ e (fun z=>by cases z)]
   try dsimp only
   simp only [F3] at h ⊢
   obtain ⟨⟨h1,h2⟩,h3⟩:=h;exact ⟨⟨h1,by rw [u.special (EH.mp h2)];rfl⟩,by rw [u.inst (EH.mp h3)];rfl⟩
 . cases h
end
end Dm
namespace Dm
open PySem PySem.Spec L2 Tf
def Wp(g:En->Option Out)(ρ:En)(Z:Out->Prop):Prop:=∃o,g ρ=some o/\Z o
def Nx(P:En->Prop):Out->Prop
 | .nx ρ=>P ρ
 | _=>False
def Rt(r:Sl):Out->Prop
 | .rt r' _=>r'=r
 | _=>False
def Lp(N:En->Prop)(Z:Out->Prop):Out->Prop
 | .nx ρ=>N ρ
 | .ct ρ=>N ρ
 | .bk ρ=>Z (.nx ρ)
 | .rt r ρ=>Z (.rt r ρ)
section
variable {f g:En->Option Out} {ρ:En} {Z:Out->Prop}
theorem R3{o:Out}(h:g ρ=some o)(z:Z o):Wp g ρ Z:=⟨o,h,z⟩
theorem Wp.imp{Y:Out->Prop}(h:Wp g ρ Y)(k:∀o,Y o->Z o):Wp g ρ Z:=by
 obtain ⟨o,h1,h2⟩:=h;exact ⟨o,h1,k o h2⟩
theorem LR(h:Wp f ρ (fun o=>match o with | .nx ρ'=>Wp g ρ' Z | o=>Z o)):Wp (mSeq f g) ρ Z:=by
 obtain ⟨o,h1,h2⟩:=h
 cases o with
 | nx ρ' =>
  obtain ⟨o2,h3,h4⟩:=h2
  exact ⟨o2,by unfold mSeq;rw [h1];exact h3,h4⟩
 | rt r ρ'=>exact ⟨_,by unfold mSeq;rw [h1];rfl,h2⟩
 | bk ρ'=>exact ⟨_,by unfold mSeq;rw [h1];rfl,h2⟩
 | ct ρ'=>exact ⟨_,by unfold mSeq;rw [h1];rfl,h2⟩
theorem EJ{P:En->Prop}(h:Wp f ρ (Nx P))(k:∀ρ',P ρ'->Wp g ρ' Z):Wp (mSeq f g) ρ Z:=by
 refine LR (h.imp fun o ho=> ?_)
 cases o with
 | nx ρ'=>exact k ρ' ho
 | _=>exact ho.elim
theorem FE{ρ':En}(h:f ρ=some (.nx ρ'))(k:Wp g ρ' Z):Wp (mSeq f g) ρ Z:=by
 obtain ⟨o,h1,h2⟩:=k;exact ⟨o,FT h h1,h2⟩
variable {i:Nat} {fe:En->Option Sl} {r:Sl} {c:En->Option Bool} {b:Bool}
theorem FK(h:fe ρ=some r)(k:Z (.nx (ρ.set i (some r)))):Wp (mAsg i fe) ρ Z:=⟨_,EL h,k⟩
theorem BN(h:fe ρ=some r)(k:Wp g (ρ.set i (some r)) Z):Wp (mSeq (mAsg i fe) g) ρ Z:=FE (EL h) k
theorem ED(h:Wp g (frz1 i ρ) Z):Wp (mFrz i g) ρ Z:=h
theorem DL(h:fe ρ=some r)(k:Z (.rt r ρ)):Wp (mRet fe) ρ Z:=⟨_,jI h,k⟩
theorem MC(h:c ρ=some b)(k:Wp (if b then f else g) ρ Z):Wp (mIf c f g) ρ Z:=by
 obtain ⟨o,h1,h2⟩:=k;refine ⟨o,PB h ?_,h2⟩
 cases b <;> exact h1
theorem OB(h:c ρ=some true)(k:Wp f ρ Z):Wp (mIf c f g) ρ Z:=MC (b:=true) h k
theorem YH(h:c ρ=some false)(k:Wp g ρ Z):Wp (mIf c f g) ρ Z:=MC (b:=false) h k
theorem HM(k:Z (.nx ρ)):Wp mNext ρ Z:=⟨_,rfl,k⟩
theorem NL{h:En->Option Out}(hc:c ρ=some false)(k:Wp h ρ Z):Wp (mSeq (mIf c f mNext) h) ρ Z:=FE (PB hc rfl) k
variable {fi:En->Option (List PyData)} {fg:PyData->En->Option En} {ds:List PyData}
theorem V9(P:Nat->En->Prop)(hi:fi ρ=some ds)(h0:P 0 ρ)(hs:∀(j:Nat) d ρ,ds[j]? = some d->P j ρ->∃ρ1,fg d ρ=some ρ1/\Wp g ρ1 (Lp (P (j+1)) Z))(k:∀ρ',P ds.length ρ'->Z (.nx ρ')):Wp (GB fi fg g) ρ Z:=by
 have gen:∀(n j:Nat) ρ,j+n=ds.length->P j ρ->∃o,JZ fg g (ds.drop j) ρ=some o/\Z o:=by
  intro n
  induction n with
  | zero=>
   intro j ρ hj hp;have:j=ds.length:=by omega
   subst this;rw [EB (AA _)]
   exact ⟨_,rfl,k ρ hp⟩
  | succ n ih=>
   intro j ρ hj hp;have hd:ds[j]? = some ds[j]:=A8 (by omega);obtain ⟨ρ1,h1,o,h2,h3⟩:=hs j ds[j] ρ hd hp;rw [LQ hd,h1];simp only [BQ,h2]
   cases o with
   | nx ρ2=>exact ih (j+1) ρ2 (by omega) h3
   | ct ρ2=>exact ih (j+1) ρ2 (by omega) h3
   | bk ρ2=>exact ⟨_,rfl,h3⟩
   | rt r ρ2=>exact ⟨_,rfl,h3⟩
 obtain ⟨o,h1,h2⟩:=gen ds.length 0 ρ (by omega) h0;refine ⟨o,MW hi ?_,h2⟩;simpa using h1
theorem qH(P:Nat->En->Prop){lo:Int}{n:Nat}(hi:fi ρ=some (G8 lo n))(h0:P 0 ρ)(hs:∀(j:Nat) ρ,j<n->P j ρ->∃ρ1,fg (.int (lo+(j:Nat))) ρ=some ρ1/\Wp g ρ1 (Lp (P (j+1)) Z))(k:∀ρ',P n ρ'->Z (.nx ρ')):Wp (GB fi fg g) ρ Z:=by
 refine V9 P hi h0 (fun j d ρ hd hp=> ?_) (by simpa [G8] using k);rw [NB] at hd
 split at hd
 . rename_i hlt
   cases hd
   exact hs j ρ hlt hp
 . cases hd
theorem NP(P:Nat->En->Prop){n:Nat}(hi:fi ρ=some (G8 0 n))(h0:P 0 ρ)(hs:∀(j:Nat) ρ,j<n->P j ρ->∃ρ1,fg (.int (j:Nat)) ρ=some ρ1/\Wp g ρ1 (Lp (P (j+1)) Z))(k:∀ρ',P n ρ'->Z (.nx ρ')):Wp (GB fi fg g) ρ Z:=
 qH P hi h0 (fun j ρ hj hp=>by rw [KJ];exact hs j ρ hj hp) k
theorem FD{α:Type}{en:α->PyData}{xs:List α}(P:Nat->En->Prop)(hi:fi ρ=some (xs.map en))(h0:P 0 ρ)(hs:∀(j:Nat) x ρ,xs[j]? = some x->P j ρ->∃ρ1,fg (en x) ρ=some ρ1/\Wp g ρ1 (Lp (P (j+1)) Z))(k:∀ρ',P xs.length ρ'->Z (.nx ρ')):Wp (GB fi fg g) ρ Z:=by
 refine V9 P hi h0 (fun j d ρ hd hp=> ?_) (by simpa using k);rw [AS] at hd
 obtain ⟨x,hx,rfl⟩:=BH.mp hd;exact hs j x ρ hx hp
theorem kF(P:En->Prop)(μ:En->Nat)(h0:P ρ)(hs:∀ρ,P ρ->(c ρ=some false/\Z (.nx ρ))\/(c ρ=some true/\Wp g ρ (Lp (fun ρ'=>P ρ'/\μ ρ'<μ ρ) Z))):Wp (J8 c g) ρ Z:=by
 have gen:∀(n:Nat) ρ,μ ρ<n->P ρ->∃o,FH c g n ρ=some o/\Z o:=by
  intro n
  induction n with
  | zero=>intro ρ h;omega
  | succ n ih=>
   intro ρ hm hp;rcases hs ρ hp with ⟨h,z⟩ | ⟨h,o,h1,h2⟩
   . exact ⟨.nx ρ,by simp [FH,h],z⟩
   . cases o with
     | nx ρ2=>
      obtain ⟨o,h4,h5⟩:=ih ρ2 (by have:=h2.2;omega) h2.1
      exact ⟨o,by simp [FH,h,h1,h4],h5⟩
     | ct ρ2=>
      obtain ⟨o,h4,h5⟩:=ih ρ2 (by have:=h2.2;omega) h2.1
      exact ⟨o,by simp [FH,h,h1,h4],h5⟩
     | bk ρ2=>exact ⟨_,by simp [FH,h,h1],h2⟩
     | rt r ρ2=>exact ⟨_,by simp [FH,h,h1],h2⟩
 obtain ⟨o,h1,h2⟩:=gen (μ ρ+1) ρ (by omega) h0;exact ⟨o,T4 h1,h2⟩
theorem EI{n k:Nat}{ds:List PyData}(hl:ds.length=k)(e:ds.map (fun d=>some (Sl.val d))++List.replicate (n - ds.length) none=ρ)(h:Wp g ρ (Rt r)):F4 n g k ds=some r:=by
 obtain ⟨o,h1,h2⟩:=h
 cases o with
 | rt r' ρ'=>cases h2;exact FF hl e ⟨ρ',h1⟩
 | _=>exact h2.elim
end
theorem u9{a b:En->Option Bool}{ρ:En}{k l:Bool}(h1:a ρ=some k)(h2:b ρ=some l):mAnd a b ρ=some (k && l):=by
 unfold mAnd;rw [h1]
 cases k
 . rfl
 . exact h2
theorem sQ{a:En->Option Bool}{ρ:En}{k:Bool}(h1:a ρ=some k):mNot a ρ=some (!k):=by
 unfold mNot;rw [h1];rfl
theorem IW{fa fb:En->Option Sl}{ρ:En}{i j:Int}(ha:fa ρ=some (.val (.int i)))(hb:fb ρ=some (.val (.int j))):mTest (mBin deq fa fb) ρ=some (decide (i=j)):=by
 unfold mTest mBin;rw [ha,Option.bind_some,hb,Option.bind_some];show Option.bind ((eqD (.int i) (.int j)).map _) _=_;rw [eqD_int];rfl
theorem qO{fa fb:En->Option Sl}{ρ:En}{a b:Sl}(ha:fa ρ=some a)(hb:fb ρ=some b)(h:a.dat=b.dat)(h1:b.dat.canLay0=true)(h2:b.dat.depth<=60):mTest (mBin dne fa fb) ρ=some false:=by
 unfold mTest mBin;rw [ha,Option.bind_some,hb,Option.bind_some];show Option.bind ((eqD a.dat b.dat).map _) _=_;rw [h,gX h1 h2];rfl
def il(l:List Int):List PyData:=l.map .int
def nl(l:List Nat):List PyData:=l.map fun n:Nat=>PyData.int (n:Int)
theorem QM(l:List Int):(il l).length=l.length:=A4 ..
theorem MS(l:List Nat):(nl l).length=l.length:=A4 ..
theorem U8(a b:List Nat):nl (a++b)=nl a++nl b:=BJ ..
theorem iH(a b:List Int):il (a++b)=il a++il b:=BJ ..
theorem atI_nat{α:Type}{xs:List α}{j:Nat}{x:α}(h:xs[j]? = some x):atI xs (j:Int)=some x:=by
 obtain ⟨hj,e⟩:=List.getElem?_eq_some_iff.mp h;unfold atI ixN;rw [if_pos (by omega),if_pos (by omega)];simpa using h
theorem GR{s:Sl}{ds:List PyData}{j:Nat}{d:PyData}(hs:s.dat = .list ds\/s.dat = .tuple ds)(h:ds[j]? = some d):dix s (.val (.int (j:Int)))=some (.val d):=by
 unfold dix;rcases hs with hs | hs <;> simp only [hs,atI_nat h,Option.map_some]
end Dm
namespace Tf
open PySem PySem.Spec PyProof.Rows L2
def Itv(K:PySem.W.Frag)(a:Addr)(n:Nat):It:=
 ⟨fun i H=>∃xs x,xs.length=n/\SqL K H a xs/\xs.reverse[i]? = some x,fun i H v H'=>H'=H/\∀xs,SqL K H a xs->xs.reverse[i]? = some v,fun i H=>n<=i⟩
theorem vR{α:Type}{xs:List α}{i:Nat}{x:α}(h:xs.reverse[i]? = some x):i<xs.length/\xs[xs.length - 1 - i]? = some x:=by
 have hi:i<xs.length:=by
  obtain ⟨q,_⟩:=B6.mp h;simpa using q
 rw [PD hi] at h
 exact ⟨hi,h⟩
theorem g9{P:Program}{w:World}{K:PySem.W.Frag}{tg:Expr}(a it:Addr)(n:Nat):Turn P w K tg (Itv K a n) [it] it (fun i h=>i<=n/\h.IsRevIter it a ((n:Int) - 1 - (i:Nat))) where
 mem:=B9.mpr rfl
 obj:=fun i h st b hb=>by
  cases B9.mp hb
  obtain ⟨_,o,e,_,d⟩:=st;refine ⟨o,e,fun v z=> ?_⟩;rw [d] at z
  cases z
 keep:=fun i h h' st k=>⟨st.1,st.2.at fun o e=>k it (B9.mpr rfl) o e⟩
 item:=by
  intro X hP hw hK hc i pins s σ H E I hf st hg;subst hP hw hK;obtain ⟨xs,x,hn,hq,hx⟩:=hg;obtain ⟨hi,hx'⟩:=vR hx;obtain ⟨its,rv,p,hz⟩:=I.list hq;obtain ⟨u,hu,ru⟩:=rv.get hx';obtain ⟨f0,f1,f2,f3,f4,f5⟩:=hf it (B9.mpr rfl);have e1:((n:Int) - 1 - (i:Nat))=((xs.length - 1 - i:Nat):Int):=by omega
  have hit:=st.2;rw [e1] at hit
  refine wpAny_pyNext_rev_item hit p.isList (x:=u) (by simpa using hu) fun h' st' sb=> ?_;have I1:Inv X pins σ H {s with heap:=h' }:=I.turned (t':=s.toks) (fun b o hb e=>(sb.2 b hb).trans e) f0 f1 f3 f4 f5;have e2:((xs.length - 1 - i:Nat):Int) - 1=(n:Int) - 1 - ((i+1:Nat):Int):=by omega
  rw [e2] at st'
  obtain ⟨o,e,c,d⟩:=id st';refine ⟨u,rfl,W0 (s:={s with heap:=h' }) e c d (by decide) ⟨x,H,I1,ru,⟨rfl,fun ys hy=> ?_⟩,⟨by omega,st'⟩,fun b hb=>(hf b hb).1⟩⟩;rw [I.list_inj hy hq];exact hx
 done:=by
  intro X hP hw hK hc i pins s σ H E I hf st hg;subst hP hw hK;obtain ⟨f0,f1,f2,f3,f4,f5⟩:=hf it (B9.mpr rfl);have hn:n<=i:=hg;have e1:((n:Int) - 1 - (i:Nat)) = -1:=by have:=st.1;omega
  have hit:=st.2;rw [e1] at hit
  exact wpAny_pyNext_rev_end (I.ok.hd hc) hit fun h' eb=>⟨rfl,I.turned (t':=s.toks) (fun b o hb e=>eb b o hb e) f0 f1 f3 f4 f5⟩
 self:=fun _ _ _ _ _ st h=>A47 st.2 h
section
variable {X:Cx}
def yT(K:PySem.W.Frag)(ta:TA):TI:=fun σ H R=>ta σ H fun vs H1=>∃l xs,vs = [.ref l]/\SqL K H1 l xs/\R (Itv K l xs.length) H1
theorem ON{h:Heap}{l:Addr}{i:Int}:(h.push (revObj l i)).IsRevIter h.objs.size l i:=⟨_,B7 _ rfl,rfl,rfl⟩
theorem xG {tg a:Expr} {ta:TA} {p pos:Pos} (hg:Gl X "reversed") (hm:X.mg "reversed" = none) (ha:PA X [a] ta) (hs:starEach [a] X.env = [(false,eval a X.env)]:=by rfl):PI X tg (.Call (.Name "reversed" p) [a] [] pos) (yT X.K ta):=by
 intro pins s σ H R I h;refine Call_ (JA I hg hm P4 (C7 (thn (ha pos pins s σ H _ I h) fun us s1 ⟨vs,H1,I1,r1,q1⟩ => ?_) hs rfl));obtain ⟨l,xs,e,hq,q⟩:=q1;subst e;obtain ⟨u,rfl,ru⟩:=L3 r1
 cases (show u=Value.ref l from ru)
 obtain ⟨its,rv,p1,hz⟩:=I1.list hq;have hl:=rv.length;refine call_reversed_list p1.isList ?_;refine A47 ON ?_;refine ⟨s1.heap.objs.size,[s1.heap.objs.size],_,_,H1,rfl,I1.kept (t':=s1.toks) fun b o e=>A5 _ e,g9 l _ xs.length,⟨DZ _,?_⟩,fun b hb=> ?_,q⟩
 . have e:((its.toArray.size:Nat):Int) - 1=(xs.length:Int) - 1 - ((0:Nat):Int):=by simp;omega
   rw [<-e];exact ON
 . cases B9.mp hb
   exact I1.fpOk (AA _) (I1.hok.fresh (AA _))
end
theorem cT:typeLookup (.type "list_reverseiterator") "__len__" = pure none:=by rw [typeLookup_type,A43];kernel_rfl
theorem lL:typeLookup (.type "list_reverseiterator") "__length_hint__" = pure (some (.builtin "list_reverseiterator.__length_hint__")):=by rw [typeLookup_type,A43];kernel_rfl
section
variable {prog:Program} {w:World} {A:Around} {E:Value->Shared->Prop} {s:Shared} {it:Addr} {F W:List Addr} {G:Array GenState->Array GenState->Prop} {n:Nat} {P:Nat->Value->Prop} {St:Nat->Shared->Prop}
theorem oX {Q : List Value -> Shared -> Prop} (V : WalksS prog w A.in1 it F W G n P St) (ty : ∀ i s, St i s -> s.TypeIs (.ref it) "list_reverseiterator") (st : St 0 s) (lt : ∀ b ∈ F, b < s.heap.objs.size) (mem : it ∈ F)
 (q:∀s' acc,Moved W G s s'->ItemsOf P acc n->Q acc.toList s') (hn:n<=sizeLine):wpAny (model prog w) A (collect (.ref it)) Q E s:=by
 have out:s.heap.objs.size ∉ F:=fun z=>Nat.lt_irrefl _ (lt _ z);have ne:s.heap.objs.size≠it:=fun z=>out (z ▸ mem);unfold collect;refine wpAny_bind (wpAny_runValue (codeAny_builtin PySem.F.entry_proto_collect ?_));rw [Around.under_plainId PySem.F.plain_proto_collect _];show wpAny _ A.in1 (newList [] >>= fun z=>again (.builtin "list.__iadd__" ⟨[z, .ref it],[]⟩)) _ _ s;refine wpAny_bind (wpAny_newObj_type ?_);refine wpAny_pure ⟨plainId_quiet PySem.F.plain_list_iadd _,codeAny_builtin PySem.F.entry_list_iadd ?_⟩;rw [Around.under_plainId PySem.F.plain_list_iadd _];have st1:=V.frame 0 s (s.heap.push {cls:= .type "list",data:= .seq ([]:List Value).toArray}) s.toks st (Nat.le_refl _) fun b _ o z=>Heap.get?_push_of_some _ z;have new:(s.heap.push {cls:= .type "list",data:= .seq ([]:List Value).toArray}).get? s.heap.objs.size=some {cls:= .type "list",data:= .seq ([]:List Value).toArray}:=Heap.get?_push_size _ rfl;have un:Builtin.List.listSameRef (.ref s.heap.objs.size) (.ref it)=false:=by simp [Builtin.List.listSameRef,ne]
 show wpAny _ A.in1 (Builtin.List.listExtendWith (.ref s.heap.objs.size) (.ref it) (.ref s.heap.objs.size)) _ _ _;unfold Builtin.List.listExtendWith;refine wpAny_bind (wpAny_typeOf (ty 0 _ st1) ?_);rw [if_neg (by rw [un];decide)];refine wpAny_bind (V.self 0 _ _ _ st1 ?_);refine wpAny_bind (wpAny_holding ?_);unfold Builtin.List.listLengthHint;refine wpAny_bind (wpAny_specialOf (ty 0 _ st1) cT ?_);show wpAny _ A.in1 (specialOf (Value.ref it) (Str.ofString "__length_hint__") >>= _) _ _ _;refine wpAny_bind (wpAny_specialOf (ty 0 _ st1) lL ?_)
 (generalize hid:("list_reverseiterator.__length_hint__" : String)=id0;(fail_if_success (clear hid id0));wp_delta;rw [show splitId id0=some ("list_reverseiterator","__length_hint__") from by subst hid;decide +kernel];subst hid)
 refine A7 (wpAny_isInstance (b:=true) (ty 0 _ st1) (by rw [isSubtype_type];kernel_rfl) ?_);refine AX ?_;rw [AR (by decide)];refine AX ⟨plainId_quiet PySem.F.plain_extend_loop _,codeAny_extend_loopS V hn _ out _ n 0 _ _ _ rfl (DZ _) st1 new (ItemsOf.nil P) fun s' acc' c' mv got all=> ?_⟩;show wpAny _ A (load s.heap.objs.size >>= _) _ _ s';refine A7 (wpAny_load got ?_);exact AX (q s' acc' (Moved.drop_new (o:={cls:= .type "list",data:= .seq ([]:List Value).toArray}) (tk:=s.toks) mv (AA _)) all)
theorem SK {Q₁ : Value -> Shared -> Prop} (V : WalksS prog w A.in1.in1 it F W G n P St) (ty : ∀ i s, St i s -> s.TypeIs (.ref it) "list_reverseiterator") (st : St 0 s) (lt : ∀ b ∈ F, b < s.heap.objs.size) (mem : it ∈ F)
 (q:∀s' acc,Moved W G s s'->ItemsOf P acc n->Q₁ (.ref s'.heap.objs.size) {s' with heap:=s'.heap.push {cls:= .type "tuple",data:= .seq acc} }) (hn:n<=sizeLine) :
 codeAny (model prog w) A (.call (.builtin "tuple.__new__") ⟨[.type "tuple", .ref it],[]⟩) (wants Q₁ E) s:=by
 refine codeAny_of_tree ?_;show wpAny _ A.in1 (do checkBuiltinCall "tuple.__new__" ⟨[.type "tuple", .ref it],[]⟩;again (.builtin "tuple.__new__" ⟨[.type "tuple", .ref it],[]⟩)) _ _ s;refine A7 (wpAny_of_eq (PySem.F.newCall_tuple_1 _) (AX ⟨plainId_quiet qQ _,codeAny_builtin PySem.F.entry_tuple_new ?_⟩));rw [Around.under_plainId qQ _];have hsub:=sub_tuple_self;have hinit:=init_tuple_lookup;have hmh:=madeHere_tuple;have ty0:=ty 0 s st
 wp_walk using wpAny_typeOf ty0,oX (hn:=hn) V ty st lt mem
 intro s' acc mv all;show wpAny _ _ (Builtin.Tuple.tupleExact acc.toList.toArray >>= fun z=>ret z) _ _ _;unfold Builtin.Tuple.tupleExact;refine wpAny_bind (wpAny_newObj_type ?_ (by show acc.toList.toArray.size<=sizeLine;simp only [Array.toArray_toList];rw [all.1];exact hn));refine wpAny_pure ?_;have e:acc.toList.toArray=acc:=by simp
 rw [e];exact q s' acc mv all
theorem SJ {Q : Value -> Shared -> Prop} (V : WalksS prog w A.in1.in1.in1 it F W G n P St) (ty : ∀ i s, St i s -> s.TypeIs (.ref it) "list_reverseiterator") (st : St 0 s) (lt : ∀ b ∈ F, b < s.heap.objs.size) (mem : it ∈ F)
 (q:∀s' acc,Moved W G s s'->ItemsOf P acc n->Q (.ref s'.heap.objs.size) {s' with heap:=s'.heap.push {cls:= .type "tuple",data:= .seq acc} }) (hn:n<=sizeLine) :
 wpAny (model prog w) A (call (.type "tuple") [.ref it]) Q E s:=by
 refine callType_codes (Q₁:=fun obj t=>t.TypeIs obj "tuple" /\ Q obj t) QC (PySem.F.typeCall_tuple_1 _) PySem.F.entry_object_init
  (SK (hn:=hn) V ty st lt mem fun s' acc mv all=>⟨⟨_,B7 _ rfl,rfl⟩,q s' acc mv all⟩) fun obj t ht=> ?_
 exact ⟨ht.1,PySem.F.args_object_init_2 obj _,object_init_meets QC.init.lookup QC.made (by decide) prog w A.in1 _ t ⟨ht.1,rfl,ht.2⟩⟩
end
section
variable {X:Cx}
def bM(K:PySem.W.Frag)(ta:TA):TE:=fun σ H Q=>ta σ H fun vs H1=>∃l xs,vs = [.ref l]/\SqL K H1 l xs/\∀p,H1 p=none->Q (.ref p) (upd H1 p (.tup xs.reverse))
theorem dS {a : Expr} {ta : TA} {p p2 pos pos2 : Pos} (hc : X.calm = true) (hg : Gl X "reversed") (hm : X.mg "reversed" = none) (hg2 : Gl X "tuple") (hm2 : X.mg "tuple" = none) (ha : PA X [a] ta) (hs : starEach [a] X.env = [(false, eval a X.env)] := by rfl)
 (hs2:starEach [.Call (.Name "reversed" p) [a] [] pos] X.env = [(false,eval (.Call (.Name "reversed" p) [a] [] pos) X.env)]:=by rfl):PE X (.Call (.Name "tuple" p2) [.Call (.Name "reversed" p) [a] [] pos] [] pos2) (bM X.K ta):=by
 intro pins s σ H Q I h;refine H9 (JA I hg2 hm2 NW ?_);refine C7 ?_ hs2 rfl;rw [hs2];show wpAny _ _ (spliced ((false,eval (.Call (.Name "reversed" p) [a] [] pos) X.env) :: [])) _ _ s;refine Calls.spliced_cons ?_;refine H9 (JA I hg hm P4 ?_);refine C7 (thn (ha pos pins s σ H _ I h) fun us s1 ⟨vs,H1,I1,r1,q1⟩ => ?_) hs rfl;obtain ⟨l,xs,e,hq,q⟩:=q1;subst e;obtain ⟨u,rfl,ru⟩:=L3 r1
 cases (show u=Value.ref l from ru)
 obtain ⟨its,rv,p1,hz⟩:=I1.list hq;have hl:=rv.length;refine call_reversed_list p1.isList ?_;refine Calls.spliced_nil ?_;have I2:Inv X pins σ H1 {s1 with heap:=s1.heap.push (revObj l ((its.toArray.size:Int) - 1))}:=I1.kept (t':=s1.toks) fun b o e=>A5 _ e;have lt1:l<s1.heap.objs.size:=by obtain ⟨o,n,e,_⟩:=p1;exact AZ e
 have hd:X.A.handled=none:=I1.ok.hd hc;have V:=(Walks.listRev (prog:=X.prog) (w:=X.w) (A:=X.A.in1.in1.in1) hd s1.heap.objs.size l (D4 lt1) its.toArray).toS;obtain ⟨f0,f1,f2,f3,f4,f5⟩:=I1.fpOk (b:=s1.heap.objs.size) (AA _) (I1.hok.fresh (AA _));have hz':its.toArray.size<=sizeLine:=by simp only [AU];omega
 refine SJ (s:={s1 with heap:=s1.heap.push (revObj l ((its.toArray.size:Int) - 1))}) V (fun i t st=>st.2.1.typeIs) ⟨DZ _,?_,?_⟩ (fun b hb=> ?_) (D8 ..) (fun s' acc mv all=> ?_) hz'
 . have e:((its.toArray.size:Int) - 1 - ((0:Nat):Int))=(its.toArray.size:Int) - 1:=by omega
   rw [e];exact ON
 . exact p1.isList.push _
 . show b<(s1.heap.push _).objs.size;rw [DC];simp only [B8,BK,EM] at hb
   rcases hb with rfl | rfl
   . exact HR _
   . exact A32 lt1
 . obtain ⟨h',g',d',tk',os'⟩:=s';obtain ⟨mh,mg,md,mo,mt⟩:=mv;have e1:g'=s1.gens:=mg;have e2:d'=s1.drawn:=md;have e3:os'=s1.os:=mo;subst e1 e2 e3;have I3:Inv X pins σ H1 {s1 with heap:=h',toks:=tk' }:=I2.turned (fun b o hb e=>mh b o (by simpa using hb) e) f0 f1 f3 f4 f5
   have ra:∃ys:List Value,acc=ys.toArray/\ys=its.reverse:=by
    refine ⟨acc.toList,by simp,?_⟩;refine VE fun i=> ?_;have hsz:acc.size=its.length:=by simpa using all.1
    by_cases hi:i<its.length
    . have hlt:i<acc.size:=by omega
      have h1:=all.2 i acc[i] (by simp [hlt]);rw [PD hi];simp only [Array.getElem?_toList];rw [Array.getElem?_eq_getElem hlt, <-h1];simp
    . rw [BZ (by simp;omega),BZ (by simp;omega)]
   obtain ⟨ys,rfl,rfl⟩:=ra;have rr:Vals xs.reverse its.reverse:=rv.reverse
   have I4:Inv X pins σ (upd H1 h'.objs.size (.tup xs.reverse)) {s1 with heap:=h'.push {cls:= .type "tuple",data:= .seq its.reverse.toArray},toks:=tk' } :=
    I3.laid (t':=tk') (fun b o e=>A5 _ e) (AA _) (show ObjOk X.prog X.w _ _ _ (.tup xs.reverse) from ⟨by rw [List.length_reverse];exact hz,its.reverse,rr,A25 _ _⟩)
   exact ⟨.ref h'.objs.size,_,I4,rfl,q _ (I3.hok.fresh (AA _))⟩
def zS(K:PySem.W.Frag)(tl:TE):TI:=fun σ H R=>tl σ H fun x H1=>∃a,x = .ref a/\(((∃xs,SqL K H1 a xs)/\R (Itl K a) H1)\/((∃xs,SqT K H1 a xs)/\R (Itt K a) H1))
theorem uA{tg l:Expr}{tl:TE}(hl:PE X l tl):PI X tg l (zS X.K tl):=by
 intro pins s σ H R I h;refine thn (hl pins s σ H _ I h) fun v s1 ⟨x,H1,I1,r1,q1⟩ => ?_;obtain ⟨a,e,⟨⟨xs,hq⟩,q⟩ | ⟨⟨xs,hq⟩,q⟩⟩:=q1
 . subst e
   cases r1
   obtain ⟨its,rv,p,hz⟩:=I1.list hq;refine wpAny_pyIter_list p.isList ?_;refine ⟨s1.heap.objs.size,[s1.heap.objs.size],_,_,H1,rfl,I1.kept (t':=s1.toks) fun b o e=>A5 _ e,TM a _,⟨_,B7 _ rfl,rfl,rfl⟩,fun b hb=> ?_,q⟩
   cases B9.mp hb
   exact I1.fpOk (AA _) (I1.hok.fresh (AA _))
 . subst e
   cases r1
   obtain ⟨its,rv,p,hz⟩:=I1.tuple hq;refine cF (show s1.heap.IsTuple a its.toArray from p) ?_;refine ⟨s1.heap.objs.size,[s1.heap.objs.size],_,_,H1,rfl,I1.kept (t':=s1.toks) fun b o e=>A5 _ e,XY a _,⟨_,B7 _ rfl,rfl,rfl⟩,fun b hb=> ?_,q⟩
   cases B9.mp hb
   exact I1.fpOk (AA _) (I1.hok.fresh (AA _))
end
end Tf
namespace Dm
open PySem PySem.Spec PyProof.Rows L2 Tf
section
variable {K:PySem.W.Frag} {R:Rl} [RelOk K R]
theorem Reps.rev{H:Hp}:∀ {vs:List V} {ds:List PyData},Reps K H vs ds->Reps K H vs.reverse ds.reverse
 | _,_, .nil=> .nil
 | _,_, .cons a t=>by
  rw [IS,IS];exact Reps.append (Reps.rev t) (.cons a .nil)
theorem tF{H0:Hp}{a:Addr}{vs:List V}{ds:List PyData}(h:SqL K H0 a vs)(r:Reps K H0 vs ds):ItR K H0 (Itv K a vs.length) ds.reverse:=fun H0' H' s s' i=>by
 have h':=s'.seq (s.seq h);refine ⟨fun d hd=> ?_,fun hi=>show vs.length<=i by rw [r.length];simpa using hi⟩;obtain ⟨v,e1,e2⟩:=Tf.Reps.get (Reps.rev r) hd;refine ⟨⟨vs,v,rfl,h',e1⟩,fun x H2 y=> ?_⟩;obtain ⟨rfl,y⟩:=y;have:=y vs h';rw [e1] at this
 cases this
 exact ⟨H0',Ext.refl s',Rep.same s e2⟩
def fZ(f:En->Option (List PyData)):En->Option (List PyData):=fun ρ=>(f ρ).bind fun a=>match a with
 | [.list xs]=>some xs.reverse
 | _=>none
theorem wW{ta:TA}{f:En->Option (List PyData)}(h:RA K R ta f):RI K R (yT K ta) (fZ f):=fun HB σ ρ H0 H s e ds hd R q=>by
 obtain ⟨a,ha,hd⟩:=A0.mp hd
 split at hd
 . cases hd
   refine h HB σ ρ H0 H s e _ ha _ fun vs H1 J1 x1 p1=> ?_
   cases p1 with | cons p1 t=>
    cases t
    cases p1 with | list a1 a2=>
     exact ⟨_,_,rfl,x1.s1.seq a1,q _ _ _ x1 (tF a1 a2)⟩
 . cases hd
def Q8:List Sl->Option Sl
 | [a]=>match a.dat with
  | .list ds=>some (.val (.tuple ds.reverse))
  | _=>none
 | _=>none
theorem fA{ta:TA}{f:En->Option (List Sl)}(h:RQ K R ta f):RE K R (bM K ta) (mCallP Q8 f):=fun HB σ ρ H0 H s e z hz Q q=>by
 obtain ⟨ss,hd,hz⟩:=Option.bind_eq_some_iff.mp hz;refine h HB σ ρ H0 H s e ss hd _ fun vs H1 J1 x1 p1=> ?_;unfold Q8 at hz
 split at hz
 . obtain ⟨v,rfl,pa⟩:=IK p1
   split at hz
   . rename_i ds hds
     cases hz
     obtain ⟨a,vs,rfl,h1,h2⟩:=pa.lst x1.s1 hds;exact ⟨a,vs,rfl,h1,fun p hp=>q _ _ _ (x1.trans (Ext.allocF x1.s1 hp _)) (.tuple (SqT.of C9) (Reps.same (Same.upd (x1.s1.free hp) _) (Reps.rev h2)))⟩
   . cases hz
 . cases hz
def D5(f:En->Option Sl):En->Option (List PyData):=fun ρ=>(f ρ).bind fun a=>match a.dat with
 | .list ds=>some ds
 | .tuple ds=>some ds
 | _=>none
theorem vP{te:TE}{f:En->Option Sl}(h:RE K R te f):RI K R (zS K te) (D5 f):=fun HB σ ρ H0 H s e ds hd R q=>by
 obtain ⟨a,ha,hd⟩:=A0.mp hd
 split at hd
 . rename_i es he
   cases hd
   refine h.rv HB σ ρ H0 H s e a.dat (by unfold mDat;rw [ha];rfl) _ fun v H1 J1 x1 p1=> ?_;rw [he] at p1
   cases p1 with
   | list h1 h2=>exact ⟨_,rfl, .inl ⟨⟨_,x1.s1.seq h1⟩,q _ _ _ x1 (aF h1 h2)⟩⟩
 . rename_i es he
   cases hd
   refine h.rv HB σ ρ H0 H s e a.dat (by unfold mDat;rw [ha];rfl) _ fun v H1 J1 x1 p1=> ?_;rw [he] at p1
   cases p1 with
   | tuple h1 h2=>exact ⟨_,rfl, .inr ⟨⟨_,x1.s1.seqT h1⟩,q _ _ _ x1 (wE h1 h2)⟩⟩
 . cases hd
def dI(i:Nat)(f:En->Option Sl):En->Option Out:=fun ρ=>match (ρ[i]?).join with
 | some (.own ds)=>(f ρ).bind fun r=>match r with
  | .own es=>if ds.length+es.length<=sizeLine then some (.nx (ρ.set i (some (.own (ds++es))))) else none
  | _=>none
 | _=>none
theorem vB{te:TE}{f:En->Option Sl}{i:Nat}(hsl:R.slot i)(h:RE K R te f):RS K R (WR (tBM K "list" rExtend (KL i) (SQ te tNil))) (dI i f):=fun HB S0 σ ρ H0 H x e o ho D d=>by
 unfold dI at ho
 split at ho
 . rename_i ds hj;obtain ⟨r,hr,ho⟩:=A0.mp ho
   split at ho
   . rename_i es
     split at ho
     . rename_i hl
       cases ho
       obtain ⟨a,vs,hi,hs,g1,g2,g3,g4⟩:=U6 (K:=K) e hsl hj;refine ⟨.ref a,hs, .inl ⟨rfl,vs,SqL.of g3⟩,?_⟩;refine h HB σ ρ H0 H x.s1 e _ hr _ fun v H1 J1 x1 p1=> ?_;obtain ⟨a',vs',rfl,n1,n2,n3,n4⟩:=p1;have l0:=x1.own a _ g3 DJ g2;refine ⟨a,a',vs,vs',rfl,rfl,x1.s _ _ g3,n3,by rw [g4.length,n4.length];exact hl,?_⟩;exact d σ H1 _ ((x.chain x1).write g1 l0 _) ⟨RelOk.write (K:=K) (e.ext (K:=K) x1).r hsl hi hs g1 l0 (x1.s _ _ g3) (Reps.append (Reps.same x1.s0 g4) n4)⟩
     . cases ho
   . cases ho
 . cases ho
def WW(K:PySem.W.Frag)(i:Nat)(a:Addr)(ds:List PyData):Rl:=⟨fun HB H0 H σ ρ=>ER K HB H0 H σ ρ/\σ[i]? = some (some (.ref a))/\ρ[i]? = some (some (.own ds)),fun k=>k≠i/\(0:Nat)=0⟩
instance relOk_Pin {i:Nat} {a:Addr} {ds:List PyData}:RelOk K (WW K i a ds) where
 ext:=fun x e=>⟨ER.ext x e.1,e.2⟩
 get:=fun e _ h=>ER.get e.1 _ _ h
 set:=fun {_ _ _ _ _ _ _ k _ _} e hs x s h=>⟨(relOk_PR (K:=K)).set e.1 trivial x s h,by rw [AI hs.1];exact e.2.1,by rw [AI hs.1];exact e.2.2⟩
 write:=fun e hs h1 h2 h3 h4 h5 h6=>⟨(relOk_PR (K:=K)).write e.1 trivial h1 h2 h3 h4 h5 h6,e.2.1,by rw [AI hs.1];exact e.2.2⟩
 frz:=fun e hs h x=>by
  obtain ⟨H0',h1,h2⟩:=(relOk_PR (K:=K)).frz e.1 trivial h x;exact ⟨H0',h1,h2,e.2.1,by rw [AI hs.1];exact e.2.2⟩
def tEx(t:Addr->List PyData->TS):TS:=fun D σ H=>∃a ds,t a ds D σ H
def TY(i:Nat)(fg:PyData->En->Option En)(gb:En->Option Out):En->Option Out:=fun ρ=>match (ρ[i]?).join with
 | some (.own ds)=>JZ fg gb ds ρ
 | _=>none
theorem YT{HB H0 H:Hp}{σ:L2.St}{ρ:En}{i:Nat}{a:Addr}{ds:List PyData}(e:ST (WW K i a ds) HB H0 H σ ρ):ST (PR K) HB H0 H σ ρ:=⟨e.r.1⟩
theorem mH {g : Addr -> List PyData -> TG} {tb : Addr -> List PyData -> TS} {i : Nat} {fg : PyData -> En -> Option En} {gb : En -> Option Out} (hg : ∀ a ds, RG K (WW K i a ds) (g a ds) fg) (hb : ∀ a ds, RS K (WW K i a ds) (tb a ds) gb) :
 RS K (PR K) (wM (jJ K (KL i)) (fun v σ H Q=>∃a ds,g a ds v σ H Q) (tEx tb)) (TY i fg gb):=fun HB S0 σ ρ H0 H x e o ho D d=>by
 unfold TY at ho
 split at ho
 . rename_i ds hj;obtain ⟨a,vs,hi,hs,g1,g2,g3,g4⟩:=U6 (K:=K) e trivial hj;refine ⟨.ref a,hs,a,rfl,⟨vs,SqL.of g3⟩,?_⟩;refine ⟨fun n m σ' H'=>m=ds.length - n/\∃ρ' H0',n<=ds.length/\Ext S0 HB H0' H'/\ST (WW K i a ds) HB H0' H' σ' ρ'/\JZ fg gb (ds.drop n) ρ'=some o,⟨_,rfl,ρ,H0,DZ _,x,⟨e.r,hs,hi⟩,by simpa using ho⟩,?_⟩;rintro n m σ1 H1 ⟨rfl,ρ1,H01,hle,x1,e1,hf⟩;obtain ⟨v,w1,w2⟩:=ER.get e1.r.1 _ _ e1.r.2.2;rw [e1.r.2.1] at w1
   cases w1
   obtain ⟨a',vs1,ea,b1,b2,b3,b4⟩:=w2
   cases ea
   by_cases hlt:n<ds.length
   . right;have hd:ds[n]? = some ds[n]:=A8 hlt;obtain ⟨v1,c1,c2⟩:=Tf.Reps.get b4 hd;rw [LQ hd] at hf
     obtain ⟨ρ2,hr2,hf⟩:=A0.mp hf;obtain ⟨o2,ho2,hf⟩:=A0.mp hf
     refine ⟨⟨vs1,v1,SqL.of b3,c1⟩,fun σ' H'=>∃ρ' H0',Ext S0 HB H0' H'/\ST (WW K i a ds) HB H0' H' σ' ρ'/\JZ fg gb (ds.drop (n+1)) ρ'=some o,
      fun σ' H' ⟨ρ',H0',z1,z2,z3⟩=>⟨ds.length - (n+1),by omega,rfl,ρ',H0',hlt,z1,z2,z3⟩,fun u H2 y=> ?_⟩
     obtain ⟨rfl,y⟩:=y;have hu:=y vs1 (SqL.of b3);rw [c1] at hu
     cases hu
     refine ⟨a,ds,hg a ds HB σ1 ρ1 ρ2 H01 H2 v1 _ x1.s1 x1.s e1 c2 hr2 _ fun σ2 e2=>⟨a,ds,?_⟩⟩;refine hb a ds HB S0 σ2 ρ2 H01 H2 x1 e2 o2 ho2 _ ?_
     cases o2 with
     | nx ρ3=>exact fun σ' H0'' H' p q=>⟨ρ3,H0'',p,q,hf⟩
     | ct ρ3=>exact fun σ' H0'' H' p q=>⟨ρ3,H0'',p,q,hf⟩
     | bk ρ3=>cases hf;exact fun σ' H0'' H' p q=>d σ' H0'' H' p (YT q)
     | rt r ρ3=>cases hf;exact fun v σ' H0'' H' p q c=>d v σ' H0'' H' p (YT q) c
   . left;refine ⟨⟨vs1,SqL.of b3,by rw [b4.length];omega⟩,?_⟩;rw [EB (by omega)] at hf
     cases hf
     exact d σ1 H01 H1 x1 (YT e1)
 . cases ho
end
section
variable {X:Cx} {R R':Rl} [RelOk X.K R] [RelOk X.K R'] {a b c e:Expr} {pos p p2 pos2:Pos} {f g fa fb fc:En->Option Sl} {fs:En->Option (List PyData)} {fq:En->Option (List Sl)} {tg:Expr} {x:Str}
theorem xL (hm:X.mg "reversed" = none) (h:DA X R [a] fs) (hg:Gl X "reversed" :=by rfl) (hs:starEach [a] X.env = [(false,eval a X.env)]:=by rfl):DI X R tg (.Call (.Name "reversed" p) [a] [] pos) (fZ fs):=by
 obtain ⟨t,h1,h2⟩:=h;exact ⟨_,xG hg hm h1 hs,wW h2⟩
theorem F7(h:DE X R e f):DI X R tg e (D5 f):=by
 obtain ⟨t,h1,h2⟩:=h;exact ⟨_,uA h1,vP h2⟩
theorem dQ (hm : X.mg "reversed" = none) (hm2 : X.mg "tuple" = none) (h : DQ X R [a] fq) (hc : X.calm = true := by rfl) (hg : Gl X "reversed" := by rfl) (hg2 : Gl X "tuple" := by rfl) (hs : starEach [a] X.env = [(false, eval a X.env)] := by rfl)
 (hs2:starEach [.Call (.Name "reversed" p) [a] [] pos] X.env = [(false,eval (.Call (.Name "reversed" p) [a] [] pos) X.env)]:=by rfl):DE X R (.Call (.Name "tuple" p2) [.Call (.Name "reversed" p) [a] [] pos] [] pos2) (mCallP Q8 fq):=by
 obtain ⟨t,h1,h2⟩:=h;exact ⟨_,dS hc hg hm hg2 hm2 h1 hs hs2,fA h2⟩
theorem sU (i : Nat) {apos cpos : Pos} (h : DE X R e f) (hN : X.N[i]? = some x := by rfl) (hv : Vis X.env.scope x := by first | exact E1 rfl | exact CF (E1 rfl) | exact CF (CF rfl)) (hd : (x == ("__debug__" : Str)) = false := by decide) (hcd : (x == ("__classdict__" : Str)) = false := by decide)
 (hst:starEach [e] X.env=(false,eval e X.env)::starEach [] X.env:=by rfl) (hbase:attributeBase (.Name x p) "extend" X.env (eval (.Name x p) X.env)=eval (.Name x p) X.env:=by rfl)
 (hfew:((backTo cpos (starEach [e] X.env)).all (fun x=> !x.1) && (backToKw cpos (keywordEach [] X.env)).all (fun x=>x.1.isSome) && decide ([e].length+([]:List Keyword).length+(if ([]:List Keyword).isEmpty then 0 else 1)<30))=true:=by rfl)
 (hline:(apos.endLine==cpos.line)=true:=by rfl) (hplain:(backTo cpos (starEach [] X.env)).any (·.1)=false:=by rfl)
 (hs:swapsWith (.Call (.Attribute (.Name x p) "extend" apos) [e] [] cpos) none pos.line X.env=pure false:=by rfl) (hsl:R.slot i:=by first | exact DJ | exact ⟨AD rfl,AD rfl⟩):DS X R (.Expr (.Call (.Attribute (.Name x p) "extend" apos) [e] [] cpos) pos) (dI i f):=by
 obtain ⟨t,h1,h2⟩:=h;exact ⟨_,Q2 (gN MZ PySem.F.slot_list_extend PySem.F.type_list_extend eZ (GD hN hv hd hcd) (NJ h1 S7 hst) hbase hfew hline hst hplain) hs,vB hsl h2⟩
theorem pN {K : PySem.W.Frag} (i : Nat) {sts : List Stmt} {gb : En -> Option Out} {fg : PyData -> En -> Option En} (hK : X.K = K) (hp : PassesOwn (model X.prog X.w) X.A X.env X.xe) (hg : ∀ a ds, DG X (WW K i a ds) tg fg) (hb : ∀ a ds, DSs X (WW K i a ds) sts gb)
 (hN:X.N[i]? = some x:=by rfl) (hv:Vis X.env.scope x:=by first | exact E1 rfl | exact CF (E1 rfl) | exact CF (CF rfl)) (hd:(x==("__debug__" : Str))=false:=by decide) (hcd:(x==("__classdict__" : Str))=false:=by decide)
 (hc:X.calm=true:=by rfl) (hfs:∀q,foldedSetIterable (.Name x p) X.env q=pure q:=by intro _;rfl) :
 DS X (PR K) (.For tg (.Name x p) sts [] pos) (TY i fg gb):=by
 subst hK;refine ⟨_,iE hp hc (c0 (GD hN hv hd hcd)) (g:=fun v σ H Q=>∃a ds,(hg a ds).choose v σ H Q) ?_ (tb:=tEx fun a ds=>(hb a ds).choose) ?_ hfs,mH (fun a ds=>(hg a ds).choose_spec.2) (fun a ds=>(hb a ds).choose_spec.2)⟩
 . intro pins s σ H v u Q I r h;obtain ⟨a,ds,h⟩:=h;exact (hg a ds).choose_spec.1 pins s σ H v u Q I r h
 . intro pins s σ H D I h;obtain ⟨a,ds,h⟩:=h;exact (hb a ds).choose_spec.1 pins s σ H D I h
end
theorem pX{α:Type}{en:α->PyData}{xs:List α}{i:Nat}{ρ:En}{fg:PyData->En->Option En}{g:En->Option Out}{Z:Out->Prop}(P:Nat->En->Prop)(hi:(ρ[i]?).join=some (.own (xs.map en)))(h0:P 0 ρ)(hs:∀(j:Nat) x ρ,xs[j]? = some x->P j ρ->∃ρ1,fg (en x) ρ=some ρ1/\Wp g ρ1 (Lp (P (j+1)) Z))(k:∀ρ',P xs.length ρ'->Z (.nx ρ')):Wp (TY i fg g) ρ Z:=by
 obtain ⟨o,h1,h2⟩:=FD (fi:=fun _=>some (xs.map en)) P rfl h0 hs k;refine ⟨o,?_,h2⟩;unfold TY;rw [hi];exact h1
theorem tP{i:Nat}{f:En->Option Sl}{ρ:En}{ds es:List PyData}(h:f ρ=some (.own es))(ho:(ρ[i]?).join=some (.own ds))(hl:ds.length+es.length<=sizeLine):dI i f ρ=some (.nx (ρ.set i (some (.own (ds++es))))):=by
 unfold dI;rw [ho];show Option.bind (f ρ) _=_;rw [h];show (if ds.length+es.length<=sizeLine then _ else _)=_;rw [if_pos hl]
end Dm
namespace Tf
open PySem PySem.Spec PyProof.Rows L2
section
variable {prog:Program} {w:World} {A:Around} {E:Value->Shared->Prop} {s:Shared}
theorem U9 {j t : Addr} {n : Nat} {us} {u : Value} {Q : Value -> Shared -> Prop} (st : s.heap.IsTupleIter j t n) (tu : s.heap.IsTuple t us) (hu : us[n]? = some u)
 (q:∀h',h'.IsTupleIter j t (n+1)->Heap.SameBut j s.heap h'->Q u {s with heap:=h' }):wpAny (model prog w) A (Builtin.SmallTypes.nextOf (.ref j)) Q E s:=by
 obtain ⟨o1,g1,c1,d1⟩:=id st;obtain ⟨o2,g2,_,n2,d2⟩:=tu;unfold Builtin.SmallTypes.nextOf
 refine A7 (GM (name:=Str.ofString "__next__") st.typeIs G0
  (KH G0 st.typeIs VB ?_ (U2 _)))
 show wpAny _ _ (field (.ref j) 0 >>= _) _ _ s;refine A7 (qR g1 d1 (x:= .ref t) rfl ?_);show wpAny _ _ (if (Value.ref t==Value.none)=true then _ else _) _ _ s;rw [AR (show ¬((Value.ref t==Value.none)=true) from F2)];show wpAny _ _ (field (.ref j) 1 >>= _) _ _ s;refine A7 (qR g1 d1 (x:= .int n 0) rfl ?_);show wpAny _ _ (seqItems? (.ref t) >>= _) _ _ s;refine A7 (JS g2 d2 ?_);simp only [IR,hu];refine A7 (wpAny_setField g1 d1 (by simp) (AX ⟨u,rfl,AX (q _ ?_ (Heap.SameBut.update ..))⟩));exact ⟨_,A42 _ g1 (Obj.isFreed_of_fields (Obj.data_mapFields d1 _)),(Obj.cls_mapFields ..).trans c1,by rw [Obj.data_mapFields d1];simp [rawInt]⟩
theorem QZ {j t : Addr} {n : Nat} {us} {Q : Value -> Shared -> Prop} (hh : A.handled = none) (st : s.heap.IsTupleIter j t n) (tu : s.heap.IsTuple t us) (hu : us[n]? = none)
 (q:∀h' e,Heap.ExtBut j s.heap h'->(∃o,h'.get? e=some o/\o.cls = .type "StopIteration")->E (.ref e) {s with heap:=h' }):wpAny (model prog w) A (Builtin.SmallTypes.nextOf (.ref j)) Q E s:=by
 obtain ⟨o1,g1,c1,d1⟩:=id st;obtain ⟨o2,g2,_,n2,d2⟩:=tu;unfold Builtin.SmallTypes.nextOf
 refine A7 (GM (name:=Str.ofString "__next__") st.typeIs G0
  (KH G0 st.typeIs VB ?_ (U2 _)))
 show wpAny _ _ (field (.ref j) 0 >>= _) _ _ s;refine A7 (qR g1 d1 (x:= .ref t) rfl ?_);show wpAny _ _ (if (Value.ref t==Value.none)=true then _ else _) _ _ s;rw [AR (show ¬((Value.ref t==Value.none)=true) from F2)];show wpAny _ _ (field (.ref j) 1 >>= _) _ _ s;refine A7 (qR g1 d1 (x:= .int n 0) rfl ?_);show wpAny _ _ (seqItems? (.ref t) >>= _) _ _ s;refine A7 (JS g2 d2 ?_);simp only [IR,hu];refine A7 (wpAny_rule (A7 (wpAny_setField g1 d1 (by simp) ?_)));show wpAny _ _ (newExc (.type "StopIteration") [] >>= _) _ _ _;refine A7 ?_;simp only [newExc,newTuple];refine A7 (F0 ?_ (by size_fits));refine A7 (m:=firstArgMember _ _) (wpAny_of_eq (a:=Value.none) (by first | rfl | (simp only [firstArgMember];rfl)) ?_);refine F0 ?_ (by size_fits);simp only [raiseNew];refine A7 (wpAny_handled ?_)
 first | rw [show A.in1.handled=none from hh] | rw [hh]
 refine A7 (AX (wpAny_throw ?_));exact q _ _ (((Heap.SameBut.update ..).extBut.push _).push _) ⟨_,B7 _ rfl,rfl⟩
theorem EG{h h':Heap}{j t b:Addr}{n:Nat}(st:h.IsTupleIter j t n)(k:∀c o,c≠b->h.get? c=some o->h'.get? c=some o)(hb:j≠b):h'.IsTupleIter j t n:=st.at fun o e=>k j o hb e
theorem IL{h h':Heap}{t b:Addr}{us}(st:h.IsTuple t us)(k:∀c o,c≠b->h.get? c=some o->h'.get? c=some o)(hb:t≠b):h'.IsTuple t us:=by
 obtain ⟨o,e,r⟩:=st;exact ⟨o,k t o hb e,r⟩
theorem cV {z TI TO j1 j2 t1 t2 : Addr} {n1 n2 : Nat} {xs ys : Array Value} {x y a b : Value} {Q : Value -> Shared -> Prop} (D : ZipApart z TI TO j1 j2 t1 t2)
 (hz:IsZip s.heap z TI TO .none) (hI:IsPair s.heap TI (.ref j1) (.ref j2)) (hO:IsPair s.heap TO a b)
 (s1:s.heap.IsTupleIter j1 t1 n1) (s2:s.heap.IsTupleIter j2 t2 n2) (l1:s.heap.IsTuple t1 xs) (l2:s.heap.IsTuple t2 ys) (hx:xs[n1]? = some x) (hy:ys[n2]? = some y)
 (q:∀h',IsZip h' z TI TO (rawInt s.heap.objs.size)->IsPair h' TO x y->h'.IsTupleIter j1 t1 (n1+1)->h'.IsTupleIter j2 t2 (n2+1)->IsPair h' s.heap.objs.size x y->h'.objs.size=s.heap.objs.size+1 ->
  (∀c o,c≠z->c≠TO->c≠j1->c≠j2->s.heap.get? c=some o->h'.get? c=some o)->Q (.ref s.heap.objs.size) {s with heap:=h' }) :
 wpAny (model prog w) A (Builtin.«zip.__next__» ⟨[.ref z], []⟩) (fun fin s' => ∃ v, fin = .done (.ret v) /\ Q v s') E s := by
 show wpAny _ _ (field (.ref z) 2 >>= _) _ _ _;refine wpAny_bind (wpAny_field hz rfl (x:= .bool false) rfl ?_);show wpAny _ _ (field (.ref z) 3 >>= _) _ _ _;refine wpAny_bind (wpAny_field hz rfl (x:= .ref TI) rfl ?_);refine wpAny_bind (wpAny_seqItems hI rfl ?_);show wpAny _ _ (Builtin.SmallTypes.ownedTupleIsFree (.ref z) >>= _) _ _ _;refine wpAny_bind ?_;unfold Builtin.SmallTypes.ownedTupleIsFree;refine wpAny_bind (wpAny_field hz rfl (x:= .none) rfl (wpAny_pure ?_));simp only [if_true];refine wpAny_bind (wpAny_rule ?_);refine wpAny_bind (wpAny_field hz rfl (x:= .ref TO) rfl ?_);refine wpAny_bind (wpAny_setField_rec hz (by simp) fun H1 z1 k1=> ?_)
 replace z1:IsZip H1 z TI TO .ellipsis:=z1
 refine A7 ?_;simp only [List.zipIdx_cons,List.zipIdx_nil,A44,QA];refine A7 (A7 (Z2 ?_));show wpAny _ _ (Builtin.SmallTypes.nextOf (.ref j1) >>= _) _ _ _;refine A7 (U9 (EG s1 k1.extBut D.i1z) (IL l1 k1.extBut D.l1z) hx fun H2 i2 k2=>AX ?_);have O2:IsPair H2 TO a b:=k2.extBut _ _ D.TOi1 (k1.extBut _ _ D.TOz hO);refine A7 (JS O2 rfl ?_);refine A7 (VF O2 fun H3 O3 k3=> ?_)
 replace O3:IsPair H3 TO x b:=O3
 refine A7 (A48 (AX ?_));refine A7 (A7 (Z2 ?_));show wpAny _ _ (Builtin.SmallTypes.nextOf (.ref j2) >>= _) _ _ _;refine A7 (U9 (EG (EG (EG s2 k1.extBut D.i2z) k2.extBut D.i12.symm) k3.extBut D.TOi2.symm) (IL (IL (IL l2 k1.extBut D.l2z) k2.extBut D.l2i1) k3.extBut D.l2TO) hy fun H4 i4 k4=>AX ?_);have O4:IsPair H4 TO x b:=k4.extBut _ _ D.TOi2 O3;refine A7 (JS O4 rfl ?_);refine A7 (VF O4 fun H5 O5 k5=> ?_)
 replace O5:IsPair H5 TO x y:=O5
 refine A7 (A48 (AX (AX ?_)));refine A7 (JS O5 rfl ?_);refine A7 (wpAny_newTuple ?_);have sz:H5.objs.size=s.heap.objs.size:=by rw [k5.1,k4.1,k3.1,k2.1,k1.1]
 have z5:IsZip H5 z TI TO .ellipsis:=k5.extBut _ _ D.TOz.symm (k4.extBut _ _ D.i2z.symm (k3.extBut _ _ D.TOz.symm (k2.extBut _ _ D.i1z.symm z1)))
 have keep:∀c o,c≠z->c≠TO->c≠j1->c≠j2->s.heap.get? c=some o->H5.get? c=some o:=fun c o c1 c2 c3 c4 e=>
  k5.extBut _ _ c2 (k4.extBut _ _ c4 (k3.extBut _ _ c2 (k2.extBut _ _ c3 (k1.extBut _ _ c1 e))))
 have i5:H5.IsTupleIter j1 t1 (n1+1):=EG (EG (EG i2 k3.extBut D.TOi1.symm) k4.extBut D.i12) k5.extBut D.TOi1.symm;have i5':H5.IsTupleIter j2 t2 (n2+1):=EG i4 k5.extBut D.TOi2.symm;have zlt:z<H5.objs.size:=Heap.lt_size z5;show wpAny _ _ (Builtin.SmallTypes.ownedTupleHandOut (.ref z) (.ref H5.objs.size) >>= _) _ _ _;refine wpAny_bind ?_;unfold Builtin.SmallTypes.ownedTupleHandOut;have z6:IsZip (H5.push {cls:= .type "tuple",data:= .seq #[x,y]}) z TI TO .ellipsis:=Heap.get?_push_of_some _ z5;refine wpAny_bind (wpAny_setField_rec z6 (by simp) fun H7 z7 k7=> ?_)
 replace z7:IsZip H7 z TI TO (rawInt H5.objs.size):=z7
 refine cG z7 (by simp) fun H8 z8 k8=> ?_
 replace z8:IsZip H8 z TI TO (rawInt H5.objs.size):=z8
 have up:∀c o,c≠z->H5.get? c=some o->H8.get? c=some o:=fun c o c1 e=>k8.extBut _ _ c1 (k7.extBut _ _ c1 (A5 _ e));have T8:IsPair H8 H5.objs.size x y:=k8.extBut _ _ (sD zlt) (k7.extBut _ _ (sD zlt) (B7 _ rfl));have n8:H8.objs.size=H5.objs.size+1:=by rw [k8.1,k7.1,DC]
 rw [sz] at z8 T8 n8
 refine AX ⟨_,rfl,?_⟩;show Q (.ref H5.objs.size) _;rw [sz];exact q H8 z8 (up _ _ D.TOz O5) (i5.at fun o e=>up _ o D.i1z e) (i5'.at fun o e=>up _ o D.i2z e) T8 n8 fun c o c1 c2 c3 c4 e=>up c o c1 (keep c o c1 c2 c3 c4 e)
theorem j0 {z TI TO j1 j2 t1 t2 : Addr} {n1 n2 : Nat} {xs ys : Array Value} {a b : Value} {Q : Fin -> Shared -> Prop} (hh : A.handled = none) (D : ZipApart z TI TO j1 j2 t1 t2)
 (hz:IsZip s.heap z TI TO .none) (hI:IsPair s.heap TI (.ref j1) (.ref j2)) (hO:IsPair s.heap TO a b)
 (s1:s.heap.IsTupleIter j1 t1 n1) (s2:s.heap.IsTupleIter j2 t2 n2) (l1:s.heap.IsTuple t1 xs) (l2:s.heap.IsTuple t2 ys) (fin:xs[n1]? = none\/ys[n2]? = none)
 (q:∀h' e,(∀c o,c≠z->c≠TO->c≠j1->c≠j2->s.heap.get? c=some o->h'.get? c=some o)->(∃o,h'.get? e=some o/\o.cls = .type "StopIteration")->E (.ref e) {s with heap:=h' }) :
 wpAny (model prog w) A (Builtin.«zip.__next__» ⟨[.ref z], []⟩) Q E s := by
 show wpAny _ _ (field (.ref z) 2 >>= _) _ _ _;refine wpAny_bind (wpAny_field hz rfl (x:= .bool false) rfl ?_);show wpAny _ _ (field (.ref z) 3 >>= _) _ _ _;refine wpAny_bind (wpAny_field hz rfl (x:= .ref TI) rfl ?_);refine wpAny_bind (wpAny_seqItems hI rfl ?_);show wpAny _ _ (Builtin.SmallTypes.ownedTupleIsFree (.ref z) >>= _) _ _ _;refine wpAny_bind ?_;unfold Builtin.SmallTypes.ownedTupleIsFree;refine wpAny_bind (wpAny_field hz rfl (x:= .none) rfl (wpAny_pure ?_));simp only [if_true];refine wpAny_bind (wpAny_rule ?_);refine wpAny_bind (wpAny_field hz rfl (x:= .ref TO) rfl ?_);refine wpAny_bind (wpAny_setField_rec hz (by simp) fun H1 z1 k1=> ?_)
 replace z1:IsZip H1 z TI TO .ellipsis:=z1
 refine A7 ?_;simp only [List.zipIdx_cons,List.zipIdx_nil,A44,QA];refine A7 (A7 (Z2 ?_));show wpAny _ _ (Builtin.SmallTypes.nextOf (.ref j1) >>= _) _ _ _
 cases hx:xs[n1]? with
 | none=>
  refine A7 (QZ hh (EG s1 k1.extBut D.i1z) (IL l1 k1.extBut D.l1z) hx fun H2 e k2 st=> ?_);obtain ⟨oe,ge,ce⟩:=st;have z2:IsZip H2 z TI TO .ellipsis:=k2 _ _ D.i1z.symm z1;have ez:e≠z:=fun x=>by subst x;rw [z2] at ge;cases ge;simp at ce
  refine cG z2 (by simp) fun H3 _ k3=>q H3 e (fun c o c1 _ c3 _ x=>k3.extBut _ _ c1 (k2 _ _ c3 (k1.extBut _ _ c1 x))) ⟨oe,k3.extBut _ _ ez ge,ce⟩
 | some x=>
  have hy:ys[n2]? = none:=by rcases fin with h | h;rw [hx] at h;cases h;exact h
  refine A7 (U9 (EG s1 k1.extBut D.i1z) (IL l1 k1.extBut D.l1z) hx fun H2 i2 k2=>AX ?_);have O2:IsPair H2 TO a b:=k2.extBut _ _ D.TOi1 (k1.extBut _ _ D.TOz hO);refine A7 (JS O2 rfl ?_);refine A7 (VF O2 fun H3 O3 k3=> ?_);refine A7 (A48 (AX ?_));refine A7 (A7 (Z2 ?_));show wpAny _ _ (Builtin.SmallTypes.nextOf (.ref j2) >>= _) _ _ _;refine A7 (QZ hh (EG (EG (EG s2 k1.extBut D.i2z) k2.extBut D.i12.symm) k3.extBut D.TOi2.symm) (IL (IL (IL l2 k1.extBut D.l2z) k2.extBut D.l2i1) k3.extBut D.l2TO) hy fun H4 e k4 st=> ?_);obtain ⟨oe,ge,ce⟩:=st;have z4:IsZip H4 z TI TO .ellipsis:=k4 _ _ D.i2z.symm (k3.extBut _ _ D.TOz.symm (k2.extBut _ _ D.i1z.symm z1));have ez:e≠z:=fun x=>by subst x;rw [z4] at ge;cases ge;simp at ce
  refine cG z4 (by simp) fun H5 _ k5=>q H5 e (fun c o c1 c2 c3 c4 x=>k5.extBut _ _ c1 (k4 _ _ c4 (k3.extBut _ _ c2 (k2.extBut _ _ c3 (k1.extBut _ _ c1 x))))) ⟨oe,k5.extBut _ _ ez ge,ce⟩
theorem XS {z TI TO j1 j2 t1 t2 : Addr} {n1 n2 : Nat} {xs ys : Array Value} {x y a b : Value} {Q : Option Value -> Shared -> Prop} (D : ZipApart z TI TO j1 j2 t1 t2)
 (hz:IsZip s.heap z TI TO .none) (hI:IsPair s.heap TI (.ref j1) (.ref j2)) (hO:IsPair s.heap TO a b)
 (s1:s.heap.IsTupleIter j1 t1 n1) (s2:s.heap.IsTupleIter j2 t2 n2) (l1:s.heap.IsTuple t1 xs) (l2:s.heap.IsTuple t2 ys) (hx:xs[n1]? = some x) (hy:ys[n2]? = some y)
 (q:∀h',IsZip h' z TI TO (rawInt s.heap.objs.size)->IsPair h' TO x y->h'.IsTupleIter j1 t1 (n1+1)->h'.IsTupleIter j2 t2 (n2+1)->IsPair h' s.heap.objs.size x y->h'.objs.size=s.heap.objs.size+1 ->
  (∀c o,c≠z->c≠TO->c≠j1->c≠j2->s.heap.get? c=some o->h'.get? c=some o)->Q (some (.ref s.heap.objs.size)) {s with heap:=h' }) :
 wpAny (model prog w) A (pyNext (.ref z)) Q E s:=by
 have ty:s.TypeIs (.ref z) "zip" :=⟨_,hz,rfl⟩;unfold pyNext
 exact A7 (wpAny_attempt (GM (name:=Str.ofString "__next__") ty JC
  (KH JC ty sJ
   (cV D hz hI hO s1 s2 l1 l2 hx hy fun h' a1 a2 a3 a4 a5 a6 a7=>AX (q h' a1 a2 a3 a4 a5 a6 a7)) (qS _))))
theorem cU {z TI TO j1 j2 t1 t2 : Addr} {n1 n2 : Nat} {xs ys : Array Value} {a b : Value} {Q : Option Value -> Shared -> Prop} (hh : A.handled = none) (D : ZipApart z TI TO j1 j2 t1 t2)
 (hz:IsZip s.heap z TI TO .none) (hI:IsPair s.heap TI (.ref j1) (.ref j2)) (hO:IsPair s.heap TO a b)
 (s1:s.heap.IsTupleIter j1 t1 n1) (s2:s.heap.IsTupleIter j2 t2 n2) (l1:s.heap.IsTuple t1 xs) (l2:s.heap.IsTuple t2 ys) (fin:xs[n1]? = none\/ys[n2]? = none)
 (q:∀h',(∀c o,c≠z->c≠TO->c≠j1->c≠j2->s.heap.get? c=some o->h'.get? c=some o)->Q none {s with heap:=h' }):wpAny (model prog w) A (pyNext (.ref z)) Q E s:=by
 have ty:s.TypeIs (.ref z) "zip" :=⟨_,hz,rfl⟩;unfold pyNext
 refine A7 (wpAny_attempt (GM (name:=Str.ofString "__next__") ty JC
  (KH JC ty sJ (j0 hh D hz hI hO s1 s2 l1 l2 fin fun h' e k st=> ?_) (qS _))))
 obtain ⟨o,g,c⟩:=st;refine A7 (wpAny_isInstance (T:= "StopIteration") (b:=true) ⟨o,g,c⟩ isSubtype_stop ?_);exact AX (q _ k)
end
abbrev zt1 (h:Heap) (a:Addr):Heap:=h.push {cls:= .type "tuple_iterator",data:= .fields #[.ref a, .int 0 0]}
abbrev zt2 (h:Heap) (a b:Addr):Heap:=(zt1 h a).push {cls:= .type "tuple_iterator",data:= .fields #[.ref b, .int 0 0]}
abbrev zt3 (h:Heap) (a b:Addr):Heap:=(zt2 h a b).push {cls:= .type "tuple",data:= .seq #[.ref h.objs.size, .ref (zt1 h a).objs.size]}
abbrev zt4 (h:Heap) (a b:Addr):Heap:=(zt3 h a b).push {cls:= .type "tuple",data:= .seq #[.none, .none]}
abbrev zt5 (h:Heap) (a b:Addr):Heap:=(zt4 h a b).push {cls:= .type "zip",data:= .fields #[.none, .bool false, .bool false, .ref (zt2 h a b).objs.size, .ref (zt3 h a b).objs.size]}
theorem YE{h:Heap}{t:Addr}{us}{o:Obj}(x:h.IsTuple t us):(h.push o).IsTuple t us:=by
 obtain ⟨o',e,r⟩:=x;exact ⟨o',A5 _ e,r⟩
theorem YW (a b : Addr) (xs ys : Array Value) :
 Meets (Builtin.«zip.__new__» ⟨[.type "zip", .ref a, .ref b], []⟩) (fun _ R s => s.heap.IsTuple a xs /\ s.heap.IsTuple b ys /\ R (.ok (.ret (.ref (zt4 s.heap a b).objs.size))) { s with heap := zt5 s.heap a b }) :=
 .of_wp fun prog w A R s h=>by
  obtain ⟨hp,g,d,tk,os⟩:=s;obtain ⟨x1,x2,h⟩:=h;have hsub:=sub_zip;have y1:Heap.IsTuple (Shared.heap ⟨hp,g,d,tk,os⟩) a xs:=x1;have y2:Heap.IsTuple (Shared.heap ⟨hp.push {cls:= .type "tuple_iterator",data:= .fields #[.ref a, .int 0 0]},g,d,tk,os⟩) b ys:=YE x2
  wp_walk using cF y1,cF y2
  exact ⟨_,rfl,h⟩
section
variable {prog:Program} {w:World} {A:Around} {E:Value->Shared->Prop} {s:Shared}
theorem d9 {a b : Addr} {xs ys : Array Value} {Q : Value -> Shared -> Prop} (x1 : s.heap.IsTuple a xs) (x2 : s.heap.IsTuple b ys)
 (q:∀h',IsZip h' (s.heap.objs.size+4) (s.heap.objs.size+2) (s.heap.objs.size+3) .none->IsPair h' (s.heap.objs.size+2) (.ref s.heap.objs.size) (.ref (s.heap.objs.size+1)) ->
  IsPair h' (s.heap.objs.size+3) .none .none->h'.IsTupleIter s.heap.objs.size a 0->h'.IsTupleIter (s.heap.objs.size+1) b 0->(∀c o,s.heap.get? c=some o->h'.get? c=some o)->Q (.ref (s.heap.objs.size+4)) {s with heap:=h' }) :
 wpAny (model prog w) A (call (.type "zip") [.ref a, .ref b]) Q E s:=by
 refine callType_new PySem.F.called_zip (by decide) (PySem.F.typeCall_zip_2 _ _) (PySem.F.newCall_zip_2 _ _) (fun obj=>PySem.F.args_object_init_3 obj _ _) PySem.F.entry_zip_new (YW a b xs ys) ⟨x1,x2,?_⟩;have e1:(zt1 s.heap a).objs.size=s.heap.objs.size+1:=DC ..;have e2:(zt2 s.heap a b).objs.size=s.heap.objs.size+2:=by rw [DC,e1]
 have e3:(zt3 s.heap a b).objs.size=s.heap.objs.size+3:=by rw [DC,e2]
 have e4:(zt4 s.heap a b).objs.size=s.heap.objs.size+4:=by rw [DC,e3]
 have g5:(zt5 s.heap a b).get? (zt4 s.heap a b).objs.size=some _:=B7 _ rfl;have g4:(zt5 s.heap a b).get? (zt3 s.heap a b).objs.size=some _:=A5 _ (B7 _ rfl);have g3:(zt5 s.heap a b).get? (zt2 s.heap a b).objs.size=some _:=A5 _ (A5 _ (B7 _ rfl));have g2:(zt5 s.heap a b).get? (zt1 s.heap a).objs.size=some _:=A5 _ (A5 _ (A5 _ (B7 _ rfl)));have g1:(zt5 s.heap a b).get? s.heap.objs.size=some _:=A5 _ (A5 _ (A5 _ (A5 _ (B7 _ rfl))));show _/\_;rw [e2,e3,e4] at g5
 rw [e1,e2] at g3
 rw [e3] at g4
 rw [e1] at g2
 rw [e4];refine ⟨⟨_,g5,rfl⟩,q _ g5 g3 g4 ⟨_,g1,rfl,rfl⟩ ⟨_,g2,rfl,rfl⟩ fun c o e=> ?_⟩;exact A5 _ (A5 _ (A5 _ (A5 _ (A5 _ e))))
end
def Ity(K:PySem.W.Frag)(a b:Addr):It:=
 ⟨fun i H=>∃xs ys x y,SqT K H a xs/\SqT K H b ys/\xs[i]? = some x/\ys[i]? = some y,
  fun i H v H'=>∃p x y,H p=none/\v = .ref p/\H'=upd H p (.tup [x,y])/\(∀xs,SqT K H a xs->xs[i]? = some x)/\(∀ys,SqT K H b ys->ys[i]? = some y),
  fun i H=>∃xs ys,SqT K H a xs/\SqT K H b ys/\(xs.length<=i\/ys.length<=i)⟩
def tY(z TI TO i1 i2 l1 l2:Addr)(i:Nat)(h:Heap):Prop:=IsZip h z TI TO .none/\IsPair h TI (.ref i1) (.ref i2)/\(∃a b,IsPair h TO a b)/\h.IsTupleIter i1 l1 i/\h.IsTupleIter i2 l2 i
theorem dE {P : Program} {w : World} {K : PySem.W.Frag} {elts : List Expr} {k : Nat} {pos : Pos} {z TI TO i1 i2 l1 l2 : Addr} (D : ZipApart z TI TO i1 i2 l1 l2) :
 Turn P w K (.Tuple elts k pos) (Ity K l1 l2) [z,TI,TO,i1,i2] z (tY z TI TO i1 i2 l1 l2) where
 mem:=by simp
 obj:=fun i h st b hb=>by
  obtain ⟨h1,h2,⟨a,c,h3⟩,⟨o4,h4,_,d4⟩,⟨o5,h5,_,d5⟩⟩:=st;simp only [B8,BK,EM] at hb
  rcases hb with rfl | rfl | rfl | rfl | rfl
  . exact ⟨_,h1,fun v e=>(nomatch e)⟩
  . exact ⟨_,h2,fun v e=>(nomatch e)⟩
  . exact ⟨_,h3,fun v e=>(nomatch e)⟩
  . exact ⟨_,h4,fun v e=>by rw [d4] at e;cases e⟩
  . exact ⟨_,h5,fun v e=>by rw [d5] at e;cases e⟩
 keep:=fun i h h' st kk=>by
  obtain ⟨h1,h2,⟨a,c,h3⟩,h4,h5⟩:=st;exact ⟨kk z (by simp) _ h1,kk TI (by simp) _ h2,⟨a,c,kk TO (by simp) _ h3⟩,h4.at fun o e=>kk i1 (by simp) o e,h5.at fun o e=>kk i2 (by simp) o e⟩
 item:=by
  intro X hP hw hK hc i pins s σ H E I hf st hg;subst hP hw hK;obtain ⟨h1,h2,⟨a,c,h3⟩,h4,h5⟩:=st;obtain ⟨xs,ys,x,y,q1,q2,hx,hy⟩:=hg;obtain ⟨its,rv,p,hz⟩:=I.tuple q1;obtain ⟨jts,rw',p',hz'⟩:=I.tuple q2;obtain ⟨u,hu,ru⟩:=rv.get hx;obtain ⟨u',hu',ru'⟩:=rw'.get hy;have ltS:∀ {h:Heap} {b:Addr} {o:Obj},h.get? b=some o -> @LT.lt Nat _ b h.objs.size:=fun e=>AZ e;refine XS D h1 h2 h3 h4 h5 p p' (x:=u) (y:=u') (by simpa using hu) (by simpa using hu') fun h' a1 a2 a3 a4 a5 a6 hk=> ?_;refine ⟨_,rfl,zY a1 fun h'' a1' sb=> ?_⟩;have ch:∀b ∈ [z,TI,TO,i1,i2],H b=none:=fun b hb=>(hf b hb).1
  have kk:∀b o,b ∉ [z,TO,i1,i2]->s.heap.get? b=some o->h''.get? b=some o:=fun b o hb e=>by
   simp only [B8,BK,EM,A05] at hb
   exact sb.extBut b o hb.1 (hk b o hb.1 hb.2.1 hb.2.2.1 hb.2.2.2 e)
  have eT:h''.get? s.heap.objs.size=some {cls:= .type "tuple",data:= .seq #[u,u']}:=sb.extBut _ _ (fun e=>by have l:=ltS h1;rw [<-e] at l;omega) a5
  have sub:∀b,b ∈ [z,TO,i1,i2]->b ∈ [z,TI,TO,i1,i2]:=fun b hb=>by
   simp only [B8,BK,EM] at hb ⊢
   rcases hb with r | r | r | r
   . exact .inl r
   . exact .inr (.inr (.inl r))
   . exact .inr (.inr (.inr (.inl r)))
   . exact .inr (.inr (.inr (.inr r)))
  have nT:H s.heap.objs.size=none:=I.hok.fresh (AA _)
  have hok1 : HOk X.prog X.w H h'' := fun b o e => (I.hok b o e).stay (fun d v hd q => kk d v (fun hm => by
   have n:=ch d (sub d hm);rcases hd with hd | hd
   . rw [hd,e] at n;cases n
   . rw [hd] at n;cases n) q) (fun _ q=>q) fun _ _ q=>q
  have hok2:HOk X.prog X.w (upd H s.heap.objs.size (.tup [x,y])) h'':=PY hok1 nT ⟨by show 2<=sizeLine;decide,[u,u'], .cons ru (.cons ru' .nil),⟨_,eT,rfl,_,rfl⟩⟩
  have un:Un (frs X.stack) [z,TO,i1,i2] H (upd H s.heap.objs.size (.tup [x,y])) s.heap h'':=by
   refine ⟨fun b o e _ _ hx=>kk b o hx e,fun b o e _ _ hx=>⟨o.slots,kk b o hx e⟩,fun b o e n _=> ?_,fun b o e hx=>⟨o,kk b o hx e⟩,fun b zs e=> ?_,fun b o v e=> ?_,fun b ps e=>⟨#[],?_⟩⟩
   . have l:=ltS e;rw [BP (by intro q;subst q;omega)];exact n
   . rw [BP (BT e nT)];exact e
   . rw [BP (BT e nT)];exact e
   . rw [BP (BT e nT)];simpa using e
  have I2:Inv X pins σ (upd H s.heap.objs.size (.tup [x,y])) {s with heap:=h'' }:=I.call' rfl un hok2 I.bare fun b hb=>by
   obtain ⟨f0,f1,f2,f3,f4,f5⟩:=hf b (sub b hb);exact ⟨f3,f1,f4,f5⟩
  refine ⟨.ref s.heap.objs.size,_,I2,rfl,⟨s.heap.objs.size,x,y,nT,rfl,rfl,fun zs hq=> ?_,fun zs hq=> ?_⟩,⟨a1',?_,⟨_,_,sb.extBut _ _ D.TOz a2⟩,a3.extBut sb.extBut D.i1z,a4.extBut sb.extBut D.i2z⟩,fun b hb=> ?_⟩
  . rw [I.tuple_inj hq q1];exact hx
  . rw [I.tuple_inj hq q2];exact hy
  . exact sb.extBut _ _ D.TIz (hk TI _ D.TIz D.TITO D.TIi1 D.TIi2 h2)
  . have n:=ch b hb
    obtain ⟨o,e⟩:∃o,s.heap.get? b=some o:=by
     simp only [B8,BK,EM] at hb
     rcases hb with rfl | rfl | rfl | rfl | rfl
     . exact ⟨_,h1⟩
     . exact ⟨_,h2⟩
     . exact ⟨_,h3⟩
     . obtain ⟨o,e,_⟩:=h4;exact ⟨o,e⟩
     . obtain ⟨o,e,_⟩:=h5;exact ⟨o,e⟩
    have l:=ltS e;rw [BP (by intro q;subst q;omega)];exact n
 done:=by
  intro X hP hw hK hc i pins s σ H E I hf st hg;subst hP hw hK;obtain ⟨h1,h2,⟨a,c,h3⟩,h4,h5⟩:=st;obtain ⟨xs,ys,q1,q2,he⟩:=hg;obtain ⟨its,rv,p,hz⟩:=I.tuple q1;obtain ⟨jts,rw',p',hz'⟩:=I.tuple q2;have l1:=rv.length;have l2:=rw'.length;refine cU (I.ok.hd hc) D h1 h2 h3 h4 h5 p p' (by rcases he with e | e;exact .inl (by simp;omega);exact .inr (by simp;omega)) fun h' hk=>⟨rfl,?_⟩;have ch:∀b ∈ [z,TI,TO,i1,i2],H b=none:=fun b hb=>(hf b hb).1
  have sub:∀b,b ∈ [z,TO,i1,i2]->b ∈ [z,TI,TO,i1,i2]:=fun b hb=>by
   simp only [B8,BK,EM] at hb ⊢
   rcases hb with r | r | r | r
   . exact .inl r
   . exact .inr (.inr (.inl r))
   . exact .inr (.inr (.inr (.inl r)))
   . exact .inr (.inr (.inr (.inr r)))
  have kk:∀b o,b ∉ [z,TO,i1,i2]->s.heap.get? b=some o->h'.get? b=some o:=fun b o hb e=>by
   simp only [B8,BK,EM,A05] at hb
   exact hk b o hb.1 hb.2.1 hb.2.2.1 hb.2.2.2 e
  have hok1 : HOk X.prog X.w H h' := fun b o e => (I.hok b o e).stay (fun d v hd q => kk d v (fun hm => by
   have n:=ch d (sub d hm);rcases hd with hd | hd
   . rw [hd,e] at n;cases n
   . rw [hd] at n;cases n) q) (fun _ q=>q) fun _ _ q=>q
  have un:Un (frs X.stack) [z,TO,i1,i2] H H s.heap h' :=
   ⟨fun b o e _ _ hx=>kk b o hx e,fun b o e _ _ hx=>⟨o.slots,kk b o hx e⟩,fun b o e n _=>n,fun b o e hx=>⟨o,kk b o hx e⟩,fun b zs e=>e,fun b o v e=>e,fun b ps e=>⟨#[],by simpa using e⟩⟩
  exact I.call' rfl un hok1 I.bare fun b hb=>by
   obtain ⟨f0,f1,f2,f3,f4,f5⟩:=hf b (sub b hb);exact ⟨f3,f1,f4,f5⟩
 self:=fun _ _ _ _ _ st h=>KI st.1 h
section
variable {X:Cx}
def rH(K:PySem.W.Frag)(ta:TA):TI:=fun σ H R=>ta σ H fun vs H1=>∃l1 l2,vs = [.ref l1, .ref l2]/\(((∃xs,SqL K H1 l1 xs)/\(∃ys,SqL K H1 l2 ys)/\R (Itz K l1 l2) H1)\/((∃xs,SqT K H1 l1 xs)/\(∃ys,SqT K H1 l2 ys)/\R (Ity K l1 l2) H1))
theorem pZ{n b:Nat}(hb:b ∈ [n+4,n+2,n+3,n,n+1]):n<=b:=by
 simp only [B8,BK,EM] at hb
 omega
theorem pW {a b : Expr} {ta : TA} {elts : List Expr} {k : Nat} {tp p pos : Pos} (hg : Gl X "zip") (hm : X.mg "zip" = none) (ha : PA X [a, b] ta) (hs : starEach [a, b] X.env = [(false, eval a X.env), (false, eval b X.env)] := by rfl) (hs2 : starEach [b] X.env = [(false, eval b X.env)] := by rfl) :
 PI X (.Tuple elts k tp) (.Call (.Name "zip" p) [a,b] [] pos) (rH X.K ta):=by
 intro pins s σ H R I h;refine Call_ (JA I hg hm i3 (C7 (thn (ha pos pins s σ H _ I h) fun us s1 ⟨vs,H1,I1,r1,q1⟩ => ?_) (by rw [hs,hs2]) (by rw [hs2];rfl)));obtain ⟨l1,l2,e,q1⟩:=q1;subst e;obtain ⟨u,w',rfl,ru,rw'⟩:=rS r1
 cases (show u=Value.ref l1 from ru)
 cases (show w'=Value.ref l2 from rw')
 rcases q1 with ⟨⟨xs,q1⟩,⟨ys,q2⟩,q⟩ | ⟨⟨xs,q1⟩,⟨ys,q2⟩,q⟩
 . obtain ⟨its,rv,p1,hz⟩:=I1.list q1;obtain ⟨jts,rv',p2,hz'⟩:=I1.list q2;have lt1:l1<s1.heap.objs.size:=by obtain ⟨o,n,e,_⟩:=p1;exact AZ e
   have lt2:l2<s1.heap.objs.size:=by obtain ⟨o,n,e,_⟩:=p2;exact AZ e
   refine call_zip_2 p1.isList p2.isList fun h' a1 a2 a3 a4 a5 a6 hk=> ?_;refine KI (s:={s1 with heap:=h' }) a1 ?_;exact ⟨_,[s1.heap.objs.size+4,s1.heap.objs.size+2,s1.heap.objs.size+3,s1.heap.objs.size,s1.heap.objs.size+1],_,_,H1,rfl,I1.kept (t':=s1.toks) hk,WI (zipApart_new lt1 lt2),⟨a1,a2,⟨_,_,a3⟩,a4,a5⟩,fun b hb=>I1.fpOk (pZ hb) (I1.hok.fresh (pZ hb)),q⟩
 . obtain ⟨its,rv,p1,hz⟩:=I1.tuple q1;obtain ⟨jts,rv',p2,hz'⟩:=I1.tuple q2;have lt1:l1<s1.heap.objs.size:=by obtain ⟨o,e,_⟩:=p1;exact AZ e
   have lt2:l2<s1.heap.objs.size:=by obtain ⟨o,e,_⟩:=p2;exact AZ e
   refine d9 p1 p2 fun h' a1 a2 a3 a4 a5 hk=> ?_;refine KI (s:={s1 with heap:=h' }) a1 ?_;exact ⟨_,[s1.heap.objs.size+4,s1.heap.objs.size+2,s1.heap.objs.size+3,s1.heap.objs.size,s1.heap.objs.size+1],_,_,H1,rfl,I1.kept (t':=s1.toks) hk,dE (zipApart_new lt1 lt2),⟨a1,a2,⟨_,_,a3⟩,a4,a5⟩,fun b hb=>I1.fpOk (pZ hb) (I1.hok.fresh (pZ hb)),q⟩
end
end Tf
namespace Dm
open PySem PySem.Spec PyProof.Rows L2 Tf
section
variable {K:PySem.W.Frag} {R:Rl} [RelOk K R]
theorem oA{H0:Hp}{a b:Addr}{vs ws:List V}{ds es:List PyData}(h:SqT K H0 a vs)(r:Reps K H0 vs ds)(h2:SqT K H0 b ws)(r2:Reps K H0 ws es):ItR K H0 (Ity K a b) (IX ds es):=fun H0' H' s s' i=>by
 have h':=s'.seqT (s.seqT h);have h2':=s'.seqT (s.seqT h2);refine ⟨fun d hd=> ?_,fun hi=>⟨vs,ws,h',h2',?_⟩⟩
 . unfold IX at hd
   rw [xP] at hd
   cases e1:ds[i]? with
   | none=>rw [e1] at hd;cases hd
   | some x=>
    cases e2:es[i]? with
    | none=>rw [e1,e2] at hd;cases hd
    | some y=>
     rw [e1,e2] at hd
     cases hd
     obtain ⟨v,q1,q2⟩:=Tf.Reps.get r e1;obtain ⟨w,q3,q4⟩:=Tf.Reps.get r2 e2;refine ⟨⟨vs,ws,v,w,h',h2',q1,q3⟩,fun z H2 yl=> ?_⟩;obtain ⟨p,x',y',hp,rfl,rfl,hx,hy⟩:=yl;have:=hx vs h';rw [q1] at this
     cases this
     have:=hy ws h2';rw [q3] at this
     cases this
     refine ⟨_,Ext.allocF s' hp _, .tuple (SqT.of C9) ?_⟩;have s2:=s.trans (Same.upd (s'.free hp) (.tup [v,w]));exact .cons (Rep.same s2 q2) (.cons (Rep.same s2 q4) .nil)
 . rw [r.length,r2.length];unfold IX at hi
   rw [zZ] at hi
   omega
def TW(f:En->Option (List PyData)):En->Option (List PyData):=fun ρ=>(f ρ).bind fun a=>match a with
 | [.list xs, .list ys]=>some (IX xs ys)
 | [.tuple xs, .tuple ys]=>some (IX xs ys)
 | _=>none
theorem oW{ta:TA}{f:En->Option (List PyData)}(h:RA K R ta f):RI K R (rH K ta) (TW f):=fun HB σ ρ H0 H s e ds hd R q=>by
 obtain ⟨a,ha,hd⟩:=A0.mp hd
 split at hd
 . cases hd
   refine h HB σ ρ H0 H s e _ ha _ fun vs H1 J1 x1 p1=> ?_
   cases p1 with | cons p1 t=>cases t with | cons p2 t=>
    cases t
    cases p1 with | list a1 a2=>cases p2 with | list b1 b2=>
     exact ⟨_,_,rfl, .inl ⟨⟨_,x1.s1.seq a1⟩,⟨_,x1.s1.seq b1⟩,q _ _ _ x1 (gP a1 a2 b1 b2)⟩⟩
 . cases hd
   refine h HB σ ρ H0 H s e _ ha _ fun vs H1 J1 x1 p1=> ?_
   cases p1 with | cons p1 t=>cases t with | cons p2 t=>
    cases t
    cases p1 with | tuple a1 a2=>cases p2 with | tuple b1 b2=>
     exact ⟨_,_,rfl, .inr ⟨⟨_,x1.s1.seqT a1⟩,⟨_,x1.s1.seqT b1⟩,q _ _ _ x1 (oA a1 a2 b1 b2)⟩⟩
 . cases hd
end
section
variable {X:Cx} {R:Rl} [RelOk X.K R] {a b:Expr} {pos p:Pos} {fs:En->Option (List PyData)}
theorem V6 {elts:List Expr} {k} {tp:Pos} (hm:X.mg "zip" = none) (h:DA X R [a,b] fs) (hg:Gl X "zip" :=by rfl) (hs:starEach [a,b] X.env = [(false,eval a X.env),(false,eval b X.env)]:=by rfl) (hs2:starEach [b] X.env = [(false,eval b X.env)]:=by rfl):DI X R (.Tuple elts k tp) (.Call (.Name "zip" p) [a,b] [] pos) (TW fs):=by
 obtain ⟨t,h1,h2⟩:=h;exact ⟨_,pW hg hm h1 hs hs2,oW h2⟩
end
end Dm
namespace Dm
open PySem PySem.Spec PyProof.Rows L2 Tf
theorem PN{n m k:Nat}{g:En->Option Out}{φ:En}{ds:List PyData}{ρ ρ':En}{d:PyData}(hl:ds.length+1=m)(hk:φ.length=k)(e:(none::ds.map (fun d=>some (Sl.val d)))++List.replicate (n - (ds.length+1)) none++φ=ρ)(h:g ρ=some (.rt (.val d) ρ'))(hnd:noD φ=true:=by rfl):OM n m k g φ ds=some (ρ'.drop n,d):=by
 unfold OM;rw [if_pos ⟨⟨hl,hk⟩,hnd⟩,e,h];rfl
theorem UB{n m k:Nat}{g:En->Option Out}{φ:En}{ds:List PyData}{ρ ρ':En}(hl:ds.length+1=m)(hk:φ.length=k)(e:(none::ds.map (fun d=>some (Sl.val d)))++List.replicate (n - (ds.length+1)) none++φ=ρ)(h:g ρ=some (.nx ρ'))(hnd:noD φ=true:=by rfl):OM n m k g φ ds=some (ρ'.drop n, .none):=by
 unfold OM;rw [if_pos ⟨⟨hl,hk⟩,hnd⟩,e,h];rfl
end Dm
namespace Dm
open PySem PySem.Spec PyProof.Rows L2 Tf
structure OR (C:Addr) (names:List Str) (H:Hp) (p:Addr) (vals:L2.St):Prop where
 len:vals.length=names.length
 ins:∃dx fs,H p=some (.ins C dx fs)/\(∀(j:Nat) f,names[j]? = some f->fs.lookup f=(vals[j]?).join)/\∀f,f ∉ names->fs.lookup f=none
section
variable {K:PySem.W.Frag} {C:Addr} {names:List Str}
theorem OR.same{H H':Hp}{p:Addr}{vals:L2.St}(x:Same H H')(o:OR C names H p vals):OR C names H' p vals:=by
 obtain ⟨dx,fs,h1,h2⟩:=o.ins;exact ⟨o.len,dx,fs,x _ _ h1,h2⟩
theorem OR.other{H:Hp}{p a:Addr}{vals:L2.St}{vs:List V}{u:HO}(o:OR C names H p vals)(h:H a=some (.lst vs)):OR C names (upd H a u) p vals:=by
 obtain ⟨dx,fs,h1,h2⟩:=o.ins;have hne:p≠a:=by rintro rfl;rw [h1] at h;cases h
 exact ⟨o.len,dx,fs,by rw [BP hne];exact h1,h2⟩
def FO(K:PySem.W.Frag)(od:OD):Rl:=
 ⟨fun HB H0 H σ ρ=>σ.length=od.n/\∃vals,σ[od.s]? = some (some (.ref od.p))/\OR od.C od.names H od.p vals/\ER K HB H0 H (σ++vals) ρ,fun i=>i≠od.s/\i<od.n⟩
instance relOk_FO {od:OD}:RelOk K (FO K od) where
 ext:=fun x ⟨h1,vals,h2,h3,h4⟩=>⟨h1,vals,h2,h3.same x.s,h4.ext x⟩
 get:=fun ⟨h1,vals,h2,h3,h4⟩ hs h=>by
  obtain ⟨v,e1,e2⟩:=h4.get _ _ h;rw [A9 (by rw [h1];exact hs.2)] at e1
  exact ⟨v,e1,e2⟩
 set:=fun {HB H0 H H0' H' σ ρ i v s} ⟨h1,vals,h2,h3,h4⟩ hs x sb h=>by
  refine ⟨by rw [DX];exact h1,vals,by rw [AI hs.1];exact h2,h3.same x.s,?_⟩;have:=h4.set (i:=i) x sb h;rw [ZI (by rw [h1];exact hs.2)] at this
  exact this
 write:=fun {HB H0 H σ ρ i a ds es vs ys} ⟨h1,vals,h2,h3,h4⟩ hs hi hσ hb h0 ha hr=>by
  refine ⟨h1,vals,h2,h3.other ha,?_⟩;exact h4.write hi (by rw [A9 (by rw [h1];exact hs.2)];exact hσ) hb h0 hr
 frz:=fun ⟨h1,vals,h2,h3,h4⟩ _ hi x=>by
  obtain ⟨a,vs,ha,x',e'⟩:=h4.frz hi x;exact ⟨_,x',h1,vals,h2,h3,e'⟩
variable {od:OD}
theorem pO {HB H0 H : Hp} {σ : L2.St} {ρ : En} {j : Nat} {f : Str} {r : Sl} (e : ST (FO K od) HB H0 H σ ρ) (hj : od.names[j]? = some f) (h : ρ[od.n + j]? = some (some r)) :
 ∃dx fs v,σ[od.s]? = some (some (.ref od.p))/\H od.p=some (.ins od.C dx fs)/\fs.lookup f=some v/\SlH K HB H0 H v r:=by
 obtain ⟨h1,vals,h2,h3,h4⟩:=e.r;obtain ⟨v,e1,e2⟩:=h4.get _ _ h;rw [<-h1,A3 (D2 _ _),CY] at e1
 obtain ⟨dx,fs,q1,q3,q4⟩:=h3.ins;exact ⟨dx,fs,v,h2,q1,by rw [q3 j f hj,e1];rfl,e2⟩
theorem oU{j:Nat}{f:Str}(hc:Cls K od.C)(hn:NoAttr K od.C f)(hj:od.names[j]? = some f):RP K (FO K od) (cP K (KL od.s) f) (mPk (od.n+j)):=fun HB σ ρ H0 H s e r hr Q q=>by
 obtain ⟨dx,fs,v,h1,h2,h3,h4⟩:=pO e hj (join_some hr);exact ⟨.ref od.p,h1,od.p,od.C,dx,fs,v,rfl,h2,hc,hn,h3,q v H0 H (Ext.refl s) h4.p⟩
def spR(K:PySem.W.Frag)(C:Addr)(names:List Str)(F:List PyData->List PyData->Option Sl):Sp:=fun vs H Q _=>∃H0 p fv fd ds r vs',vs = .ref p::vs'/\Same H0 H/\OR C names H p (fv.map some)/\Reps K H0 fv fd/\Reps K H0 vs' ds/\F fd ds=some r /\
 ∀v H0' H',Ext H0 H H0' H'->SlH K H H0' H' v r->Q v H'
def Z6:Sl->Bool
 | .val (.int _)=>true
 | .val (.bool _)=>true
 | .val .none=>true
 | .val (.str _)=>true
 | .own ds=>(JO ds).isSome
 | _=>false
theorem YC{HB H0 H H0':Hp}{v:V}(hs:∀a,HB a=none->H0' a=none):∀ {r:Sl},Z6 r=true->SlH K HB H0 H v r->SlH K HB H0' H v r
 | .val (.int i),_,h=>by cases (show Rep K H0 v (.int i) from h);exact Rep.int i
 | .val (.bool i),_,h=>by cases (show Rep K H0 v (.bool i) from h);exact Rep.bool i
 | .val .none,_,h=>by cases (show Rep K H0 v .none from h);exact Rep.none
 | .val (.str i),_,h=>by cases (show Rep K H0 v (.str i) from h);exact Rep.str i
 | .own ds,hf,⟨a,vs,e,h1,h2,h3,h4⟩=>by
  refine ⟨a,vs,e,h1,hs a h1,h3,?_⟩;obtain ⟨ns,hn⟩:=lN.mp (show (JO ds).isSome=true from hf);rw [LY hn] at h4 ⊢
  cases LL h4
  have allI:∀ns:List Int,Reps K H0' (ns.map V.int) (ns.map .int):=fun ns=>by
   induction ns with
   | nil=>exact .nil
   | cons n r ih=>exact .cons (.int n) ih
  exact allI ns
def OL:En->Option (List PyData)
 | []=>some []
 | some (.dct _)::_=>none
 | some s::r=>(OL r).map (s.dat :: ·)
 | none::_=>none
theorem SO{s:Sl}{r:En}{fd:List PyData}(h:OL (some s::r)=some fd):(∀k,s ≠ .dct k)/\(OL r).map (s.dat :: ·)=some fd:=by
 cases s with
 | val d=>exact ⟨(by intro k z;cases z),h⟩
 | own d=>exact ⟨(by intro k z;cases z),h⟩
 | dct d=>cases h
def MP(n:Nat)(F:List PyData->List PyData->Option Sl)(fa:En->Option (List PyData)):En->Option Sl:=fun ρ=>(fa ρ).bind fun ds=>(OL (ρ.drop n)).bind fun fd=>(F fd ds).bind fun r=>if Z6 r=true then some r else none
theorem aI {HB H0 H : Hp} : ∀ {vals : L2.St} {φ : En} {fd : List PyData}, vals.length = φ.length -> (∀ (j : Nat) s, φ[j]? = some (some s) -> ∃ v, vals[j]? = some (some v) /\ SlH K HB H0 H v s) -> OL φ = some fd -> Same H0 H ->
 ∃H0c fv,Same H0 H0c/\Same H0c H/\vals=fv.map some/\Reps K H0c fv fd
 | [],[],fd,_,_,h,s=>by cases h;exact ⟨H0,[],Same.refl _,s,rfl, .nil⟩
 | _::_,[],_,hl,_,_,_=>by cases hl
 | [],_::_,_,hl,_,_,_=>by cases hl
 | ov::vals,none::φ,fd,hl,hg,h,s=>by cases h
 | ov::vals,some sl::φ,fd,hl,hg,h,s=>by
  obtain ⟨fd',h1,rfl⟩:=BH.mp (SO h).2;obtain ⟨v,e1,e2⟩:=hg 0 sl rfl
  cases (show ov=some v from AY e1)
  obtain ⟨H0c,fv,a1,a2,a3,a4⟩:=aI (vals:=vals) (φ:=φ) (fd:=fd') (by simpa using hl) (fun j s hj=>hg (j+1) s (by simpa using hj)) h1 s
  cases sl with
  | val d=>exact ⟨H0c,v::fv,a1,a2,by rw [a3];rfl, .cons (Rep.same a1 e2) a4⟩
  | dct ds=>exact absurd rfl ((SO h).1 ds)
  | own ds=>
   obtain ⟨a,vs,rfl,g1,g2,g3,g4⟩:=e2
   cases ha:H0c a with
   | none=>
    have s1:Same H0c (upd H0c a (.lst vs)):=Same.upd ha _;refine ⟨upd H0c a (.lst vs), .ref a::fv,a1.trans s1,fun b u e=> ?_,by rw [a3];rfl, .cons (.list (SqL.of C9) (Reps.same (a1.trans s1) g4)) (Reps.same s1 a4)⟩
    by_cases hb:b=a
    . subst hb;rw [C9] at e;rw [g3];exact e
    . rw [BP hb] at e;exact a2 b u e
   | some u=>
    have:=a2 a u ha;rw [g3] at this
    cases this
    exact ⟨H0c, .ref a::fv,a1,a2,by rw [a3];rfl, .cons (.list (SqL.of ha) (Reps.same a1 g4)) a4⟩
theorem iK{ta:TA}{fa:En->Option (List PyData)}{F:List PyData->List PyData->Option Sl}{m:Str}{E:XK}(hm:m ∉ od.names)(h:RA K (FR K od) ta fa):RE K (FR K od) (ZZ od.C m (spR K od.C od.names F) [] E (KL od.s) ta) (MP od.n F fa):=fun HB σ ρ H0 H s e r hr Q q=>by
 obtain ⟨ds,hd,hr⟩:=A0.mp hr;obtain ⟨fd,hfd,hr⟩:=A0.mp hr;obtain ⟨r',hF,hr⟩:=A0.mp hr
 split at hr
 . rename_i hflat
   cases hr
   obtain ⟨h1,p,vals,hpp,h2,h3,h4⟩:=e.r;obtain ⟨dx,fs,q1,q2,q3,q4⟩:=h3.ins;refine ⟨.ref p,h2,p,dx,fs,rfl,q1,q4 m hm,?_⟩;refine h HB σ ρ H0 H s e ds hd _ fun vs H1 J1 x1 p1=> ?_;rw [DV];have e4:=h4.ext x1
   obtain ⟨H0c,fv,a1,a2,a3,a4⟩:=aI (K:=K) (HB:=HB) (H0:=H1) (H:=J1) (vals:=vals) (φ:=ρ.drop od.n) (fd:=fd) (by rw [JJ, <-e4.len,AT,h1];omega) (fun j s hj=>by
    rw [GI] at hj
    obtain ⟨v,k1,k2⟩:=e4.get _ _ hj;rw [<-h1,A3 (D2 _ _),CY] at k1
    exact ⟨v,k1,k2⟩) hfd x1.s1
   refine ⟨H0c,p,fv,fd,ds,r,vs,rfl,a2,⟨by rw [<-a3];exact h3.len,dx,fs,x1.s _ _ q1,by rw [<-a3];exact q3,q4⟩,a4,Reps.same a1 p1,hF,fun v H2 J2 x2 p2=> ?_⟩;have x3:Ext H1 J1 H1 J2:=⟨x2.s,Same.refl _,x1.s1.trans x2.s,fun _ _ _ _ h=>h⟩;exact q v H1 J2 (x1.trans x3) ((YC (fun a ha=>x1.s1.free ha) hflat p2).base x1.s)
 . cases hr
def eU(n m k:Nat)(g:En->Option Out):List PyData->List PyData->Option Sl:=fun fd ds=>if ds.length+1=m/\fd.length=k then (g ((none::ds.map (fun d=>some (.val d)))++List.replicate (n - (ds.length+1)) none++fd.map (fun d=>some (.val d)))).bind fun o=>match o with
 | .rt r _=>some r
 | .nx _=>some (.val .none)
 | _=>none else none
section
variable {P:Program} {w:World} {mg:Str->Option Value} {base:Heap}
theorem oY{HB H0 H:Hp}{fv:List V}{fd:List PyData}(h:Reps K H0 fv fd):ER K HB H0 H (fv.map some) (fd.map fun d=>some (.val d)) :=
 ⟨by rw [A4,A4];exact h.length,fun i s hs=>by
  rw [AS] at hs
  cases e:fd[i]? with
  | none=>rw [e] at hs;cases hs
  | some d=>
   rw [e] at hs
   cases hs
   obtain ⟨v,h1,h2⟩:=Tf.Reps.get h e;exact ⟨v,by rw [AS,h1];rfl,h2⟩,fun i j a xs ys _ g1 _ _ _=>by
  rw [AS] at g1
  cases e:fd[i]? with
  | none=>rw [e] at g1;cases g1
  | some d=>rw [e] at g1;cases g1⟩
theorem fnR {x qual : Str} {st : Stmt} {f : Addr} {fd : FuncData} {N ps : List Str} {k n m l : Nat} {g : En -> Option Out} (F : Fun K x qual st f fd) (S : FnScope N ps (AO st)) (hn : N.length = n) (hm : ps.length = m) (hl : names.length = l)
 (hb:∀(cdv:Value) (A:Around) (outer:List Env) (s:Shared) (H:Hp) (E:XK) (p:Addr),Room k (A.deeper (envOfC qual (AO st) s.heap.objs.size f cdv))->DSs (PH CX0 P w K mg base N qual (AO st) f cdv A outer s H E).nox (FO K ⟨C,names,0,n,p⟩) (HK st) g) :
 FnOk P w K mg base CX0 (k+1) f fd ps (spR K C names (eU n m l g)):=by
 subst hn hm hl;have hpl:ps.length<=N.length:=by have:=KM List.length S.pre;rw [CV] at this;omega
 refine F.ok S (fun vs H Q E h=> ?_) fun cdv A outer s H vs Q E hr h=> ?_
 . obtain ⟨H0,p,fv,fd,ds,r,vs',rfl,s1,o,hf1,hr,hf,_⟩:=h;unfold eU at hf
   split at hf
   . rename_i hl;rw [C8,hr.length];exact hl.1
   . cases hf
 . obtain ⟨H0,p,fv,fd,ds,r,vs',rfl,s1,oo,hf1,hr',hf,q⟩:=h;obtain ⟨t,ht,rs⟩:=hb cdv A outer s H E p hr;refine ⟨t,ht,?_⟩;unfold eU at hf
   split at hf
   . rename_i hl;obtain ⟨o,ho,hf⟩:=A0.mp hf;have hvl:=hr'.length
     have ls:(L2.start N (.ref p::vs')).length=N.length:=by
      unfold L2.start;simp only [List.length_append,List.length_map,List.length_replicate,List.length_cons];omega
     refine rs H H0 _ _ H0 H (Ext.refl s1) ⟨⟨ls,fv.map some,rfl,oo,aZ (by omega) hr' (oY hf1)⟩⟩ o ho _ ?_
     cases o with
     | rt r' ρ=>cases hf;exact fun v σ H1 J1 a _ c=>q v H1 J1 a c
     | nx ρ=>cases hf;exact fun σ H1 J1 a b=>q .non H1 J1 a .none
     | bk _=>cases hf
     | ct _=>cases hf
   . cases hf
end
theorem A01{ix:List (Option Nat)}(hx:(ix.filterMap id).Nodup:=by decide)(hn:(ix.all fun o=>match o with | some j=>decide (j<od.n) | none=>true)=true:=by rfl):∀(HB:Hp) (σ:L2.St) (ρ:En) (H0 H:Hp),(FO K od).r HB H0 H σ ρ->(PR K).r (fun _=>none) H0 H (F8 ix σ) (D3 ix ρ):=fun HB σ ρ H0 H e=>by
 obtain ⟨h1,vals,h2,h3,h4⟩:=e;have e:=ER.sub hx h4
 have:F8 ix (σ++vals)=F8 ix σ:=by
  unfold F8;refine List.map_congr_left fun o ho=> ?_
  cases o with
  | none=>rfl
  | some j=>
   have:=FP.mp hn _ ho;have hj:j<od.n:=by simpa using this
   show ((σ++vals)[j]?).join=_;rw [A9 (by omega)]
 rw [this] at e
 exact e
theorem uD {ix : List (Option Nat)} {s' n' : Nat} (hs : ix[s']? = some (some od.s) := by rfl) (hl : ix.length = n' := by rfl) (hx : (ix.filterMap id).Nodup := by decide) (hn : (ix.all fun o => match o with | some j => decide (j < od.n) | none => true) = true := by rfl) :
 ∀(HB:Hp) (σ:L2.St) (ρ:En) (H0 H:Hp),(FO K od).r HB H0 H σ ρ->(FO K ⟨od.C,od.names,s',n',od.p⟩).r (fun _=>none) H0 H (F8 ix σ) (subF ix od.n ρ):=fun HB σ ρ H0 H e=>by
 obtain ⟨h1,vals,h2,h3,h4⟩:=e
 have hlt:∀(i j:Nat),ix[i]? = some (some j)->j<od.n:=fun i j h=>by
  have:=FP.mp hn _ (AJ h);simpa using this
 have ls:(F8 ix σ).length=n':=by unfold F8;rw [List.length_map,hl]
 have le:(D3 ix ρ).length=n':=by unfold D3;rw [List.length_map,hl]
 have lρ:ρ.length=od.n+vals.length:=by rw [<-h4.len,AT,h1]
 have fi:∀(j:Nat),(ρ.drop od.n)[j]? = ρ[od.n+j]? :=fun j=>GI;have si:∀(j:Nat),(σ++vals)[od.n+j]? = vals[j]? :=fun j=>by rw [<-h1,A3 (D2 _ _),CY]
 have sg:∀(i j:Nat),ix[i]? = some (some j)->(F8 ix σ)[i]? = some ((σ++vals)[j]?).join:=fun i j h=>by rw [IY h,A9 (by rw [h1];exact hlt i j h)]
 refine ⟨ls,vals,?_,h3,?_,fun i r hi=> ?_,fun i k a xs ys hij g1 g2 g3 g4=> ?_⟩
 . show (F8 ix σ)[s']? = _;rw [IY hs,h2];rfl
 . unfold subF;rw [List.length_append,List.length_append,ls,le,List.length_drop,lρ];omega
 . unfold subF at hi
   by_cases hin:i<n'
   . rw [A9 (by omega)] at hi ⊢
     obtain ⟨j,k1,k2⟩:=GC hi;obtain ⟨v,k3,k4⟩:=h4.get j r k2;refine ⟨v,by rw [sg i j k1,k3];rfl,k4.base fun _ _ h=>by cases h⟩
   . rw [A3 (by omega),le,fi] at hi
     rw [A3 (by omega),ls];obtain ⟨v,k3,k4⟩:=h4.get _ r hi;rw [si] at k3
     exact ⟨v,k3,k4.base fun _ _ h=>by cases h⟩
 . unfold subF at g1 g2
   have mixed:∀(i k:Nat) xs ys,i<n'->n'<=k->(D3 ix ρ++ρ.drop od.n)[i]? = some (some (.own xs))->(D3 ix ρ++ρ.drop od.n)[k]? = some (some (.own ys))->(F8 ix σ++vals)[i]? = some (some (.ref a))->(F8 ix σ++vals)[k]? ≠ some (some (.ref a)):=by
    intro i k xs ys hi hk g1 g2 g3 g4;rw [A9 (by omega)] at g1 g3
    rw [A3 (by omega),le,fi] at g2
    rw [A3 (by omega),ls] at g4
    obtain ⟨j,k1,k2⟩:=GC g1;rw [sg i j k1] at g3
    exact h4.apart j (od.n+(k - n')) a xs ys (by have:=hlt i j k1;omega) k2 g2 (join_some (AY g3)) (by rw [si];exact g4)
   by_cases hi:i<n'
   . by_cases hk:k<n'
     . rw [A9 (by omega)] at g1 g2 g3 g4
       obtain ⟨j,k1,k2⟩:=GC g1;obtain ⟨l,k3,k4⟩:=GC g2;rw [sg i j k1] at g3
       rw [sg k l k3] at g4
       exact h4.apart j l a xs ys (by rintro rfl;exact hij (V1 hx k1 k3)) k2 k4 (join_some (AY g3)) (join_some (AY g4))
     . exact mixed i k xs ys hi (by omega) g1 g2 g3 g4
   . by_cases hk:k<n'
     . exact mixed k i ys xs hk (by omega) g2 g1 g4 g3
     . rw [A3 (by omega),le,fi] at g1 g2
       rw [A3 (by omega),ls] at g3 g4
       exact h4.apart _ _ a xs ys (by omega) g1 g2 (by rw [si];exact g3) (by rw [si];exact g4)
end
section
variable {X:Cx} {od:OD} {e a:Expr} {es:List Expr} {pos p apos cpos:Pos} {x f m:Str} {fe fa:En->Option Sl} {fs:En->Option (List PyData)}
theorem NM (j : Nat) (k : Klass X.K od.C od.names) (hN : X.N[od.s]? = some x := by rfl) (hv : Vis X.env.scope x := by first | exact E1 rfl | exact CF (E1 rfl) | exact CF (CF rfl)) (hj : od.names[j]? = some f := by rfl) (hd : (x == ("__debug__" : Str)) = false := by decide) (hcd : (x == ("__classdict__" : Str)) = false := by decide)
 (hb:attributeBase (.Name x p) f X.env (eval (.Name x p) X.env)=eval (.Name x p) X.env:=by rfl):DP X (FO X.K od) (.Attribute (.Name x p) f pos) (mPk (od.n+j)) :=
 ⟨_,RU (GD hN hv hd hcd) hb,oU k.cl (k.no f (AJ hj)) hj⟩
theorem jC {ps : List Str} {kk jj : Nat} {F : List PyData -> List PyData -> Option Sl} {pl : Sem Bool} (M : MDef X.prog X.w X.K X.mg X.base jj od.C m ps (spR X.K od.C od.names F)) (k : Klass X.K od.C od.names) (hr : Room kk X.A) (h : DA X (FR X.K od) (e :: es) fs) (hjj : jj <= kk := by decide) (hm : m ∉ od.names := by exact AD rfl)
 (hN:X.N[od.s]? = some x:=by rfl) (hv:Vis X.env.scope x:=by first | exact E1 rfl | exact CF (E1 rfl) | exact CF (CF rfl)) (hd:(x==("__debug__" : Str))=false:=by decide) (hcd:(x==("__classdict__" : Str))=false:=by decide)
 (hst:starEach (e::es) X.env=(false,eval e X.env)::starEach es X.env:=by rfl) (hpl:(backTo cpos (starEach es X.env)).any (·.1)=false:=by rfl)
 (ht:eval (.Call (.Attribute (.Name x p) m apos) (e::es) [] cpos) X.env=(do
  let ov <-eval (.Name x p) X.env
  standAt apos.atName
  let (f,first) <-holding [ov] (getMethod ov m pl)
  callWith cpos f first (backTo cpos (starEach (e::es) X.env)) (backToKw cpos (keywordEach [] X.env))):=by rfl):DE X (FR X.K od) (.Call (.Attribute (.Name x p) m apos) (e::es) [] cpos) (MP od.n F fs):=by
 obtain ⟨t,h1,h2⟩:=h;obtain ⟨f,fd,F1,M1,b1⟩:=M.ex;exact ⟨_,UQ (pl:=pl) (GD hN hv hd hcd) k.cl M1 F1 (hr.mono hjj) b1 .nil XA h1 hst hpl ht,iK hm h2⟩
end
end Dm
namespace Dm
open PySem PySem.Spec PyProof.Rows L2 Tf
theorem nQ{K:PySem.W.Frag}{od:OD}{ts:TS}{g:En->Option Out}(i:Nat)(h:RS K (FR K od) ts g):RS K (FR K od) ts (mFrz i g):=fun HB S0 σ ρ H0 H x e o ho D d=>by
 unfold mFrz frz1 at ho
 split at ho
 . rename_i ds hj;obtain ⟨h1,p,vals,hpp,h2,h3,h4⟩:=e.r;obtain ⟨a,vs,ha,x',e'⟩:=h4.frz (join_some hj) x;exact h HB S0 σ _ _ H x' ⟨⟨h1,p,vals,hpp,h2,h3.frz ha,e'⟩⟩ o ho D d
 . exact h HB S0 σ ρ H0 H x e o ho D d
theorem qG{X:Cx}{od:OD}{st:Stmt}{gs:En->Option Out}(i:Nat)(h:DS X (FR X.K od) st gs):DS X (FR X.K od) st (mFrz i gs):=by obtain ⟨t,h1,h2⟩:=h;exact ⟨_,h1,nQ i h2⟩
end Dm
namespace Tf
open PySem PySem.Spec PyProof.Rows L2
def u6(K:PySem.W.Frag)(a:Addr):It:=
 ⟨fun i H=>∃xs x,SqL K H a xs/\xs[i]? = some x,
  fun i H v H'=>∃p x,H p=none/\v = .ref p/\H'=upd H p (.tup [.int (i:Nat),x])/\(∀xs,SqL K H a xs->xs[i]? = some x),
  fun i H=>∃xs,SqL K H a xs/\xs.length<=i⟩
def xJ(e it l:Addr)(i:Nat)(h:Heap):Prop:=(∃old,IsEnum h e it (i:Nat) old)/\h.IsListIter it l i
theorem d8 {P : Program} {w : World} {K : PySem.W.Frag} {elts : List Expr} {k : Nat} {pos : Pos} {e it l : Addr} (hne : e ≠ it) :
 Turn P w K (.Tuple elts k pos) (u6 K l) [e,it] e (xJ e it l) where
 mem:=by simp
 obj:=fun i h st b hb=>by
  obtain ⟨⟨old,h1⟩,⟨o4,h4,_,d4⟩⟩:=st;simp only [B8,BK,EM] at hb
  rcases hb with rfl | rfl
  . exact ⟨_,h1,fun v e=>(nomatch e)⟩
  . exact ⟨_,h4,fun v e=>by rw [d4] at e;cases e⟩
 keep:=fun i h h' st kk=>by
  obtain ⟨⟨old,h1⟩,h4⟩:=st;exact ⟨⟨old,kk e (by simp) _ h1⟩,h4.at fun o x=>kk it (by simp) o x⟩
 item:=by
  intro X hP hw hK hc i pins s σ H E I hf st hg;subst hP hw hK;obtain ⟨⟨old,h1⟩,h4⟩:=st;obtain ⟨xs,x,q1,hx⟩:=hg;obtain ⟨its,rv,p,hz⟩:=I.list q1;obtain ⟨u,hu,ru⟩:=rv.get hx;have ltS:∀ {h:Heap} {b:Addr} {o:Obj},h.get? b=some o -> @LT.lt Nat _ b h.objs.size:=fun e=>AZ e;refine wpAny_pyNext_enum_item h1 h4 p.isList (x:=u) (by simpa using hu) hne fun h' a1 a2 a3 a4 hk=> ?_;refine ⟨_,rfl,wpAny_letOwnedTupleGo_enum (s:={s with heap:=h',toks:=s.toks+1}) a1 fun h'' a1' sb=> ?_⟩;have ch:∀b ∈ [e,it],H b=none:=fun b hb=>(hf b hb).1
  have kk:∀b o,b ∉ [e,it]->s.heap.get? b=some o->h''.get? b=some o:=fun b o hb x=>by
   simp only [B8,BK,EM,A05] at hb
   exact sb.extBut b o hb.1 (hk b o hb.1 hb.2 x)
  have eT:h''.get? s.heap.objs.size=some {cls:= .type "tuple",data:= .seq #[.int (i:Nat) s.toks,u]}:=sb.extBut _ _ (fun x=>by have l:=ltS h1;rw [<-x] at l;omega) a3;have nT:H s.heap.objs.size=none:=I.hok.fresh (AA _)
  have hok1 : HOk X.prog X.w H h'' := fun b o x => (I.hok b o x).stay (fun d v hd q => kk d v (fun hm => by
   have n:=ch d hm;rcases hd with hd | hd
   . rw [hd,x] at n;cases n
   . rw [hd] at n;cases n) q) (fun _ q=>q) fun _ _ q=>q
  have hok2:HOk X.prog X.w (upd H s.heap.objs.size (.tup [.int (i:Nat),x])) h'':=PY hok1 nT ⟨by show 2<=sizeLine;decide,[.int (i:Nat) s.toks,u], .cons ⟨_,rfl⟩ (.cons ru .nil),⟨_,eT,rfl,_,rfl⟩⟩
  have un:Un (frs X.stack) [e,it] H (upd H s.heap.objs.size (.tup [.int (i:Nat),x])) s.heap h'':=by
   refine ⟨fun b o x _ _ hx=>kk b o hx x,fun b o x _ _ hx=>⟨o.slots,kk b o hx x⟩,fun b o x n _=> ?_,fun b o x hx=>⟨o,kk b o hx x⟩,fun b zs x=> ?_,fun b o v x=> ?_,fun b ps x=>⟨#[],?_⟩⟩
   . have l:=ltS x;rw [BP (by intro q;subst q;omega)];exact n
   . rw [BP (BT x nT)];exact x
   . rw [BP (BT x nT)];exact x
   . rw [BP (BT x nT)];simpa using x
  have I2:Inv X pins σ (upd H s.heap.objs.size (.tup [.int (i:Nat),x])) {s with heap:=h'',toks:=s.toks+1}:=I.call' rfl un hok2 I.bare fun b hb=>by
   obtain ⟨f0,f1,f2,f3,f4,f5⟩:=hf b hb;exact ⟨f3,f1,f4,f5⟩
  refine ⟨.ref s.heap.objs.size,_,I2,rfl,⟨s.heap.objs.size,x,nT,rfl,rfl,fun zs hq=> ?_⟩,⟨⟨u,by simpa using a1'⟩,a2.extBut sb.extBut (HQ hne)⟩,fun b hb=> ?_⟩
  . rw [I.list_inj hq q1];exact hx
  . have n:=ch b hb
    obtain ⟨o,x⟩:∃o,s.heap.get? b=some o:=by
     simp only [B8,BK,EM] at hb
     rcases hb with rfl | rfl
     . exact ⟨_,h1⟩
     . obtain ⟨o,x,_⟩:=h4;exact ⟨o,x⟩
    have l:=ltS x;rw [BP (by intro q;subst q;omega)];exact n
 done:=by
  intro X hP hw hK hc i pins s σ H E I hf st hg;subst hP hw hK;obtain ⟨⟨old,h1⟩,h4⟩:=st;obtain ⟨xs,q1,he⟩:=hg;obtain ⟨its,rv,p,hz⟩:=I.list q1;have l1:=rv.length;refine wpAny_pyNext_enum_end (I.ok.hd hc) h1 h4 p.isList (by simp;omega) fun h' hk=>⟨rfl,?_⟩;have ch:∀b ∈ [it],H b=none:=fun b hb=>(hf b (by simp at hb;simp [hb])).1
  have kk:∀b o,b ∉ [it]->s.heap.get? b=some o->h'.get? b=some o:=fun b o hb x=>by
   simp only [B8,BK,EM] at hb
   exact hk b o hb x
  have hok1 : HOk X.prog X.w H h' := fun b o x => (I.hok b o x).stay (fun d v hd q => kk d v (fun hm => by
   have n:=ch d hm;rcases hd with hd | hd
   . rw [hd,x] at n;cases n
   . rw [hd] at n;cases n) q) (fun _ q=>q) fun _ _ q=>q
  have un:Un (frs X.stack) [it] H H s.heap h' :=
   ⟨fun b o x _ _ hx=>kk b o hx x,fun b o x _ _ hx=>⟨o.slots,kk b o hx x⟩,fun b o x n _=>n,fun b o x hx=>⟨o,kk b o hx x⟩,fun b zs x=>x,fun b o v x=>x,fun b ps x=>⟨#[],by simpa using x⟩⟩
  exact I.call' rfl un hok1 I.bare fun b hb=>by
   obtain ⟨f0,f1,f2,f3,f4,f5⟩:=hf b (by simp at hb;simp [hb]);exact ⟨f3,f1,f4,f5⟩
 self:=fun _ _ _ _ _ st h=>by
  obtain ⟨⟨old,h1⟩,_⟩:=st;exact wpAny_pyIter_enum h1 h
section
variable {X:Cx}
def rM(K:PySem.W.Frag)(ta:TA):TI:=fun σ H R=>ta σ H fun vs H1=>∃l1,vs = [.ref l1]/\(∃xs,SqL K H1 l1 xs)/\R (u6 K l1) H1
theorem lU {a : Expr} {ta : TA} {elts : List Expr} {k : Nat} {tp p pos : Pos} (hg : Gl X "enumerate") (hm : X.mg "enumerate" = none) (ha : PA X [a] ta) (hs : starEach [a] X.env = (false, eval a X.env) :: starEach [] X.env := by rfl) (hs2 : (backTo pos (starEach [] X.env)).any (·.1) = false := by rfl) :
 PI X (.Tuple elts k tp) (.Call (.Name "enumerate" p) [a] [] pos) (rM X.K ta):=by
 intro pins s σ H R I h;refine Call_ (JA I hg hm UA (C7 (thn (ha pos pins s σ H _ I h) fun us s1 ⟨vs,H1,I1,r1,q1⟩ => ?_) hs hs2));obtain ⟨l1,e,⟨xs,q1⟩,q⟩:=q1;subst e;obtain ⟨u,rfl,r2⟩:=L3 r1;have r2:u=Value.ref l1:=r2;subst r2;obtain ⟨its,rv,p1,hz⟩:=I1.list q1;refine call_enumerate_list p1.isList fun h' a1 a2 a3 hk=> ?_;refine wpAny_pyIter_enum (s:={s1 with heap:=h' }) a1 ?_
 have nb:∀b:Nat,b ∈ [s1.heap.objs.size+1,s1.heap.objs.size]->s1.heap.objs.size<=b:=fun b hb=>by
  simp only [B8,BK,EM] at hb
  omega
 exact ⟨_,[s1.heap.objs.size+1,s1.heap.objs.size],_,_,H1,rfl,I1.kept (t':=s1.toks) hk,d8 (l:=l1) (fun x=>by have x:s1.heap.objs.size+1=s1.heap.objs.size:=x;omega),⟨⟨_,a1⟩,a2⟩,fun b hb=>I1.fpOk (nb b hb) (I1.hok.fresh (nb b hb)),q⟩
end
end Tf
namespace Dm
open PySem PySem.Spec PyProof.Rows L2 Tf
def N7(xs:List PyData):List PyData:=(List.range xs.length).map fun i=> .tuple [.int (i:Nat),xs.getD i .none]
theorem WB{xs:List PyData}{i:Nat}{x:PyData}(h:xs[i]? = some x):xs.getD i .none=x:=by rw [List.getD,h];rfl
section
variable {K:PySem.W.Frag} {R:Rl} [RelOk K R]
theorem nR{H0:Hp}{a:Addr}{vs:List V}{ds:List PyData}(h:SqL K H0 a vs)(r:Reps K H0 vs ds):ItR K H0 (u6 K a) (N7 ds):=fun H0' H' s s' i=>by
 have h':=s'.seq (s.seq h);refine ⟨fun dd hd=> ?_,fun hi=>⟨vs,h',?_⟩⟩
 . unfold N7 at hd
   rw [AS] at hd
   by_cases hi:i<ds.length
   . rw [BO hi] at hd
     have e1:ds[i]? = some ds[i]:=A8 hi;simp only [F6,WB e1] at hd
     cases hd
     obtain ⟨v,q1,q2⟩:=Tf.Reps.get r e1;refine ⟨⟨vs,v,h',q1⟩,fun z H2 yl=> ?_⟩;obtain ⟨p,x',hp,rfl,rfl,hx⟩:=yl;have:=hx vs h';rw [q1] at this
     cases this
     refine ⟨_,Ext.allocF s' hp _, .tuple (SqT.of C9) ?_⟩;have s2:=s.trans (Same.upd (s'.free hp) (.tup [.int (i:Nat),v]));exact .cons (.int _) (.cons (Rep.same s2 q2) .nil)
   . rw [BZ (by rw [AE];omega)] at hd
     cases hd
 . rw [r.length];unfold N7 at hi
   rw [A4,AE] at hi
   omega
def iM(f:En->Option (List PyData)):En->Option (List PyData):=fun ρ=>(f ρ).bind fun a=>match a with
 | [.list xs]=>some (N7 xs)
 | _=>none
theorem pR{ta:TA}{f:En->Option (List PyData)}(h:RA K R ta f):RI K R (rM K ta) (iM f):=fun HB σ ρ H0 H s e ds hd R q=>by
 obtain ⟨a,ha,hd⟩:=A0.mp hd
 split at hd
 . cases hd
   refine h HB σ ρ H0 H s e _ ha _ fun vs H1 J1 x1 p1=> ?_
   cases p1 with | cons p1 t=>
    cases t
    cases p1 with | list a1 a2=>
     exact ⟨_,rfl,⟨_,x1.s1.seq a1⟩,q _ _ _ x1 (nR a1 a2)⟩
 . cases hd
end
section
variable {X:Cx} {R:Rl} [RelOk X.K R] {a:Expr} {pos p:Pos} {fs:En->Option (List PyData)}
theorem mY {elts:List Expr} {k} {tp:Pos} (hm:X.mg "enumerate" = none) (h:DA X R [a] fs) (hg:Gl X "enumerate" :=by rfl) (hs:starEach [a] X.env=(false,eval a X.env)::starEach [] X.env:=by rfl) (hs2:(backTo pos (starEach [] X.env)).any (·.1)=false:=by rfl):DI X R (.Tuple elts k tp) (.Call (.Name "enumerate" p) [a] [] pos) (iM fs):=by
 obtain ⟨t,h1,h2⟩:=h;exact ⟨_,lU hg hm h1 hs hs2,pR h2⟩
end
end Dm
namespace Dm
open PySem PySem.Spec PyProof.Rows L2 Tf
section
variable {X:Cx} {e b:Expr} {te tb:TE} {pos p2:Pos}
end
section
variable {K:PySem.W.Frag} {R:Rl} [RelOk K R]
end
section
variable {X:Cx} {R:Rl} [RelOk X.K R] {e b:Expr} {pos p2:Pos} {f fb:En->Option Sl}
end
end Dm
namespace Tf
open PySem PySem.Spec PyProof.Rows L2
section
variable {X:Cx} {pins:List (Addr×Obj)} {σ:L2.St} {H:Hp} {s:Shared}
theorem vY{prog:Program}{w:World}:∀ {k:List Int} {its:List Value},Vals (k.map V.int) its->ItemsAre (intKind prog w) k its:=by
 intro k
 induction k with
 | nil=>intro its h;cases h;exact .nil
 | cons n k ih=>
  intro its h
  cases h with
  | cons h1 h2=>
   obtain ⟨t,rfl⟩:=h1;exact .cons (by show Value.isInt n (.int n t)=true;simp [Value.isInt]) (ih h2)
theorem uP(I:Inv X pins σ H s){b:Addr}{k:List Int}(h:SqT X.K H b (k.map V.int)):(tupleKind (intKind X.prog X.w)).is s.heap k b:=by
 obtain ⟨its,rv,⟨o,h1,h2,n,h3⟩,_⟩:=I.tuple h;exact ⟨o,its.toArray,n,h1,h2,h3,by simpa using vY rv⟩
theorem xZ(I:Inv X pins σ H s){a:Addr}{es:List (List Int×Addr×Value)}(h:H a=some (.ext (DcE a es)))(ka:KA X.K H es):s.heap.DictOfH (tupleKind (intKind X.prog X.w)) a es:=by
 obtain ⟨⟨o,xs,ep,h1,h2,h3,h4,h5,_⟩,_⟩:=(show DcE a es s.heap/\_ from I.hok a _ h);exact ⟨o,xs,ep,h1,h2,h3,h4,fun x hx=>uP I (ka x hx),h5⟩
theorem DcE.stay{a:Addr}{es:List (List Int×Addr×Value)}(h1 h2:Heap)(x:DcE a es h1)(k:∀o,h1.get? a=some o->h2.get? a=some o):DcE a es h2:=by
 obtain ⟨o,xs,ep,e,r⟩:=x;exact ⟨o,xs,ep,k o e,r⟩
def jF(K:PySem.W.Frag)(td ty:TE):TE:=fun σ H Q=>td σ H fun x H1=>ty σ H1 fun y H2=>∃a b es k p v,x = .ref a/\y = .ref b/\H2 a=some (.ext (DcE a es))/\KA K H2 es/\SqT K H2 b (k.map V.int)/\atKey es k=some p/\RelV v p.2/\Q v H2
theorem fJ{o i:Expr}{pos:Pos}{td ty:TE}(hu:X.A.units+1<cLine)(ho:PE X o td)(hi:PE X i ty)(hs:tG i):PE X (.Subscript o i pos) (jF X.K td ty):=by
 intro pins s σ H Q I h;refine nJ PySem.F.slot_dict_getitem.lookup hs (thn (ho pins s σ H _ I h) fun u s1 ⟨x,H1,I1,rx,q1⟩=>thn (hi pins s1 σ H1 _ I1 q1) fun iv s2 ⟨y,H2,I2,ry,a,b,es,k,p,v,ex,ey,g1,g2,g3,g4,g5,q2⟩ => ?_);subst ex ey;obtain rfl:u=Value.ref a:=rx;obtain rfl:iv=Value.ref b:=ry;have dd:=xZ I2 g1 g2;exact ⟨dd.typeIs,wpAny_getItem_heap (tupleKind_room_in1 hu) (uP I2 g3) dd g4 ⟨v,H2,I2.tok _,g5,q2⟩⟩
def kR(K:PySem.W.Frag)(td ty tv:TE):TS:=fun D σ H=>tv σ H fun v H1=>td σ H1 fun x H2=>ty σ H2 fun y H3=>∃a b es k,x = .ref a/\y = .ref b/\H3 a=some (.ext (DcE a es))/\KA K H3 es/\SqT K H3 b (k.map V.int)/\es.length<1000/\atKey es k=none/\∀u,RelV v u->D.nx σ (upd H3 a (.ext (DcE a (es ++ [(k,b,u)]))))
theorem jX {o i value : Expr} {pos pos' : Pos} {td ty tv : TE} (hu : X.A.units + 1 < cLine) (ho : PE X o td) (hi : PE X i ty) (hv : PE X value tv) (hs : swapsWith value (some (.Subscript o i pos')) pos.line X.env = pure false) :
 PS X (.Assign [.Subscript o i pos'] value pos) (kR X.K td ty tv):=by
 intro pins s σ H D I h;refine wpAny_Assign_Subscript (thn (hv pins s σ H _ I h) fun r s1 ⟨v,H1,I1,rv,q1⟩=>thn (ho pins s1 σ H1 _ I1 q1) fun u s2 ⟨x,H2,I2,rx,q2⟩=>thn (hi pins s2 σ H2 _ I2 q2) fun iv s3 ⟨y,H3,I3,ry,a,b,es,k,ex,ey,g1,g2,g3,g4,g5,q3⟩ => ?_) hs;subst ex ey;obtain rfl:u=Value.ref a:=rx;obtain rfl:iv=Value.ref b:=ry;have dd:=xZ I3 g1 g2;have hz:es.length<=sizeLine:=by rw [qP];omega
 have sm:(a==sysModules)=false:=by
  obtain ⟨⟨_,_,_,_,_,_,_,_,z,_⟩,_⟩:=(show DcE a es s3.heap/\_ from I3.hok a _ g1);exact z
 refine wpAny_setItem_heap (hsz:=hz) (tupleKind_room_in1 hu) (uP I3 g3) dd fun h' dd' hs' => ?_;rw [storedH_new g5] at dd'
 obtain ⟨q,xs,ep,hq,h2,h3,h4,_,h5⟩:=dd';have new:DcE a (es ++ [(k,b,r)]) h':=⟨q,xs,ep,hq,h2,h3,h4,h5,sm,by rw [AT,qP];simp;omega⟩;exact ⟨σ,_,qE (ob:= .ext (DcE a (es ++ [(k,b,r)]))) I3 (by rw [g1];exact DJ) hs' ⟨q,hq⟩ ⟨new,⟨q,hq⟩,fun h1 h2 x k=>DcE.stay h1 h2 x k⟩,q3 r rv⟩
def tDNewI:TE:=fun _ H Q=>∀p,H p=none->Q (.ref p) (upd H p (.ext (DcE p [])))
theorem kN{pos:Pos}:PE X (.Dict [] [] pos) tDNewI:=fun pins s σ H Q I h=>
 wpAny_Dict_empty ⟨.ref s.heap.objs.size,_,I.laid (a:=s.heap.objs.size) (o:= .ext (DcE s.heap.objs.size [])) (t':=s.toks) (fun _ _ q=>A5 _ q) (AA _)
  ⟨⟨_, #[],0,B7 _ rfl,⟨rfl,rfl,rfl⟩,rfl,rfl,List.nodup_nil,F9.mpr (HQ (D4 I.big)),DZ _⟩,⟨_,B7 _ rfl⟩,fun h1 h2 x k=>DcE.stay h1 h2 x k⟩,rfl,h _ (I.hok.fresh (AA _))⟩
end
end Tf
namespace Dm
open PySem PySem.Spec PyProof.Rows L2 Tf
section
variable {K:PySem.W.Frag} {R:Rl} [RelOk K R]
theorem SlP.dct{H0 H:Hp}{v:V}{kvs:List (PyData×PyData)}(s:Same H0 H):∀ {r:Sl},SlP K H0 H v r->r.dat = .dict kvs->∃a es,v = .ref a/\H a=some (.ext (DcE a es))/\DctR K H0 es kvs
 | .val _,h,e=>by
  cases h with
  | dict h1 h2 h3 h4=>cases e;exact ⟨_,_,rfl,s _ _ h1,h2,_,_,h3,h4,rfl⟩
  | _=>cases e
 | .own _,_,e=>by cases e
 | .dct _,⟨a,t,e,h2,h3⟩,e2=>by cases e2;exact ⟨a,t,e,h2,h3⟩
def mDNew:En->Option Sl:=fun _=>some (.dct [])
theorem pJ:RE K R tDNewI mDNew:=fun HB σ ρ H0 H s e r hr Q q=>by
 cases hr
 exact fun p hp=>q _ _ _ (Ext.alloc s hp _) ⟨p,[],rfl,hp,s.free hp,C9,(fun _ h=>by cases h),[],[], .nil, .nil,rfl⟩
def O6:PyData->Option (List Int)
 | .tuple ds=>JO ds
 | _=>none
theorem ZD{H0 H:Hp}{v:V}{s:Sl}{k:List Int}(ss:Same H0 H)(p:SlP K H0 H v s)(h:O6 s.dat=some k):∃b,v = .ref b/\SqT K H b (k.map V.int)/\SqT K H0 b (k.map V.int):=by
 unfold O6 at h
 split at h
 . rename_i ds e;obtain ⟨a,vs,rfl,h1,h2⟩:=p.tup e;rw [LY h] at h2
   rw [LL h2] at h1
   exact ⟨a,rfl,Same.seqT ss h1,h1⟩
 . cases h
def LF:List (PyData×PyData)->List Int->Option PyData
 | [],_=>none
 | (a,d)::r,k=>if O6 a=some k then some d else LF r k
theorem L6(k:List Int):O6 (tIk k)=some k:=KD k
theorem Y1{xs:List V}{u:Value}{us:List Value}(h:Vals xs (u::us)):∃x xs',xs=x::xs'/\RelV x u/\Vals xs' us:=by
 cases h with
 | cons a b=>exact ⟨_,_,rfl,a,b⟩
theorem YI{H:Hp}{x:V}{xs:List V}{ds:List PyData}(h:Reps K H (x::xs) ds):∃d ds',ds=d::ds'/\Rep K H x d/\Reps K H xs ds':=by
 cases h with
 | cons a b=>exact ⟨_,_,rfl,a,b⟩
theorem DctR.look{H:Hp}{es:List (List Int×Addr×Value)}{kvs:List (PyData×PyData)}(h:DctR K H es kvs)(k:List Int):(atKey es k=none/\LF kvs k=none)\/∃p v d,atKey es k=some p/\LF kvs k=some d/\RelV v p.2/\Rep K H v d:=by
 obtain ⟨z,xs,ds,h1,h2,rfl⟩:=h;clear z
 induction es generalizing xs ds with
 | nil=>exact .inl ⟨rfl,rfl⟩
 | cons e es ih=>
  rw [CT] at h1
  obtain ⟨v,vs,rfl,r1,r2⟩:=Y1 h1;obtain ⟨d,ds,rfl,p1,p2⟩:=YI h2
  by_cases hk:e.1=k
  . refine .inr ⟨e.2,v,d,by simp [atKey,List.find?_cons,hk],?_,r1,p1⟩;show (if O6 (tIk e.1)=some k then some d else _)=_;rw [L6,AN (by rw [hk])]
  . have e1:atKey (e::es) k=atKey es k:=by simp [atKey,List.find?_cons,hk]
    have e2:LF ((tIk e.1,d)::(es.map fun e=>tIk e.1).zip ds) k=LF ((es.map fun e=>tIk e.1).zip ds) k:=by
     show (if O6 (tIk e.1)=some k then some d else _)=_;rw [L6,AR (fun z=>hk (AY z))]
    rw [e1];show (_/\LF ((tIk e.1,d)::(es.map fun e=>tIk e.1).zip ds) k=none)\/∃p v d',_/\LF ((tIk e.1,d)::(es.map fun e=>tIk e.1).zip ds) k=some d'/\_;rw [e2];exact ih vs ds r2 p2
theorem DctR.len{H:Hp}{es:List (List Int×Addr×Value)}{kvs:List (PyData×PyData)}(h:DctR K H es kvs):es.length=kvs.length:=by
 obtain ⟨_,xs,ds,h1,h2,rfl⟩:=h;have a:=h1.length;have b:=h2.length;rw [A4] at a
 rw [cH,A4];omega
theorem DctR.put{H:Hp}{es:List (List Int×Addr×Value)}{kvs:List (PyData×PyData)}(h:DctR K H es kvs){k:List Int}{b:Addr}{u:Value}{v:V}{d:PyData}(hb:SqT K H b (k.map V.int))(rv:RelV v u)(p:Rep K H v d):DctR K H (es ++ [(k,b,u)]) (kvs ++ [(tIk k,d)]):=by
 obtain ⟨ka,xs,ds,h1,h2,rfl⟩:=h;refine ⟨fun e he=> ?_,xs ++ [v],ds ++ [d],?_,Reps.append h2 (.cons p .nil),?_⟩
 . rcases DU.mp he with he | he
   . exact ka e he
   . cases B9.mp he
     exact hb
 . rw [BJ];exact Paired.snoc h1 rv
 . have a:=h1.length;have b:=h2.length;rw [A4] at a
   rw [BJ,List.zip_append (by rw [A4];omega)];rfl
def YO:Sl->Option (List (PyData×PyData)):=fun s=>match s.dat with
 | .dict kvs=>some kvs
 | _=>none
theorem vL{H0 H:Hp}{v:V}{r:Sl}{kvs:List (PyData×PyData)}(s:Same H0 H)(p:SlP K H0 H v r)(h:YO r=some kvs):∃a es,v = .ref a/\H a=some (.ext (DcE a es))/\DctR K H0 es kvs:=by
 unfold YO at h
 split at h
 . rename_i e;cases h;exact p.dct s e
 . cases h
def KR:Sl->Sl->Option Sl:=fun a b=>(YO a).bind fun kvs=>(O6 b.dat).bind fun k=>(LF kvs k).map .val
theorem mP{td ty:TE}{fa fb:En->Option Sl}(ha:RP K R td fa)(hb:RP K R ty fb):RE K R (jF K td ty) (mBin KR fa fb):=fun HB σ ρ H0 H s e z hz Q q=>by
 obtain ⟨x,hx,hz⟩:=A0.mp hz;obtain ⟨y,hy,hz⟩:=A0.mp hz;obtain ⟨kvs,h1,hz⟩:=A0.mp hz;obtain ⟨k,h2,hz⟩:=A0.mp hz;obtain ⟨d,h3,rfl⟩:=BH.mp hz;refine ha HB σ ρ H0 H s e x hx _ fun v H1 J1 x1 p1=> ?_;refine hb HB σ ρ H1 J1 x1.s1 (e.ext (K:=K) x1) y hy _ fun u H2 J2 x2 p2=> ?_;obtain ⟨a,es,rfl,g1,g2⟩:=vL x2.s1 (p1.ext x2) h1;obtain ⟨b,rfl,g3,_⟩:=ZD x2.s1 p2 h2;rcases g2.look k with ⟨_,e2⟩ | ⟨p,w,d',e1,e2,rw',r⟩
 . rw [e2] at h3;cases h3
 . rw [e2] at h3
   cases h3
   exact ⟨a,b,es,k,p,w,rfl,rfl,g1,fun z hz=>Same.seqT x2.s1 (g2.1 z hz),g3,e1,rw',q _ _ _ (x1.trans x2) r⟩
def lI(i:Nat)(ρ:En):Prop:=∀j kws,j≠i->ρ[j]? ≠ some (some (.dct kws))
theorem ER.writeD {HB H0 H : Hp} {σ : L2.St} {ρ : En} {i : Nat} {a : Addr} {kvs kws : List (PyData × PyData)} {t t' : List (List Int × Addr × Value)} (e : ER K HB H0 H σ ρ) (hl : lI i ρ) (hi : ρ[i]? = some (some (.dct kvs))) (hs : σ[i]? = some (some (.ref a))) (hb : HB a = none) (h0 : H0 a = none) (ha : H a = some (.ext (DcE a t))) (hr : DctR K H0 t' kws) :
 ER K HB H0 (upd H a (.ext (DcE a t'))) σ (ρ.set i (some (.dct kws))):=by
 have own:∀(j:Nat),∀ts,(ρ.set i (some (.dct kws)))[j]? = some (some (.own ts))->ρ[j]? = some (some (.own ts)):=by
  intro j ts h
  by_cases hj:i=j
  . subst hj;rw [CK,hi] at h
    cases h
  . rw [AI hj] at h;exact h
 refine ⟨by rw [DX];exact e.len,fun j s hq=> ?_,fun j k b ts us hjk hj hk h1 h2=> ?_⟩
 . by_cases hj:i=j
   . subst hj;rw [CK,hi] at hq
     cases hq
     exact ⟨.ref a,hs,a,t',rfl,hb,h0,C9,hr⟩
   . rw [AI hj] at hq
     obtain ⟨v,h1,h2⟩:=e.get j s hq;refine ⟨v,h1,?_⟩
     cases s with
     | val d=>exact h2
     | own ts=>
      obtain ⟨b,vs,rfl,g1,g2,g3,g4⟩:=h2;refine ⟨b,vs,rfl,g1,g2,?_,g4⟩;rw [BP]
      . exact g3
      . rintro rfl;rw [ha] at g3
        cases g3
     | dct ts=>exact absurd hq (hl j ts fun z=>hj z.symm)
 . exact e.apart j k b ts us hjk (own j ts hj) (own k us hk) h1 h2
def rC:Option Sl->Bool
 | some (.dct _)=>true
 | _=>false
def qM(i:Nat)(ρ:En):Bool:= !((ρ.set i none).any rC)
theorem bT{i:Nat}{ρ:En}(h:qM i ρ=true):lI i ρ:=fun j kws hj e=>by
 have h:(ρ.set i none).any rC=false:=by simpa [qM] using h
 have m:(ρ.set i none)[j]? = some (some (.dct kws)):=by rw [AI (HQ hj)];exact e
 have:=A26.mp h _ (AJ m);exact this rfl
def XB(i:Nat)(fk f:En->Option Sl):En->Option Out:=fun ρ=>(f ρ).bind fun r=>match (ρ[i]?).join with
 | some (.dct kvs)=>(fk ρ).bind fun b=>(O6 b.dat).bind fun k=>if (kvs.length<1000/\LF kvs k=none)/\qM i ρ=true then some (.nx (ρ.set i (some (.dct (kvs ++ [(tIk k,r.dat)]))))) else none
 | _=>none
theorem n5{te tk:TE}{f fk:En->Option Sl}{i:Nat}(h:RE K (PR K) te f)(hk:RP K (PR K) tk fk):RS K (PR K) (kR K (KL i) tk te) (XB i fk f):=fun HB S0 σ ρ H0 H x e o ho D d=>by
 obtain ⟨r,hr,ho⟩:=A0.mp ho
 split at ho
 . rename_i kvs hown;obtain ⟨b,hb,ho⟩:=A0.mp ho;obtain ⟨k,hkk,ho⟩:=A0.mp ho
   split at ho
   . rename_i hc
     cases ho
     refine h.rv HB σ ρ H0 H x.s1 e r.dat (by unfold mDat;rw [hr];rfl) _ fun v H1 J1 x1 p1=> ?_;obtain ⟨v',hs,a,t,rfl,g1,g2,g3,g4⟩:=(e.ext (K:=K) x1).r.get i _ (join_some hown);refine ⟨.ref a,hs,?_⟩;refine hk HB σ ρ H1 J1 x1.s1 (e.ext (K:=K) x1) _ hb _ fun w H2 J2 x2 p2=> ?_;have l0:=x2.own a _ g3 True.intro g2;obtain ⟨c,rfl,g5,g6⟩:=ZD x2.s1 p2 hkk;have g4':=g4.same x2.s0
     have hn:atKey t k=none:=by
      rcases g4'.look k with ⟨z,_⟩ | ⟨_,_,_,_,z,_⟩
      . exact z
      . rw [hc.1.2] at z;cases z
     refine ⟨a,c,t,k,rfl,rfl,x2.s _ _ g3,fun z hz=>Same.seqT x2.s1 (g4'.1 z hz),g5,by rw [g4.len];exact hc.1.1,hn,fun u ru=> ?_⟩;exact d σ H2 _ (((x.chain x1).chain x2).write g1 l0 _) ⟨ER.writeD (((e.ext (K:=K) x1).ext (K:=K) x2).r) (bT hc.2) (join_some hown) hs g1 l0 (x2.s _ _ g3) (g4'.put g6 ru (Rep.same x2.s0 p1))⟩
   . cases ho
 . cases ho
def b7(i:Nat)(ρ:En):Option En:=match (ρ[i]?).join with
 | some (.dct kvs)=>if qM i ρ=true then some (ρ.set i (some (.val (.dict kvs)))) else none
 | _=>none
def XC(i:Nat)(g:En->Option Out):En->Option Out:=fun ρ=>(b7 i ρ).bind g
theorem ER.frzD{S0 HB H0 H:Hp}{σ:L2.St}{ρ:En}{i:Nat}{kvs:List (PyData×PyData)}(e:ER K HB H0 H σ ρ)(hl:lI i ρ)(hi:ρ[i]? = some (some (.dct kvs)))(x:Ext S0 HB H0 H):∃H0',Ext S0 HB H0' H/\ER K HB H0' H σ (ρ.set i (some (.val (.dict kvs)))):=by
 obtain ⟨v,hs,a,t,rfl,g1,g2,g3,g4⟩:=e.get i _ hi;have s0:Same H0 (upd H0 a (.ext (DcE a t))):=Same.upd g2 _
 have x' : Ext S0 HB (upd H0 a (.ext (DcE a t))) H := ⟨x.s, x.s0.trans s0, fun b u q => by
  by_cases hb:b=a
  . subst hb;rw [C9] at q;rw [g3];exact q
  . rw [BP hb] at q;exact x.s1 b u q,fun b u q m q0=>by rw [BP (BT q g1)];exact x.own b u q m q0⟩
 have own:∀(j:Nat),∀ts,(ρ.set i (some (.val (.dict kvs))))[j]? = some (some (.own ts))->ρ[j]? = some (some (.own ts)):=by
  intro j ts h
  by_cases hj:i=j
  . subst hj;rw [CK,hi] at h
    cases h
  . rw [AI hj] at h;exact h
 refine ⟨_,x',⟨by rw [DX];exact e.len,fun j s hq=> ?_,fun j k b ts us hjk h1 h2 h3 h4=>e.apart j k b ts us hjk (own j ts h1) (own k us h2) h3 h4⟩⟩
 by_cases hij:i=j
 . subst hij;rw [CK,hi] at hq
   cases hq
   exact ⟨.ref a,hs,(g4.same s0).rep C9⟩
 . rw [AI hij] at hq
   obtain ⟨v,h1,h2⟩:=e.get j s hq;refine ⟨v,h1,?_⟩
   cases s with
   | val d=>exact Rep.same s0 h2
   | own ts=>
    obtain ⟨b,ws,rfl,q1,q2,q3,q4⟩:=h2;refine ⟨b,ws,rfl,q1,?_,q3,Reps.same s0 q4⟩;rw [BP]
    . exact q2
    . rintro rfl;rw [g3] at q3
      cases q3
   | dct ts=>exact absurd hq (hl j ts fun z=>hij z.symm)
theorem mB{ts:TS}{g:En->Option Out}(i:Nat)(h:RS K (PR K) ts g):RS K (PR K) ts (XC i g):=fun HB S0 σ ρ H0 H x e o ho D d=>by
 obtain ⟨ρ',h1,h2⟩:=Option.bind_eq_some_iff.mp ho;unfold b7 at h1
 split at h1
 . rename_i kvs hj
   split at h1
   . rename_i hl
     cases h1
     obtain ⟨H0',x',e'⟩:=ER.frzD e.r (bT hl) (join_some hj) x;exact h HB S0 σ _ H0' H x' ⟨e'⟩ o h2 D d
   . cases h1
 . cases h1
end
section
variable {X:Cx} {R:Rl} [RelOk X.K R] {a b c e tg:Expr} {pos p apos:Pos} {fa fb fc f:En->Option Sl} {st:Stmt} {gs:En->Option Out}
theorem nO:DE X R (.Dict [] [] pos) mDNew:=⟨_,kN,pJ⟩
theorem U3(hu:X.A.units+1<cLine)(ha:DP X R a fa)(hb:DP X R b fb)(hs:tG b:=by intro _ _;rfl):DE X R (.Subscript a b pos) (mBin KR fa fb):=by
 obtain ⟨ta,h1,h2⟩:=ha;obtain ⟨tb,h3,h4⟩:=hb;exact ⟨_,fJ hu h1 h3 hs,mP h2 h4⟩
theorem pA(i:Nat)(h:DS X (PR X.K) st gs):DS X (PR X.K) st (XC i gs):=by
 obtain ⟨t,h1,h2⟩:=h;exact ⟨_,h1,mB i h2⟩
theorem pY (hu : X.A.units + 1 < cLine) (i : Nat) {x : Str} {px ps : Pos} (hk : DP X (PR X.K) b fb) (h : DE X (PR X.K) e f) (hN : X.N[i]? = some x := by rfl) (hv : Vis X.env.scope x := by first | exact E1 rfl | exact CF (E1 rfl) | exact CF (CF rfl)) (hd : (x == ("__debug__" : Str)) = false := by decide) (hcd : (x == ("__classdict__" : Str)) = false := by decide)
 (hs:swapsWith e (some (.Subscript (.Name x px) b ps)) pos.line X.env=pure false:=by rfl):DS X (PR X.K) (.Assign [.Subscript (.Name x px) b ps] e pos) (XB i fb f):=by
 obtain ⟨t,h1,h2⟩:=h;obtain ⟨u,h3,h4⟩:=hk;exact ⟨_,jX hu (GD hN hv hd hcd) h3 h1 hs,n5 h2 h4⟩
end
end Dm
namespace Ba
abbrev Mx:=Nat->Nat->Int
def skip(p i:Nat):Nat:=if i<p then i else i+1
def HI(p r:Nat):Nat:=if r<p then r else r - 1
def sgn(n:Nat):Int:=if n % 2=0 then 1 else -1
def sumN:Nat->(Nat->Int)->Int
 | 0,_=>0
 | n+1,f=>sumN n f+f n
def det:Nat->Mx->Int
 | 0,_=>1
 | n+1,M=>sumN (n+1) fun p=>sgn (n - p)*M p n*det n (fun i=>M (skip p i))
theorem HJ(n:Nat)(M:Mx):det (n+1) M=sumN (n+1) fun p=>sgn (n - p)*M p n*det n (fun i=>M (skip p i)):=rfl
theorem sum_congr:∀ {n:Nat} {f g:Nat->Int},(∀i,i<n->f i=g i)->sumN n f=sumN n g
 | 0,_,_,_=>rfl
 | n+1,f,g,h=>by
  rw [sumN,sumN,sum_congr (n:=n) fun i hi=>h i (by omega),h n (by omega)]
theorem sum_zero:∀ {n:Nat} {f:Nat->Int},(∀i,i<n->f i=0)->sumN n f=0
 | 0,_,_=>rfl
 | n+1,f,h=>by rw [sumN,sum_zero (n:=n) fun i hi=>h i (by omega),h n (by omega)];rfl
theorem LP(a b:Int):∀ {n:Nat} {f g:Nat->Int},sumN n (fun i=>a*f i+b*g i)=a*sumN n f+b*sumN n g
 | 0,_,_=>by simp [sumN]
 | n+1,f,g=>by
  rw [sumN,sumN,sumN,LP a b (n:=n),QD,QD];omega
theorem sum_mul(a:Int){n:Nat}{f:Nat->Int}:sumN n (fun i=>a*f i)=a*sumN n f:=by
 have h:=LP a 0 (n:=n) (f:=f) (g:=fun _=>0);simpa using h
theorem sum_add{n:Nat}{f g:Nat->Int}:sumN n (fun i=>f i+g i)=sumN n f+sumN n g:=by
 have h:=LP 1 1 (n:=n) (f:=f) (g:=g);simpa using h
theorem sum_one:∀ {n r:Nat} {f:Nat->Int},r<n->(∀i,i<n->i≠r->f i=0)->sumN n f=f r
 | 0,r,_,h,_=>absurd h (by omega)
 | n+1,r,f,h,hz=>by
  rw [sumN]
  by_cases e:r=n
  . subst e;rw [sum_zero fun i hi=>hz i (by omega) (by omega)];omega
  . rw [sum_one (n:=n) (r:=r) (by omega) fun i hi hr=>hz i (by omega) hr,hz n (by omega) (by omega)];omega
theorem aV:∀ {n r:Nat} {f:Nat->Int},r+1<n->(∀i,i<n->i≠r->i≠r+1->f i=0)->sumN n f=f r+f (r+1)
 | 0,r,_,h,_=>absurd h (by omega)
 | n+1,r,f,h,hz=>by
  rw [sumN]
  by_cases e:r+1=n
  . subst e;rw [sum_one (r:=r) (by omega) fun i hi hr=>hz i (by omega) hr (by omega)]
  . rw [aV (n:=n) (r:=r) (by omega) fun i hi hr h2=>hz i (by omega) hr h2,hz n (by omega) (by omega) (by omega)];omega
theorem sum_comm:∀ {n m:Nat} {f:Nat->Nat->Int},sumN n (fun i=>sumN m (fun j=>f i j))=sumN m (fun j=>sumN n (fun i=>f i j))
 | 0,m,f=>by rw [sumN];exact (sum_zero fun _ _=>rfl).symm
 | n+1,m,f=>by
  rw [sumN,sum_comm (n:=n), <-sum_add];exact sum_congr fun j _=>rfl
theorem G6:∀ {n:Nat} {M N:Mx},(∀i,i<n->∀j,j<n->M i j=N i j)->det n M=det n N
 | 0,_,_,_=>rfl
 | n+1,M,N,h=>by
  rw [HJ,HJ];refine sum_congr fun p hp=> ?_;rw [h p hp n (by omega),G6 (n:=n) fun i hi j hj=>h (skip p i) (by unfold skip;split <;> omega) j (by omega)]
def setR(M:Mx)(r:Nat)(v:Nat->Int):Mx:=fun i=>if i=r then v else M i
theorem D0(M:Mx)(r:Nat)(v:Nat->Int):setR M r v r=v:=by simp [setR]
theorem E2{M:Mx}{r i:Nat}{v:Nat->Int}(h:i≠r):setR M r v i=M i:=by simp [setR,h]
theorem LN(M:Mx)(r:Nat):setR M r (M r)=M:=by
 funext i
 by_cases h:i=r
 . subst h;rw [D0]
 . rw [E2 h]
theorem IN{M:Mx}{r s:Nat}{u v:Nat->Int}(h:r≠s):setR (setR M r u) s v=setR (setR M s v) r u:=by
 funext i
 by_cases h1:i=r
 . subst h1;rw [E2 h,D0,D0]
 . by_cases h2:i=s
   . subst h2;rw [D0,E2 h1,D0]
   . rw [E2 h2,E2 h1,E2 h1,E2 h2]
theorem S6{M:Mx}{r p:Nat}{v:Nat->Int}(h:p≠r):(fun i=>setR M r v (skip p i))=setR (fun i=>M (skip p i)) (HI p r) v:=by
 funext i
 by_cases e:i=HI p r
 . rw [e,D0];have:skip p (HI p r)=r:=by (unfold skip HI;split <;> (try split) <;> omega)
   rw [this,D0]
 . rw [E2 e,E2];unfold skip HI at *
   split <;> split at e <;> omega
theorem JN{M:Mx}{r:Nat}{v:Nat->Int}:(fun i=>setR M r v (skip r i))=fun i=>M (skip r i):=by
 funext i;rw [E2];unfold skip
 split <;> omega
theorem LK(a b:Int):∀ {n r:Nat} {M:Mx} {u v:Nat->Int},r<n->det n (setR M r (fun j=>a*u j+b*v j))=a*det n (setR M r u)+b*det n (setR M r v)
 | 0,r,_,_,_,h=>absurd h (by omega)
 | n+1,r,M,u,v,h=>by
  rw [HJ,HJ,HJ, <-LP];refine sum_congr fun p hp=> ?_
  by_cases e:p=r
  . subst e;rw [JN,JN,JN,D0,D0,D0];generalize det n (fun i=>M (skip p i))=d;simp only [QD,Int.add_mul];congr 1 <;> ac_rfl
  . rw [S6 e,S6 e,S6 e,E2 e,E2 e,E2 e,LK a b (n:=n) (by unfold HI;split <;> omega)];simp only [Int.mul_add];congr 1 <;> ac_rfl
theorem NI{n r:Nat}{M:Mx}(h:r<n)(hz:∀j,j<n->M r j=0):det n M=0:=by
 have e:det n M=det n (setR M r (fun j=>0*M r j+0*M r j)):=G6 fun i hi j hj=>by
  by_cases q:i=r
  . subst q;rw [D0,hz j hj];omega
  . rw [E2 q]
 rw [e,LK 0 0 h];omega
theorem jV(n:Nat):sgn (n+1) = - sgn n:=by
 unfold sgn
 split <;> split <;> omega
theorem UY:∀ {n r:Nat} {M:Mx},r+1<n->(∀j,j<n->M r j=M (r+1) j)->det n M=0
 | 0,_,_,h,_=>absurd h (by omega)
 | n+1,r,M,h,he=>by
  rw [HJ,aV (r:=r) h]
  . have e : det n (fun i => M (skip r i)) = det n (fun i => M (skip (r + 1) i)) := G6 fun i hi j hj => by
     by_cases q:i=r
     . subst q;have a:skip i i=i+1:=by unfold skip;split <;> omega
       have b:skip (i+1) i=i:=by unfold skip;split <;> omega
       rw [a,b];exact (he j (by omega)).symm
     . have:skip r i=skip (r+1) i:=by unfold skip;split <;> split <;> omega
       rw [this]
    rw [e,he n (by omega)]
    have s:sgn (n - r) = - sgn (n - (r+1)):=by
     have:n - r=(n - (r+1))+1:=by omega
     rw [this,jV]
    rw [s];simp only [FZ];omega
  . intro p hp h1 h2
    have:det n (fun i=>M (skip p i))=0:=by
     refine UY (n:=n) (r:=HI p r) (by unfold HI;split <;> omega) fun j hj=> ?_;have a:skip p (HI p r)=r:=by (unfold skip HI;split <;> (try split) <;> omega)
     have b:skip p (HI p r+1)=r+1:=by (unfold skip HI;split <;> (try split) <;> omega)
     show M (skip p (HI p r)) j=M (skip p (HI p r+1)) j;rw [a,b];exact he j (by omega)
    rw [this,CL]
theorem US{n r:Nat}{M:Mx}{u v:Nat->Int}(h:r<n):det n (setR M r (fun j=>u j+v j))=det n (setR M r u)+det n (setR M r v):=by
 have:=LK 1 1 (M:=M) (u:=u) (v:=v) h;simpa using this
theorem kP{n r:Nat}{M:Mx}{u:Nat->Int}(a:Int)(h:r<n):det n (setR M r (fun j=>a*u j))=a*det n (setR M r u):=by
 have:=LK a 0 (M:=M) (u:=u) (v:=u) h;simpa using this
theorem o7 {n r s : Nat} {M : Mx} (hr : r < n) (hs : s < n) (hrs : r ≠ s) (z : ∀ (M : Mx), M r = M s -> det n M = 0) (u v : Nat -> Int) :
 det n (setR (setR M r u) s v) = - det n (setR (setR M r v) s u):=by
 have w:∀x:Nat->Int,det n (setR (setR M r x) s x)=0:=fun x=>z _ (by rw [E2 hrs,D0,D0]);have e:=w (fun j=>u j+v j);rw [US hs,IN hrs,US hr,IN hrs.symm,IN hrs.symm,IN (M:=M) (u:=fun j=>u j+v j) (v:=v) hrs,US hr,IN hrs.symm,IN hrs.symm,w,w] at e
 omega
theorem L7:∀ {d n r:Nat} {M:Mx},r+d+1<n->M r=M (r+d+1)->det n M=0
 | 0,n,r,M,h,he=>UY h fun j _=>congrFun he j
 | d+1,n,r,M,h,he=>by
  have hs:r+d+1<n:=by omega
  have q:=o7 (n:=n) (r:=r+d+1) (s:=r+d+1+1) (M:=M) hs (by omega) (by omega) (fun M' h'=>UY (by omega) fun j _=>congrFun h' j) (M (r+d+1)) (M (r+d+1+1));rw [LN,LN] at q
  rw [q,L7 (d:=d) (r:=r) hs]
  . rfl
  . rw [E2 (by omega),E2 (by omega),E2 (by omega),D0];exact he
theorem X8{n r s:Nat}{M:Mx}(hr:r<n)(hs:s<n)(hrs:r≠s)(he:M r=M s):det n M=0:=by
 rcases (by omega:r<s\/s<r) with h | h
 . obtain ⟨d,rfl⟩:∃d,s=r+d+1:=⟨s - r - 1,by omega⟩;exact L7 hs he
 . obtain ⟨d,rfl⟩:∃d,r=s+d+1:=⟨r - s - 1,by omega⟩;exact L7 hr he.symm
def exch(M:Mx)(r s:Nat):Mx:=setR (setR M r (M s)) s (fun j=> - M r j)
theorem WD{n r:Nat}{M:Mx}(hr:r<n)(a:Int)(q:Nat->Int):∀ {m:Nat},m<=r->det n (setR M r (fun j=>a*M r j+sumN m (fun p=>q p*M p j)))=a*det n M
 | 0,_=>by
  simp only [sumN,VG]
  rw [kP _ hr,LN]
 | m+1,h=>by
  have e:(fun j=>a*M r j+sumN (m+1) (fun p=>q p*M p j))=fun j=>1*(a*M r j+sumN m (fun p=>q p*M p j))+q m*M m j:=by
   funext j;rw [sumN];omega
  have z:det n (setR M r (fun j=>M m j))=0:=X8 (r:=r) (s:=m) hr (by omega) (by omega) (by rw [D0,E2 (by omega)]);rw [e,LK 1 (q m) hr,WD hr a q (m:=m) (by omega),z];omega
theorem gO{n:Nat}{M:Mx}(h:∀j,j<n->M n j=0):det (n+1) M=M n n*det n M:=by
 rw [HJ,sum_one (r:=n) (by omega)]
 . rw [Nat.sub_self]
   have:det n (fun i=>M (skip n i))=det n M:=G6 fun i hi j hj=>by
    have:skip n i=i:=by unfold skip;split <;> omega
    rw [this]
   rw [this];simp [sgn]
 . intro p hp hne
   have:det n (fun i=>M (skip p i))=0:=by
    refine NI (r:=n - 1) (by omega) fun j hj=> ?_;have e:skip p (n - 1)=n:=by unfold skip;split <;> omega
    show M (skip p (n - 1)) j=0;rw [e];exact h j hj
   rw [this,CL]
end Ba
namespace Ba
inductive Ex (n:Nat) (A:Mx):Mx->Prop where
 | refl:Ex n A A
 | step {B:Mx} {r s:Nat}:r<n->s<n->r≠s->Ex n A B->Ex n A (exch B r s)
theorem exch_r{M:Mx}{r s:Nat}(h:r≠s):exch M r s r=M s:=by unfold exch;rw [E2 h,D0]
theorem MR{M:Mx}{r s:Nat}:exch M r s s=fun j=> - M r j:=by unfold exch;rw [D0]
theorem JE{M:Mx}{r s i:Nat}(h1:i≠r)(h2:i≠s):exch M r s i=M i:=by unfold exch;rw [E2 h2,E2 h1]
def col(k:Nat)(L:Nat->Nat)(j t:Nat):Nat:=if t<k then L t else j
def row(k i r:Nat):Nat:=if r<k then r else i
def PJ(B:Mx)(k:Nat)(L:Nat->Nat)(i j:Nat):Int:=det (k+1) fun r t=>B (row k i r) (col k L j t)
def lds(B:Mx)(k:Nat)(L:Nat->Nat):Int:=det k fun r t=>B r (L t)
theorem WP(B:Mx)(k:Nat)(L:Nat->Nat)(c:Nat):lds B (k+1) (fun t=>if t=k then c else L t)=PJ B k L k c:=G6 fun r hr t ht=>by
 have e1:row k k r=r:=by unfold row;split <;> omega
 have e2:col k L c t=if t=k then c else L t:=by unfold col;split <;> split <;> first | rfl | omega
 rw [e1,e2]
theorem aR{B:Mx}{k i j:Nat}{L:Nat->Nat}{μ:Int}{q w:Nat->Int}(hw:∀j,w j=μ*B i j+sumN k (fun p=>q p*B p j))(hz:∀t,t<k->w (L t)=0):μ*PJ B k L i j=w j*lds B k L:=by
 have h:=WD (n:=k+1) (r:=k) (M:=fun r t=>B (row k i r) (col k L j t)) (by omega) μ q (m:=k) (AA k)
 have e:(fun t=>μ*B (row k i k) (col k L j t)+sumN k (fun p=>q p*B (row k i p) (col k L j t)))=fun t=>w (col k L j t):=by
  funext t;have e1:row k i k=i:=by unfold row;split <;> omega
  rw [hw,e1];congr 1
  exact sum_congr fun p hp=>by
   have:row k i p=p:=by unfold row;split <;> omega
   rw [this]
 rw [e,gO] at h
 . unfold PJ;rw [<-h,D0];have e2:col k L j k=j:=by unfold col;split <;> omega
   rw [e2];unfold lds;congr 1
   exact G6 fun r hr t ht=>by
    rw [E2 (by omega)];have e3:row k i r=r:=by unfold row;split <;> omega
    have e4:col k L j t=L t:=by unfold col;split <;> omega
    rw [e3,e4]
 . intro t ht;rw [D0];have e4:col k L j t=L t:=by unfold col;split <;> omega
   rw [e4,hz t ht]
structure BI (n m:Nat) (A R:Mx) (k:Nat) (L:Nat->Nat) (last:Int) (c:Nat) (B:Mx):Prop where
 kn:k<=n
 cm:c<=m
 Lc:∀t,t<k->L t<c
 Li:∀s t,s<t->t<k->L s<L t
 nz:last≠0
 ld:last=lds B k L
 top:∀i,i<k->∀j,j<m->R i j=PJ B i L i j
 topz:∀i,i<k->∀j,j<L i->R i j=0
 topn:∀i,i<k->R i (L i)≠0
 bot:∀i,k<=i->i<n->∃μ:Int,μ≠0/\∃q:Nat->Int,∀j,j<m->μ*R i j=last*(μ*B i j+sumN k (fun p=>q p*B p j))
 zero:∀i,k<=i->i<n->∀j,j<c->R i j=0
 ex:Ex n A B
theorem mul_cancel{a b c:Int}(h:a≠0)(e:a*b=a*c):b=c:=M4 h e
theorem BI.minor{n m:Nat}{A R:Mx}{k:Nat}{L:Nat->Nat}{last:Int}{c:Nat}{B:Mx}(I:BI n m A R k L last c B){i j:Nat}(hi:k<=i)(hn:i<n)(hj:j<m):R i j=PJ B k L i j:=by
 obtain ⟨μ,hμ,q,h⟩:=I.bot i hi hn
 have z:∀t,t<k->(fun j=>μ*B i j+sumN k (fun p=>q p*B p j)) (L t)=0:=by
  intro t ht;have e:=h (L t) (AM (I.Lc t ht) I.cm);rw [I.zero i hi hn (L t) (I.Lc t ht),CL] at e
  rcases FX.mp e.symm with e | e
  . exact absurd e I.nz
  . exact e
 have e:=aR (j:=j) (w:=fun j=>μ*B i j+sumN k (fun p=>q p*B p j)) (fun _=>rfl) z;have e2:=h j hj;refine mul_cancel hμ ?_;rw [e,e2,I.ld];exact C4 _ _
theorem BI.start{n m:Nat}(A:Mx):BI n m A A 0 (fun _=>0) 1 0 A where
 kn:=DZ _
 cm:=DZ _
 Lc:=fun t h=>absurd h (by omega)
 Li:=fun s t _ h=>absurd h (by omega)
 nz:=by decide
 ld:=rfl
 top:=fun i h=>absurd h (by omega)
 topz:=fun i h=>absurd h (by omega)
 topn:=fun i h=>absurd h (by omega)
 bot:=fun i _ _=>⟨1,by decide,fun _=>0,fun j _=>by simp [sumN]⟩
 zero:=fun i _ _ j h=>absurd h (by omega)
 ex:= .refl
theorem BI.none{n m:Nat}{A R:Mx}{k:Nat}{L:Nat->Nat}{last:Int}{c:Nat}{B:Mx}(I:BI n m A R k L last c B)(hc:c<m)(h:∀i,k<=i->i<n->R i c=0):BI n m A R k L last (c+1) B:=
 { I with
   cm:=hc
   Lc:=fun t ht=>A32 (I.Lc t ht)
   zero:=fun i h1 h2 j hj=>by
    by_cases e:j=c
    . subst e;exact h i h1 h2
    . exact I.zero i h1 h2 j (by omega)}
theorem ML{B B':Mx}{k i j:Nat}{L L':Nat->Nat}(hi:B i=B' i)(h:∀r,r<k->B r=B' r)(hL:∀t,t<k->L t=L' t):PJ B k L i j=PJ B' k L' i j:=G6 fun r hr t ht=>by
 have e1:B (row k i r)=B' (row k i r):=by
  unfold row
  split
  . exact h r (by assumption)
  . exact hi
 have e2:col k L j t=col k L' j t:=by
  unfold col
  split
  . exact hL t (by assumption)
  . rfl
 rw [e1,e2]
theorem e8{B B':Mx}{k:Nat}{L L':Nat->Nat}(h:∀r,r<k->B r=B' r)(hL:∀t,t<k->L t=L' t):lds B k L=lds B' k L':=G6 fun r hr t ht=>by rw [h r hr,hL t ht]
theorem BI.exch{n m:Nat}{A R:Mx}{k:Nat}{L:Nat->Nat}{last:Int}{c:Nat}{B:Mx}(I:BI n m A R k L last c B){p:Nat}(hp:k<p)(hn:p<n):BI n m A (exch R k p) k L last c (exch B k p):=by
 have up:∀ {M:Mx} {r:Nat},r<k->Ba.exch M k p r=M r:=fun h=>JE (by omega) (by omega);have su:∀(q:Nat->Int) j,sumN k (fun r=>q r*Ba.exch B k p r j)=sumN k (fun r=>q r*B r j):=fun q j=>sum_congr fun r hr=>by rw [up hr]
 refine ⟨I.kn,I.cm,I.Lc,I.Li,I.nz,?_,fun i hi j hj=> ?_,fun i hi j hj=> ?_,fun i hi=> ?_,fun i h1 h2=> ?_,fun i h1 h2 j hj=> ?_, .step (by omega) hn (by omega) I.ex⟩
 . rw [I.ld];exact e8 (fun r hr=>(up hr).symm) fun _ _=>rfl
 . rw [up hi,I.top i hi j hj];exact ML (up hi).symm (fun r hr=>(up (by omega)).symm) fun _ _=>rfl
 . rw [up hi];exact I.topz i hi j hj
 . rw [up hi];exact I.topn i hi
 . by_cases e1:i=k
   . subst e1;obtain ⟨μ,h,q,e⟩:=I.bot p (by omega) hn;exact ⟨μ,h,q,fun j hj=>by rw [exch_r (by omega),exch_r (by omega),su];exact e j hj⟩
   . by_cases e2:i=p
     . subst e2;obtain ⟨μ,h,q,e⟩:=I.bot k (AA _) (by omega);refine ⟨μ,h,fun r=> - q r,fun j hj=> ?_⟩;rw [MR,MR,su]
       have s:sumN k (fun r=> - q r*B r j) = - sumN k (fun r=>q r*B r j):=by
        have:=sum_mul (-1) (n:=k) (f:=fun r=>q r*B r j);rw [show - sumN k (fun r=>q r*B r j) = -1*sumN k (fun r=>q r*B r j) by omega, <-this];exact sum_congr fun r _=>by simp [FZ]
       rw [s,MA,MA, <-Int.neg_add,MA,e j hj]
     . obtain ⟨μ,h,q,e⟩:=I.bot i h1 h2;exact ⟨μ,h,q,fun j hj=>by rw [JE e1 e2,JE e1 e2,su];exact e j hj⟩
 . by_cases e1:i=k
   . subst e1;rw [exch_r (by omega)];exact I.zero p (by omega) hn j hj
   . by_cases e2:i=p
     . subst e2;rw [MR];show - R k j=0;rw [I.zero k (AA _) (by omega) j hj];rfl
     . rw [JE e1 e2];exact I.zero i h1 h2 j hj
def clr(R:Mx)(k c i j:Nat):Int:=R k c*R i j - R i c*R k j
theorem BI.exact {n m : Nat} {A R : Mx} {k : Nat} {L : Nat -> Nat} {last : Int} {c : Nat} {B : Mx} (I : BI n m A R k L last c B) (hc : c < m) (hk : k < n) (hl : R k c ≠ 0) {i : Nat} (hi : k < i) (hn : i < n) :
 (∃ν:Int,ν≠0/\∃s:Nat->Int,∀j,j<m->ν*clr R k c i j=last*(R k c*ν*B i j+sumN (k+1) (fun p=>s p*B p j))) /\
 ∀j,j<m->clr R k c i j=last*PJ B (k+1) (fun t=>if t=k then c else L t) i j:=by
 obtain ⟨μi,hμi,qi,ei⟩:=I.bot i (by omega) hn;obtain ⟨μk,hμk,qk,ek⟩:=I.bot k (AA _) hk;have hν:μi*μk≠0:=DH hμi hμk
 have key:∀j,j<m->μi*μk*clr R k c i j=last*(R k c*(μi*μk)*B i j+sumN (k+1) (fun p=>(if p=k then - (R i c*(μi*μk)) else R k c*μk*qi p - R i c*μi*qk p)*B p j)):=by
  intro j hj;have a:=ei j hj;have b:=ek j hj
  have s:sumN (k+1) (fun p=>(if p=k then - (R i c*(μi*μk)) else R k c*μk*qi p - R i c*μi*qk p)*B p j)=R k c*μk*sumN k (fun p=>qi p*B p j) - R i c*μi*sumN k (fun p=>qk p*B p j) - R i c*(μi*μk)*B k j:=by
   have t:sumN k (fun p=>(if p=k then - (R i c*(μi*μk)) else R k c*μk*qi p - R i c*μi*qk p)*B p j)=sumN k (fun p=>(R k c*μk)*(qi p*B p j)+(- (R i c*μi))*(qk p*B p j)):=sum_congr fun p hp=>by
    rw [AR (by omega),xV,FZ,CD,CD (R i c*μi),A03]
   rw [sumN,t,LP,AN rfl,FZ,FZ];omega
  rw [s];unfold clr
  have e1:μi*μk*(R k c*R i j - R i c*R k j)=R k c*μk*(μi*R i j) - R i c*μi*(μk*R k j):=by
   rw [Int.mul_sub];congr 1 <;> ac_rfl
  rw [e1,a,b];generalize sumN k (fun p=>qi p*B p j)=S1;generalize sumN k (fun p=>qk p*B p j)=S2;simp only [QD,Int.mul_sub];have c1:R k c*μk*(last*(μi*B i j))=last*(R k c*(μi*μk)*B i j):=by ac_rfl
  have c2:R k c*μk*(last*S1)=last*(R k c*μk*S1):=by ac_rfl
  have c3:R i c*μi*(last*(μk*B k j))=last*(R i c*(μi*μk)*B k j):=by ac_rfl
  have c4:R i c*μi*(last*S2)=last*(R i c*μi*S2):=by ac_rfl
  rw [c1,c2,c3,c4];omega
 refine ⟨⟨μi*μk,hν,_,key⟩,fun j hj=> ?_⟩
 have cz:∀t,t<k+1->clr R k c i (if t=k then c else L t)=0:=by
  intro t ht;unfold clr
  by_cases e:t=k
  . rw [AN e,C4];omega
  . have lt:=I.Lc t (by omega);rw [AR e,I.zero i (by omega) hn _ lt,I.zero k (AA _) hk _ lt];omega
 have wz:∀t,t<k+1->(fun j=>R k c*(μi*μk)*B i j+sumN (k+1) (fun p=>(if p=k then - (R i c*(μi*μk)) else R k c*μk*qi p - R i c*μi*qk p)*B p j)) ((fun t=>if t=k then c else L t) t)=0:=by
  intro t ht
  have e:=key (if t=k then c else L t) (by
   by_cases e:t=k
   . rw [AN e];exact hc
   . rw [AR e];have:=I.Lc t (by omega);omega)
  rw [cz t ht,CL] at e
  rcases FX.mp e.symm with e | e
  . exact absurd e I.nz
  . exact e
 have d:=aR (j:=j) (L:=fun t=>if t=k then c else L t) (w:=fun j=>R k c*(μi*μk)*B i j+sumN (k+1) (fun p=>(if p=k then - (R i c*(μi*μk)) else R k c*μk*qi p - R i c*μi*qk p)*B p j)) (fun _=>rfl) wz;rw [WP, <-I.minor (AA _) hk hc] at d
 have hR:R k c*(μi*μk)≠0:=DH hl hν;have e:=key j hj;generalize PJ B (k+1) (fun t=>if t=k then c else L t) i j=y at d ⊢
 generalize R k c*(μi*μk)*B i j+sumN (k+1) (fun p=>(if p=k then - (R i c*(μi*μk)) else R k c*μk*qi p - R i c*μi*qk p)*B p j)=w at d e
 have hw:w=μi*μk*y:=by
  refine mul_cancel hl ?_;rw [C4, <-d]
  ac_rfl
 refine mul_cancel hν ?_;rw [e,hw]
 ac_rfl
theorem BI.step {n m : Nat} {A R : Mx} {k : Nat} {L : Nat -> Nat} {last : Int} {c : Nat} {B : Mx} (I : BI n m A R k L last c B) (hc : c < m) (hk : k < n) (hl : R k c ≠ 0) {R' : Mx}
 (ht:∀i,i<=k->∀j,j<m->R' i j=R i j) (hb:∀i,k<i->i<n->∀j,j<m->last*R' i j=clr R k c i j):BI n m A R' (k+1) (fun t=>if t=k then c else L t) (R k c) (c+1) B:=by
 refine ⟨hk,hc,fun t h=> ?_,fun s t h1 h2=> ?_,hl,?_,fun i hi j hj=> ?_,fun i hi j hj=> ?_,fun i hi=> ?_,fun i h1 h2=> ?_,fun i h1 h2 j hj=> ?_,I.ex⟩
 . show (if t=k then c else L t)<c+1
   split
   . omega
   . have:=I.Lc t (by omega);omega
 . show (if s=k then c else L s)<(if t=k then c else L t);rw [AR (by omega)]
   split
   . exact I.Lc s (by omega)
   . exact I.Li s t h1 (by omega)
 . rw [WP];exact I.minor (AA _) hk hc
 . rw [ht i (by omega) j hj]
   by_cases e:i=k
   . subst e;rw [I.minor (AA _) hk hj];exact ML rfl (fun _ _=>rfl) fun t h=>by rw [AR (by omega)]
   . rw [I.top i (by omega) j hj];exact ML rfl (fun _ _=>rfl) fun t h=>by rw [AR (by omega)]
 . have hj:j<(if i=k then c else L i):=hj
   by_cases e:i=k
   . rw [AN e] at hj
     rw [e,ht k (by omega) j (by omega)];exact I.zero k (AA _) hk j hj
   . rw [AR e] at hj
     have:=I.Lc i (by omega);rw [ht i (by omega) j (by omega)];exact I.topz i (by omega) j hj
 . show R' i (if i=k then c else L i)≠0
   by_cases e:i=k
   . rw [AN e];subst e;rw [ht i (by omega) c hc];exact hl
   . rw [AR e];have:=I.Lc i (by omega);rw [ht i (by omega) _ (by omega)];exact I.topn i (by omega)
 . obtain ⟨⟨ν,hν,s,e⟩,_⟩:=I.exact hc hk hl (i:=i) (by omega) h2;refine ⟨R k c*ν,DH hl hν,s,fun j hj=> ?_⟩;have q:=e j hj;rw [<-hb i (by omega) h2 j hj] at q
   have q2:ν*R' i j=R k c*ν*B i j+sumN (k+1) (fun p=>s p*B p j):=by
    refine mul_cancel I.nz ?_;rw [<-q]
    ac_rfl
   rw [<-q2]
   ac_rfl
 . refine mul_cancel I.nz ?_;rw [hb i (by omega) h2 j (by omega),Int.mul_zero];unfold clr
   by_cases e:j=c
   . subst e;rw [C4];omega
   . rw [I.zero i (by omega) h2 j (by omega),I.zero k (AA _) hk j (by omega)];omega
end Ba
namespace Ba
theorem UM{X:Nat}:∀ {n:Nat} {f:Nat->Int},(∀i,i<n->(f i).natAbs<=X)->(sumN n f).natAbs<=n*X
 | 0,_,_=>by simp [sumN]
 | n+1,f,h=>by
  have h1:=UM (n:=n) fun i hi=>h i (by omega);have h2:=h n (by omega);have h3:=VD (sumN n f) (f n);rw [sumN,NZ];omega
theorem Q1{N Y:Nat}:∀ {n:Nat} {M:Mx},n<=N->(∀i,i<n->∀j,j<n->(M i j).natAbs<=Y)->(det n M).natAbs<=(N*Y) ^ n
 | 0,_,_,_=>by simp [det]
 | n+1,M,hn,h=>by
  rw [HJ]
  have t:∀p,p<n+1->(sgn (n - p)*M p n*det n (fun i=>M (skip p i))).natAbs<=Y*(N*Y) ^ n:=by
   intro p hp;rw [Int.natAbs_mul,Int.natAbs_mul];have s:(sgn (n - p)).natAbs=1:=by unfold sgn;split <;> rfl
   rw [s,Nat.one_mul];exact Nat.mul_le_mul (h p hp n (by omega)) (Q1 (n:=n) (by omega) fun i hi j hj=>h (skip p i) (by unfold skip;split <;> omega) j (by omega))
  have:=UM t;refine BG this ?_;rw [O0,IT ((N*Y) ^ n)];rw [Nat.mul_assoc];exact GA hn (AA _)
theorem Ex.bound{n m Y:Nat}{A B:Mx}(h:Ex n A B)(hA:∀i,i<n->∀j,j<m->(A i j).natAbs<=Y):∀i,i<n->∀j,j<m->(B i j).natAbs<=Y:=by
 induction h with
 | refl=>exact hA
 | @step B r s h1 h2 h3 _ ih=>
  intro i hi j hj
  by_cases e1:i=s
  . subst e1;rw [MR];show (- B r j).natAbs<=Y;rw [Int.natAbs_neg];exact ih r h1 j hj
  . by_cases e2:i=r
    . subst e2;rw [exch_r e1];exact ih s h2 j hj
    . rw [JE e2 e1];exact ih i hi j hj
theorem fR{a s n:Nat}(ha:1<=a)(h:s<=n):a ^ s<=a ^ n:=BW ha h
theorem BI.bound {n m Y : Nat} {A R : Mx} {k : Nat} {L : Nat -> Nat} {last : Int} {c : Nat} {B : Mx} (I : BI n m A R k L last c B) (hn : n <= 32) (hY : 1 <= Y) (hA : ∀ i, i < n -> ∀ j, j < m -> (A i j).natAbs <= Y) :
 (∀i,i<n->∀j,j<m->(R i j).natAbs<=(32*Y) ^ n)/\last.natAbs<=(32*Y) ^ n:=by
 have hB:=I.ex.bound hA;have hL:∀t,t<k->L t<m:=fun t ht=>AM (I.Lc t ht) I.cm
 have bo:∀s i j,s<=k->s+1<=n->i<n->j<m->(PJ B s L i j).natAbs<=(32*Y) ^ n:=by
  intro s i j hs hsn hi hj;refine BG (Q1 (N:=32) (Y:=Y) (by omega) fun r hr t ht=> ?_) (fR (by omega) hsn);refine hB _ ?_ _ ?_
  . unfold row;split <;> omega
  . unfold col;split
    . exact hL t (by omega)
    . exact hj
 refine ⟨fun i hi j hj=> ?_,?_⟩
 . by_cases h:i<k
   . rw [I.top i h j hj];exact bo i i j (by omega) (by omega) hi hj
   . rw [I.minor (by omega) hi hj];exact bo k i j (AA _) (by omega) hi hj
 . rw [I.ld];refine BG (Q1 (N:=32) (Y:=Y) (by have:=I.kn;omega) fun r hr t ht=> ?_) (fR (by omega) I.kn);exact hB r (by have:=I.kn;omega) _ (hL t ht)
end Ba
namespace Tr
def E:List Int->Nat->Int
 | [],0=>1
 | [],_+1=>0
 | _::_,0=>1
 | s::l,k+1=>E l (k+1)+(s - 1)*E l k
def S:List Int->Nat->Int
 | [],_=>1
 | _::_,0=>1
 | s::l,u+1=>S l (u+1)+(s - 1)*S l u
theorem O8(f:Nat->Int):∀n,((List.range (n+1)).map f).sum=((List.range n).map f).sum+f n:=by
 intro n;rw [FY,BJ,OU];simp
def dg:List Nat->Nat->List Nat
 | [],_=> []
 | c::r,x=>x % c::dg r (x / c)
def prodN:List Nat->Nat
 | []=>1
 | c::r=>c*prodN r
theorem prodN_app:∀a b,prodN (a++b)=prodN a*prodN b
 | [],b=>by simp [prodN]
 | c::a,b=>by simp only [JK,prodN,prodN_app a b,Nat.mul_assoc]
theorem O1:∀a,prodN a.reverse=prodN a
 | []=>rfl
 | c::a=>by rw [IS,prodN_app,O1 a];simp [prodN,IT]
theorem UK:∀r x,(dg r x).length=r.length
 | [],_=>rfl
 | c::r,x=>by simp [dg,UK r]
def tri(L:List Nat)(x:Nat):List Nat:=(dg L.reverse x).reverse
theorem iW(L:List Nat)(c x:Nat):tri (L ++ [c]) x=tri L (x / c) ++ [x % c]:=by
 unfold tri;rw [List.reverse_append];simp [dg]
theorem tri_len(L:List Nat)(x:Nat):(tri L x).length=L.length:=by simp [tri,UK]
def allT(L:List Nat):List (List Nat):=(List.range (prodN L)).map (tri L)
theorem SY{α:Type}(f:Nat->Nat->α)(c:Nat)(hc:0<c):∀m,(List.range (m*c)).map (fun x=>f (x / c) (x % c))=(List.range m).flatMap fun q=>(List.range c).map (f q)
 | 0=>by simp
 | m+1=>by
  rw [NZ,List.range_add,BJ,SY f c hc m,FY,HX,G1];congr 1
  simp only [MB,List.flatMap_nil,DV];refine BC fun x hx=> ?_;have hx:=C5.mp hx;show f ((m*c+x) / c) ((m*c+x) % c)=f m x;rw [IT m c,Nat.mul_add_div hc,Nat.mul_add_mod,Nat.mod_eq_of_lt hx,Nat.div_eq_of_lt hx,sK]
theorem gM:allT [] = [[]]:=rfl
theorem allT_snoc(L:List Nat)(c:Nat)(hc:0<c):allT (L ++ [c])=(allT L).flatMap fun t=>(List.range c).map fun s=>t ++ [s]:=by
 unfold allT
 have e:(List.range (prodN (L ++ [c]))).map (tri (L ++ [c]))=(List.range (prodN L*c)).map (fun x=>(fun q s=>tri L q ++ [s]) (x / c) (x % c)):=by
  rw [prodN_app];simp only [prodN,xW];exact BC fun x _=>iW L c x
 rw [e,SY (fun q s=>tri L q ++ [s]) c hc,List.flatMap_map]
theorem prodN_pos:∀r:List Nat,(∀c ∈ r,0<c)->0<prodN r
 | [],_=>by decide
 | c::r,h=>xX (h c (by simp)) (prodN_pos r fun d hd=>h d (by simp [hd]))
end Tr
namespace Ba
theorem QV{n r:Nat}{M:Mx}(h:r<n)(f:Nat->Int)(g:Nat->Nat->Int):∀m,det n (setR M r (fun j=>sumN m (fun s=>f s*g s j)))=sumN m (fun s=>f s*det n (setR M r (g s)))
 | 0=>NI h fun j _=>by rw [D0];rfl
 | m+1=>by
  have e:(fun j=>sumN (m+1) (fun s=>f s*g s j))=fun j=>1*(fun j=>sumN m (fun s=>f s*g s j)) j+f m*g m j:=by
   funext j;rw [sumN];show _=1*sumN m (fun s=>f s*g s j)+f m*g m j;rw [QE]
  rw [e,LK 1 (f m) h,QV h f g m,sumN];omega
def cO(s j:Nat):Int:=if j=s then 1 else 0
def cof(n:Nat)(M:Mx)(r s:Nat):Int:=det n (setR M r (cO s))
theorem pS{n r:Nat}{M:Mx}(h:r<n)(v:Nat->Int):det n (setR M r v)=sumN n (fun s=>v s*cof n M r s):=by
 unfold cof;rw [<-QV h v cO n];refine G6 fun i hi j hj=> ?_
 by_cases e:i=r
 . subst e;rw [D0,D0,sum_one (r:=j) hj fun s _ hs=>by unfold cO;rw [if_neg (fun q=>hs q.symm),Int.mul_zero]];unfold cO;rw [if_pos rfl,Int.mul_one]
 . rw [E2 e,E2 e]
def crx(n:Nat)(M:Mx)(b:Nat->Int)(s:Nat):Int:=sumN n (fun r=>cof n M r s*b r)
theorem lB(n:Nat)(M:Mx)(b:Nat->Int){i:Nat}(hi:i<n):sumN n (fun s=>M i s*crx n M b s)=det n M*b i:=by
 have e1:sumN n (fun s=>M i s*crx n M b s)=sumN n (fun s=>sumN n (fun r=>M i s*(cof n M r s*b r))):=sum_congr fun s _=>by
  unfold crx;rw [sum_mul]
 rw [e1,sum_comm]
 have e2:sumN n (fun r=>sumN n (fun s=>M i s*(cof n M r s*b r)))=sumN n (fun r=>b r*det n (setR M r (M i))):=sum_congr fun r hr=>by
  rw [pS hr, <-sum_mul];exact sum_congr fun s _=>by rw [<-CD,C4]
 rw [e2,sum_one (r:=i) hi fun r hr hne=>by
  rw [X8 (r:=r) (s:=i) hr hi hne (by rw [D0,E2 (fun q=>hne q.symm)]),CL]]
 rw [LN,C4]
theorem WK(B:Mx)(i:Nat)(L:Nat->Nat)(c:Nat):PJ B i L i c=sumN (i+1) (fun p=>B p c*(sgn (i - p)*det i (fun r t=>B (skip p r) (L t)))):=by
 unfold PJ;rw [HJ];refine sum_congr fun p hp=> ?_;have e1:row i i p=p:=by unfold row;split <;> omega
 have e2:col i L c i=c:=by unfold col;split <;> omega
 have e3:det i (fun r t=>B (row i i (skip p r)) (col i L c t))=det i (fun r t=>B (skip p r) (L t)):=G6 fun r hr t ht=>by
  have e4:row i i (skip p r)=skip p r:=by
   have:skip p r<=i:=by unfold skip;split <;> omega
   unfold row;split <;> omega
  have e5:col i L c t=L t:=by unfold col;rw [if_pos ht]
  rw [e4,e5]
 rw [e1,e2];show sgn (i - p)*B p c*det i (fun r t=>B (row i i (skip p r)) (col i L c t))=_;rw [e3,C4 (sgn (i - p)),CD]
def redx(B:Mx)(k:Nat)(L:Nat->Nat)(j t:Nat):Int:=crx k (fun r t=>B r (L t)) (fun r=>B r j) t
theorem BI.red {n m : Nat} {A R : Mx} {k : Nat} {L : Nat -> Nat} {last : Int} {c : Nat} {B : Mx} (I : BI n m A R k L last c B) {i j : Nat} (hi : i < k) (hj : j < m) :
 sumN k (fun t=>R i (L t)*redx B k L j t)=last*R i j:=by
 have hL:∀t,t<k->L t<m:=fun t ht=>AM (I.Lc t ht) I.cm
 have e1:sumN k (fun t=>R i (L t)*redx B k L j t)=sumN k (fun t=>sumN (i+1) (fun p=>B p (L t)*(sgn (i - p)*det i (fun r t=>B (skip p r) (L t)))*redx B k L j t)):=sum_congr fun t ht=>by
  rw [I.top i hi (L t) (hL t ht),WK,C4, <-sum_mul];exact sum_congr fun p _=>C4 _ _
 rw [e1,sum_comm,I.top i hi j hj,WK, <-sum_mul];refine sum_congr fun p hp=> ?_;have h:=lB k (fun r t=>B r (L t)) (fun r=>B r j) (i:=p) (by omega);have e2:last=det k (fun r t=>B r (L t)):=I.ld;rw [<-e2] at h
 have e3:sumN k (fun t=>B p (L t)*(sgn (i - p)*det i (fun r t=>B (skip p r) (L t)))*redx B k L j t)=(sgn (i - p)*det i (fun r t=>B (skip p r) (L t)))*sumN k (fun t=>B p (L t)*crx k (fun r t=>B r (L t)) (fun r=>B r j) t):=by
  rw [<-sum_mul];refine sum_congr fun t _=> ?_;unfold redx;generalize (sgn (i - p)*det i (fun r t=>B (skip p r) (L t)))=a;rw [Int.mul_comm (B p (L t)) a,Int.mul_assoc]
 rw [e3,h];generalize (sgn (i - p)*det i (fun r t=>B (skip p r) (L t)))=a;show a*(last*B p j)=last*(B p j*a);rw [C4 a,CD]
theorem NU:∀ {k i:Nat} {f:Nat->Int},i<=k->(∀t,t<i->f t=0)->sumN k f=sumN (k - i) (fun t=>f (i+t))
 | 0, i, f, h, _ => by have : i = 0 := by omega
                       subst this;rfl
 | k+1,i,f,h,z=>by
  by_cases e:i=k+1
  . subst e;rw [sum_zero z,Nat.sub_self];rfl
  . have e1:k+1 - i=(k - i)+1:=by omega
    rw [e1,sumN,sumN,NU (k:=k) (by omega) z];congr 2
    omega
theorem N9:∀ {n:Nat} {f:Nat->Int},sumN (n+1) f=f 0+sumN n (fun t=>f (t+1))
 | 0,f=>by simp [sumN]
 | n+1,f=>by rw [sumN,N9 (n:=n),sumN];omega
theorem BI.back {n m : Nat} {A R : Mx} {k : Nat} {L : Nat -> Nat} {last : Int} {c : Nat} {B : Mx} (I : BI n m A R k L last c B) {i j : Nat} (hi : i < k) (hj : j < m) :
 last*R i j - sumN (k - (i+1)) (fun t=>R i (L (i+1+t))*redx B k L j (i+1+t))=R i (L i)*redx B k L j i:=by
 have h:=I.red hi hj;rw [NU (i:=i) (by omega) fun t ht=>by rw [I.topz i hi (L t) (I.Li t i ht hi),EU]] at h
 have e:k - i=(k - (i+1))+1:=by omega
 rw [e,N9] at h
 have e2:sumN (k - (i+1)) (fun t=>R i (L (i+(t+1)))*redx B k L j (i+(t+1)))=sumN (k - (i+1)) (fun t=>R i (L (i+1+t))*redx B k L j (i+1+t)):=sum_congr fun t _=>by
  rw [show i+(t+1)=i+1+t by omega]
 rw [e2] at h
 simp only [sK] at h
 omega
theorem BI.back_div {n m : Nat} {A R : Mx} {k : Nat} {L : Nat -> Nat} {last : Int} {c : Nat} {B : Mx} (I : BI n m A R k L last c B) {i j : Nat} (hi : i < k) (hj : j < m) :
 Int.fdiv (last*R i j - sumN (k - (i+1)) (fun t=>R i (L (i+1+t))*redx B k L j (i+1+t))) (R i (L i))=redx B k L j i:=by
 rw [I.back hi hj];exact G7 _ (I.topn i hi)
theorem BI.only {n m : Nat} {A R : Mx} {k : Nat} {L : Nat -> Nat} {last : Int} {c : Nat} {B : Mx} (I : BI n m A R k L last c B) {j : Nat} (hj : j < m) {y : Nat -> Int}
 (hy:∀i,i<k->sumN k (fun t=>R i (L t)*y t)=last*R i j):∀d i,i<k->k - i<=d->y i=redx B k L j i
 | 0,i,hi,hd=>by omega
 | d+1,i,hi,hd=>by
  have h:=hy i hi;rw [<-I.red hi hj] at h
  rw [NU (i:=i) (by omega) fun t ht=>by rw [I.topz i hi (L t) (I.Li t i ht hi),EU],
   NU (f:=fun t=>R i (L t)*redx B k L j t) (i:=i) (by omega) fun t ht=>by rw [I.topz i hi (L t) (I.Li t i ht hi),EU]] at h
  have e:k - i=(k - (i+1))+1:=by omega
  rw [e,N9,N9] at h
  have e2:sumN (k - (i+1)) (fun t=>R i (L (i+(t+1)))*y (i+(t+1)))=sumN (k - (i+1)) (fun t=>R i (L (i+(t+1)))*redx B k L j (i+(t+1))):=sum_congr fun t ht=>by
   rw [I.only hj hy d (i+(t+1)) (by omega) (by omega)]
  rw [e2] at h
  have h2:R i (L i)*y i=R i (L i)*redx B k L j i:=by
   simp only [sK] at h
   omega
  exact mul_cancel (I.topn i hi) h2
theorem BI.red_lead{n m:Nat}{A R:Mx}{k:Nat}{L:Nat->Nat}{last:Int}{c:Nat}{B:Mx}(I:BI n m A R k L last c B){s i:Nat}(hs:s<k)(hi:i<k):redx B k L (L s) i=if i=s then last else 0:=by
 refine (I.only (j:=L s) (AM (I.Lc s hs) I.cm) (y:=fun i=>if i=s then last else 0) (fun i hi=> ?_) k i hi (by omega)).symm;rw [sum_one (r:=s) hs fun t _ ht=>by rw [AR ht,CL],AN rfl,C4]
theorem BI.red_ahead{n m:Nat}{A R:Mx}{k:Nat}{L:Nat->Nat}{last:Int}{c:Nat}{B:Mx}(I:BI n m A R k L last c B){i j:Nat}(hi:i<k)(hj:j<L i):∀d t,t<k->i<=t->k - t<=d->redx B k L j t=0
 | 0,t,ht,_,hd=>by omega
 | d+1,t,ht,hit,hd=>by
  have hLi:L i<=L t:=by
   rcases Nat.lt_or_ge i t with h | h
   . exact HP (I.Li i t h ht)
   . have:i=t:=by omega
     subst this;exact AA _
  have hm:j<m:=by have:=I.Lc t ht;have:=I.cm;omega
  have h:=I.back ht hm
  rw [I.topz t ht j (by omega),CL,sum_zero fun u hu=>by
   rw [I.red_ahead hi hj d (t+1+u) (by omega) (by omega) (by omega),CL]] at h
  have h2:R t (L t)*redx B k L j t=0:=by omega
  rcases FX.mp h2 with h3 | h3
  . exact absurd h3 (I.topn t ht)
  . exact h3
theorem lA(s j:Nat):(cO s j).natAbs<=1:=by unfold cO;split <;> decide
theorem pL{N Y n:Nat}{M:Mx}(hn:n<=N)(hY:1<=Y)(h:∀i,i<n->∀j,j<n->(M i j).natAbs<=Y)(r s:Nat):(cof n M r s).natAbs<=(N*Y) ^ n:=by
 unfold cof;refine Q1 hn fun i hi j hj=> ?_
 by_cases e:i=r
 . subst e;rw [D0];exact BG (lA s j) hY
 . rw [E2 e];exact h i hi j hj
theorem oJ{N Y n:Nat}{M:Mx}{b:Nat->Int}(hn:n<=N)(hY:1<=Y)(h:∀i,i<n->∀j,j<n->(M i j).natAbs<=Y)(hb:∀i,i<n->(b i).natAbs<=Y)(s:Nat):(crx n M b s).natAbs<=n*((N*Y) ^ n*Y):=by
 unfold crx;refine UM fun i hi=> ?_;rw [Int.natAbs_mul];exact Nat.mul_le_mul (pL hn hY h i s) (hb i hi)
theorem BI.red_abs {n m Y : Nat} {A R : Mx} {k : Nat} {L : Nat -> Nat} {last : Int} {c : Nat} {B : Mx} (I : BI n m A R k L last c B) (hY : 1 <= Y) (hA : ∀ i, i < n -> ∀ j, j < m -> (A i j).natAbs <= Y) {j : Nat} (hj : j < m) (t : Nat) :
 (redx B k L j t).natAbs<=k*((n*Y) ^ k*Y):=by
 have hB:=I.ex.bound hA;unfold redx;refine oJ I.kn hY (fun r hr t ht=>hB r (Nat.lt_of_lt_of_le hr I.kn) (L t) (Nat.lt_of_lt_of_le (I.Lc t ht) I.cm)) (fun r hr=>hB r (Nat.lt_of_lt_of_le hr I.kn) j hj) t
end Ba
namespace Ba
def Ker(n m:Nat)(A:Mx)(x:Nat->Int):Prop:=∀i,i<n->sumN m (fun j=>A i j*x j)=0
structure RR (m k:Nat) (L:Nat->Nat) (ρ:Mx) (e:Int):Prop where
 nz:e≠0
 Lm:∀t,t<k->L t<m
 Li:∀s t,s<t->t<k->L s<L t
 ld:∀t,t<k->∀s,s<k->ρ t (L s)=if t=s then e else 0
 az:∀t,t<k->∀j,j<L t->ρ t j=0
theorem RR.inj{m k:Nat}{L:Nat->Nat}{ρ:Mx}{e:Int}(h:RR m k L ρ e){s t:Nat}(hs:s<k)(ht:t<k)(he:L s=L t):s=t:=by
 rcases Nat.lt_trichotomy s t with h1 | h1 | h1
 . have:=h.Li s t h1 ht;omega
 . exact h1
 . have:=h.Li t s h1 hs;omega
open Classical in
noncomputable def kv(k:Nat)(L:Nat->Nat)(ρ:Mx)(e:Int)(j:Nat)(c:Nat):Int:=
 if c=j then e else if h:∃t,t<k/\L t=c then - ρ h.choose j else 0
theorem yL{k:Nat}{L:Nat->Nat}{ρ:Mx}{e:Int}{j:Nat}:kv k L ρ e j j=e:=by unfold kv;rw [if_pos rfl]
theorem RR.kv_L{m k:Nat}{L:Nat->Nat}{ρ:Mx}{e:Int}(h:RR m k L ρ e){j t:Nat}(ht:t<k)(hj:L t≠j):kv k L ρ e j (L t) = - ρ t j:=by
 unfold kv;rw [if_neg hj];have hx:∃s,s<k/\L s=L t:=⟨t,ht,rfl⟩;rw [dif_pos hx,h.inj hx.choose_spec.1 ht hx.choose_spec.2]
theorem kv_else{k:Nat}{L:Nat->Nat}{ρ:Mx}{e:Int}{j c:Nat}(hc:c≠j)(hn:∀t,t<k->L t≠c):kv k L ρ e j c=0:=by
 unfold kv;rw [if_neg hc,dif_neg];rintro ⟨t,ht,h⟩;exact hn t ht h
theorem VU{n r s:Nat}{f:Nat->Int}(hr:r<n)(hs:s<n)(hrs:r≠s)(h:∀i,i<n->i≠r->i≠s->f i=0):sumN n f=f r+f s:=by
 have e:sumN n f=sumN n (fun i=>if i=r then f r else 0)+sumN n (fun i=>if i=r then 0 else f i):=by
  rw [<-sum_add];exact sum_congr fun i _=>by split <;> simp_all
 rw [e,sum_one (r:=r) hr fun i _ hi=>by rw [AR hi],sum_one (r:=s) hs fun i hi hne=>by
  by_cases e2:i=r
  . rw [AN e2]
  . rw [AR e2];exact h i hi e2 hne]
 rw [AN rfl,AR (fun q=>hrs q.symm)]
theorem RR.row_kv {m k k' : Nat} {L : Nat -> Nat} {ρ ρ' : Mx} {e e' : Int} (h : RR m k L ρ e) (h' : RR m k' L ρ' e') (hk : k' = k) {j t : Nat} (hj : j < m) (hn : ∀ t, t < k -> L t ≠ j) (ht : t < k) :
 sumN m (fun c=>ρ' t c*kv k L ρ e j c)=e'*(- ρ t j)+ρ' t j*e:=by
 subst hk;rw [VU (r:=L t) (s:=j) (h.Lm t ht) hj (hn t ht) fun c hc h1 h2=> ?_]
 . rw [h.kv_L ht (hn t ht),yL,h'.ld t ht t ht,AN rfl]
 . by_cases hx:∃s,s<k'/\L s=c
   . obtain ⟨s,hs,rfl⟩:=hx;have hts:t≠s:=fun q=>h1 (by rw [q]);rw [h'.ld t ht s hs,AR hts,EU]
   . rw [kv_else h2 fun t ht q=>hx ⟨t,ht,q⟩,CL]
theorem RR.ker_kv{m k:Nat}{L:Nat->Nat}{ρ:Mx}{e:Int}(h:RR m k L ρ e){j:Nat}(hj:j<m)(hn:∀t,t<k->L t≠j):Ker k m ρ (kv k L ρ e j):=fun t ht=>by
 rw [h.row_kv h rfl hj hn ht,MA,C4];omega
theorem BI.rr{n m:Nat}{A R:Mx}{k:Nat}{L:Nat->Nat}{last:Int}{c:Nat}{B:Mx}(I:BI n m A R k L last c B):RR m k L (fun t j=>redx B k L j t) last where
 nz:=I.nz
 Lm:=fun t ht=>AM (I.Lc t ht) I.cm
 Li:=I.Li
 ld:=fun t ht s hs=>I.red_lead hs ht
 az:=fun t ht j hj=>I.red_ahead ht hj k t ht (AA _) (by omega)
theorem Ex.ker{n m:Nat}{A B:Mx}(h:Ex n A B)(x:Nat->Int):Ker n m A x↔Ker n m B x:=by
 induction h with
 | refl=>exact Iff.rfl
 | @step B r s hr hs hrs _ ih=>
  rw [ih]
  have neg:sumN m (fun j=> - B r j*x j) = - sumN m (fun j=>B r j*x j):=by
   have:=sum_mul (-1) (n:=m) (f:=fun j=>B r j*x j);rw [show (- sumN m (fun j=>B r j*x j)) = -1*sumN m (fun j=>B r j*x j) by omega, <-this];exact sum_congr fun j _=>by rw [FZ,FZ,QE]
  constructor
  . intro k i hi
    by_cases e1:i=s
    . subst e1;rw [MR];show sumN m (fun j=> - B r j*x j)=0;rw [neg,k r hr];rfl
    . by_cases e2:i=r
      . subst e2;rw [exch_r hrs];exact k s hs
      . rw [JE e2 e1];exact k i hi
  . intro k i hi
    by_cases e1:i=s
    . subst e1;have:=k r hr;rw [exch_r hrs] at this;exact this
    . by_cases e2:i=r
      . subst e2;have h1:=k s hs;rw [MR] at h1
        have h2:sumN m (fun j=> - B i j*x j)=0:=h1;rw [neg] at h2;omega
      . have:=k i hi;rw [JE e2 e1] at this;exact this
theorem sum_mul_right(a:Int){n:Nat}{f:Nat->Int}:sumN n (fun i=>f i*a)=sumN n f*a:=by
 rw [C4, <-sum_mul];exact sum_congr fun i _=>C4 _ _
theorem BI.ker{n m:Nat}{A R:Mx}{k:Nat}{L:Nat->Nat}{last:Int}{B:Mx}(I:BI n m A R k L last m B)(x:Nat->Int):Ker n m A x↔Ker k m (fun t j=>redx B k L j t) x:=by
 rw [I.ex.ker (m:=m)]
 constructor
 . intro h t ht;show sumN m (fun j=>redx B k L j t*x j)=0
   have e:sumN m (fun j=>redx B k L j t*x j)=sumN m (fun j=>sumN k (fun r=>cof k (fun r t=>B r (L t)) r t*(B r j*x j))):=sum_congr fun j _=>by
    unfold redx crx;rw [<-sum_mul_right];exact sum_congr fun r _=>Int.mul_assoc _ _ _
   rw [e,sum_comm];refine sum_zero fun r hr=> ?_;rw [sum_mul,h r (AM hr I.kn),CL]
 . intro h
   have top:∀p,p<k->sumN m (fun j=>B p j*x j)=0:=fun p hp=>by
    have e:last*sumN m (fun j=>B p j*x j)=0:=by
     rw [<-sum_mul]
     have e1:sumN m (fun j=>last*(B p j*x j))=sumN m (fun j=>sumN k (fun t=>B p (L t)*(redx B k L j t*x j))):=sum_congr fun j _=>by
      have c:=lB k (fun r t=>B r (L t)) (fun r=>B r j) hp;have e2:last=det k (fun r t=>B r (L t)):=I.ld;rw [<-e2] at c
      rw [<-CD];show last*B p j*x j=_;rw [<-c, <-sum_mul_right];exact sum_congr fun t _=>CD _ _ _
     rw [e1,sum_comm];refine sum_zero fun t ht=> ?_;rw [sum_mul,show sumN m (fun j=>redx B k L j t*x j)=0 from h t ht,CL]
    rcases FX.mp e with e | e
    . exact absurd e I.nz
    . exact e
   intro i hi;rcases Nat.lt_or_ge i k with h1 | h1
   . exact top i h1
   . obtain ⟨μ,hμ,q,hq⟩:=I.bot i h1 hi
     have e:μ*sumN m (fun j=>B i j*x j)=0:=by
      rw [<-sum_mul]
      have e1:sumN m (fun j=>μ*(B i j*x j))=sumN m (fun j=> -1*sumN k (fun p=>q p*(B p j*x j))):=sum_congr fun j hj=>by
       have e2:=hq j hj;rw [I.zero i h1 hi j hj,CL] at e2
       rcases FX.mp e2.symm with e3 | e3
       . exact absurd e3 I.nz
       . have e4:μ*B i j = -1*sumN k (fun p=>q p*B p j):=by omega
         rw [<-CD,e4,CD, <-sum_mul_right];congr 1
         exact sum_congr fun p _=>CD _ _ _
      rw [e1,sum_mul,sum_comm,sum_zero fun p hp=> ?_]
      . rfl
      . rw [sum_mul,top p hp,CL]
     rcases FX.mp e with e | e
     . exact absurd e hμ
     . exact e
end Ba
namespace Ba
theorem oB{n:Nat}{f g:Nat->Int}(h:sumN n (fun i=>f i - g i)=0):sumN n f=sumN n g:=by
 have e:=LP 1 (-1) (n:=n) (f:=f) (g:=g);have e2:sumN n (fun i=>1*f i + -1*g i)=sumN n (fun i=>f i - g i):=sum_congr fun i _=>by omega
 rw [e2,h] at e
 omega
theorem Ex.comb{n:Nat}{A B:Mx}(h:Ex n A B):∀q:Nat->Int,∃q':Nat->Int,∀j,sumN n (fun i=>q i*B i j)=sumN n (fun i=>q' i*A i j):=by
 induction h with
 | refl=>exact fun q=>⟨q,fun _=>rfl⟩
 | @step B r s hr hs hrs _ ih=>
  intro q;obtain ⟨q',h⟩:=ih fun i=>if i=s then q r else if i=r then - q s else q i
  refine ⟨q',fun j=>Eq.trans ?_ (h j)⟩;refine oB ?_;rw [VU hr hs hrs]
  . rw [exch_r hrs,MR];simp only [hrs,VC,HS];rw [MA,FZ];omega
  . intro i _ h1 h2;rw [JE h1 h2];simp only [h1,h2,VC];omega
theorem hJ{n k:Nat}{f:Nat->Int}(h:k<=n):sumN n (fun i=>if i<k then f i else 0)=sumN k f:=by
 induction n with
 | zero => have : k = 0 := by omega
           subst this;rfl
 | succ n ih=>
  by_cases e:k=n+1
  . subst e;exact sum_congr fun i hi=>AN hi
  . show sumN n _+(if n<k then f n else 0)=_;rw [ih (by omega),AR (by omega),VG]
theorem BI.never {n m : Nat} {A R : Mx} {k : Nat} {L : Nat -> Nat} {last : Int} {B : Mx} (I : BI n (m + 1) A R k L last (m + 1) B) {s : Nat} (hs : s < k) (hm : L s = m) :
 ∃q:Nat->Int,(∀j,j<m->sumN n (fun i=>q i*A i j)=0)/\sumN n (fun i=>q i*A i m)≠0:=by
 obtain ⟨q,h⟩:=I.ex.comb fun r=>if r<k then cof k (fun r t=>B r (L t)) r s else 0
 have e:∀j,sumN n (fun i=>q i*A i j)=redx B k L j s:=fun j=>by
  rw [<-h j];unfold redx crx;rw [<-hJ I.kn];refine sum_congr fun i _=> ?_
  by_cases hi:i<k
  . rw [AN hi,AN hi]
  . rw [AR hi,AR hi,EU]
 refine ⟨q,fun j hj=>(e j).trans (I.rr.az s hs j (by omega)),?_⟩;rw [e m];have:=I.rr.ld s hs s hs;rw [AN rfl,hm] at this
 show redx B k L m s≠0;rw [show redx B k L m s=last from this];exact I.nz
theorem BI.found {n m : Nat} {A R : Mx} {k : Nat} {L : Nat -> Nat} {last : Int} {B : Mx} (I : BI n (m + 1) A R k L last (m + 1) B) (hn : ∀ t, t < k -> L t ≠ m) {X : Nat -> Int} (h1 : ∀ t, t < k -> X (L t) = redx B k L m t) (h0 : ∀ j, j < m -> (∀ t, t < k -> L t ≠ j) -> X j = 0) :
 ∀i,i<n->sumN m (fun j=>A i j*X j)=last*A i m:=by
 intro i hi;have h:=(I.ker _).2 (I.rr.ker_kv (j:=m) (by omega) hn) i hi;have h:sumN m (fun j=>A i j*kv k L (fun t j=>redx B k L j t) last m j)+A i m*kv k L (fun t j=>redx B k L j t) last m m=0:=h;rw [yL] at h
 have e:sumN m (fun j=>A i j*kv k L (fun t j=>redx B k L j t) last m j) = -1*sumN m (fun j=>A i j*X j):=by
  rw [<-sum_mul];refine sum_congr fun j hj=> ?_
  have:kv k L (fun t j=>redx B k L j t) last m j = - X j:=by
   by_cases hx:∃t,t<k/\L t=j
   . obtain ⟨t,ht,rfl⟩:=hx;rw [I.rr.kv_L ht (hn t ht),h1 t ht]
   . have hx:∀t,t<k->L t≠j:=fun t ht e=>hx ⟨t,ht,e⟩;rw [kv_else (by omega) hx,h0 j hj hx];rfl
  rw [this,MA,FZ,QE]
 rw [e] at h
 rw [C4 last];omega
theorem OX(a:Int):0<=a*a:=by rw [<-Int.natAbs_mul_self];exact Int.natCast_nonneg _
theorem o0:∀ {n:Nat} {f:Nat->Int},sumN n (fun i=>f i*f i)=0->∀i,i<n->f i=0:=by
 have nn:∀(n:Nat) (f:Nat->Int),0<=sumN n (fun i=>f i*f i):=fun n f=>by
  induction n with
  | zero=>exact Int.le_refl _
  | succ n ih=>exact Int.add_nonneg ih (OX _)
 intro n
 induction n with
 | zero=>exact fun _ i hi=>absurd hi (by omega)
 | succ n ih=>
  intro f h i hi;have h:sumN n (fun i=>f i*f i)+f n*f n=0:=h;have a:=nn n f;have b:=OX (f n)
  by_cases e:i=n
  . subst e;have:f i*f i=0:=by omega
    rcases FX.mp this with h | h <;> exact h
  . exact ih (by omega) i (by omega)
def gram(N:Nat)(R:Mx):Mx:=fun i j=>sumN N (fun k=>R k i*R k j)
theorem gram_mul{N m:Nat}{R:Mx}{y:Nat->Int}(i:Nat):sumN m (fun j=>gram N R i j*y j)=sumN N (fun k=>R k i*sumN m (fun j=>R k j*y j)):=by
 have e:sumN m (fun j=>gram N R i j*y j)=sumN m (fun j=>sumN N (fun k=>R k i*(R k j*y j))):=sum_congr fun j _=>by
  unfold gram;rw [<-sum_mul_right];exact sum_congr fun k _=>Int.mul_assoc _ _ _
 rw [e,sum_comm];exact sum_congr fun k _=>sum_mul _
theorem gram_zero{N m:Nat}{R:Mx}{y:Nat->Int}(h:∀i,i<m->sumN m (fun j=>gram N R i j*y j)=0):∀k,k<N->sumN m (fun j=>R k j*y j)=0:=by
 refine o0 ?_
 have e:sumN m (fun i=>y i*sumN N (fun k=>R k i*sumN m (fun j=>R k j*y j)))=sumN N (fun k=>sumN m (fun j=>R k j*y j)*sumN m (fun j=>R k j*y j)):=by
  have e1:sumN m (fun i=>y i*sumN N (fun k=>R k i*sumN m (fun j=>R k j*y j)))=sumN m (fun i=>sumN N (fun k=>(R k i*y i)*sumN m (fun j=>R k j*y j))):=sum_congr fun i _=>by
   rw [<-sum_mul];refine sum_congr fun k _=> ?_;rw [<-CD,C4 (y i)]
  rw [e1,sum_comm];exact sum_congr fun k _=>sum_mul_right _
 rw [<-e];refine sum_zero fun i hi=> ?_;rw [<-gram_mul,h i hi,CL]
theorem gram_sym{N:Nat}{R:Mx}(i j:Nat):gram N R i j=gram N R j i:=sum_congr fun k _=>C4 _ _
end Ba
namespace Tr
def prodF(f:Nat->Int):Nat->Int
 | 0=>1
 | n+1=>prodF f n*f n
theorem FU{f g:Nat->Int}:∀ {n:Nat},(∀i,i<n->f i=g i)->prodF f n=prodF g n
 | 0,_=>rfl
 | n+1,h=>by rw [prodF,prodF,FU fun i hi=>h i (by omega),h n (by omega)]
theorem TJ(f g:Nat->Int):∀n,prodF (fun i=>f i*g i) n=prodF f n*prodF g n
 | 0=>rfl
 | n+1=>by rw [prodF,prodF,prodF,TJ f g n];grind
theorem K3{f:Nat->Int}:∀ {n t:Nat},t<n->f t=0->prodF f n=0
 | n+1,t,ht,h=>by
  by_cases e:t=n
  . subst e;rw [prodF,h,CL]
  . rw [prodF,K3 (t:=t) (by omega) h,EU]
theorem OQ:∀n,prodF (fun _=>1) n=1
 | 0=>rfl
 | n+1=>by rw [prodF,OQ n];rfl
theorem JT(g:Nat->Int)(a:Int)(t0:Nat)(h1:g t0=1):∀n,prodF (fun t=>if t=t0 then a else g t) n=(if t0<n then a else 1)*prodF g n
 | 0=>by simp [prodF]
 | n+1=>by
  rw [prodF,prodF,JT g a t0 h1 n]
  by_cases e:n=t0
  . subst e;rw [AR (I9 _),AN rfl,AN (HR _),h1]
    grind
  . rw [AR e]
    by_cases hlt:t0<n
    . rw [AN hlt,AN (by omega)]
      grind
    . rw [AR hlt,AR (by omega)]
      grind
theorem P5{α β:Type}(g:β->Int)(f:α->List β):∀xs:List α,((xs.flatMap f).map g).sum=(xs.map fun x=>((f x).map g).sum).sum
 | []=>rfl
 | x::xs=>by rw [MB,BJ,OU,P5 g f xs];rfl
theorem QO{α:Type}(c:Int)(f:α->Int):∀xs:List α,(xs.map fun x=>c*f x).sum=c*(xs.map f).sum
 | []=>by simp
 | x::xs=>by simp only [CT,List.sum_cons,QO c f xs];grind
theorem hW{α:Type}(c:Int)(f:α->Int)(xs:List α):(xs.map fun x=>f x*c).sum=(xs.map f).sum*c:=by
 rw [C4, <-QO];congr 2
 funext x;exact C4 _ _
theorem allT_mem:∀ {L t:List Nat},t ∈ allT L->t.length=L.length:=fun {L t} h=>by
 obtain ⟨x,_,rfl⟩:=CW.mp h;exact tri_len L x
theorem N6{t:List Nat}{s i:Nat}(h:i<t.length):(t ++ [s]).getD i 0=t.getD i 0:=by
 simp [List.getD,A9 h]
theorem NX{t:List Nat}{s:Nat}:(t ++ [s]).getD t.length 0=s:=by
 simp [List.getD]
theorem gJ(ψ:Nat->Nat->Int)(L:List Nat)(h:∀c ∈ L,0<c):((allT L).map fun t=>prodF (fun i=>ψ i (t.getD i 0)) L.length).sum=prodF (fun i=>((List.range (L.getD i 0)).map (ψ i)).sum) L.length:=by
 generalize hn:L.length=n
 induction n generalizing L with
 | zero=>
  have:L = []:=qT.mp hn;subst this
  simp [gM,prodF]
 | succ n ih=>
  obtain ⟨L',c,rfl⟩:∃L' c,L=L' ++ [c]:=by
   have hne:L ≠ []:=by intro e;rw [e] at hn;simp at hn
   exact ⟨L.dropLast,L.getLast hne,(List.dropLast_concat_getLast hne).symm⟩
  have hl:L'.length=n:=by simpa using hn
  have hc:0<c:=h c (by simp);have ih:=ih L' (fun d hd=>h d (by simp [hd])) hl;rw [allT_snoc L' c hc,P5]
  have e1:((allT L').map fun t=>(((List.range c).map fun s=>t ++ [s]).map fun t=>prodF (fun i=>ψ i (t.getD i 0)) (n+1)).sum)=(allT L').map fun t=>prodF (fun i=>ψ i (t.getD i 0)) n*((List.range c).map (ψ n)).sum:=by
   refine BC fun t ht=> ?_;have tl:=allT_mem ht;rw [G1, <-QO];congr 1
   refine BC fun s _=> ?_;show prodF (fun i=>ψ i ((t ++ [s]).getD i 0)) (n+1)=_;rw [prodF];have a1:prodF (fun i=>ψ i ((t ++ [s]).getD i 0)) n=prodF (fun i=>ψ i (t.getD i 0)) n:=FU fun i hi=>by rw [N6 (by omega)]
   have a2:(t ++ [s]).getD n 0=s:=by
    have:n=t.length:=by omega
    rw [this];exact NX
   rw [a1,a2]
  rw [e1,hW,ih,prodF];have a1:prodF (fun i=>((List.range ((L' ++ [c]).getD i 0)).map (ψ i)).sum) n=prodF (fun i=>((List.range (L'.getD i 0)).map (ψ i)).sum) n:=FU fun i hi=>by rw [N6 (by omega)]
  have a2:(L' ++ [c]).getD n 0=c:=by
   rw [<-hl];exact NX
  rw [a1,a2]
def con(k s:Nat):Int:=if s<k then 1 else if s=k then -(k:Int) else 0
theorem ZL(f:Nat->Int)(k:Nat):∀n,((List.range n).map fun s=>if s<k then 1*f s else if s=k then -(k:Int)*f s else 0).sum=((List.range (min n k)).map f).sum+(if k<n then -(k:Int)*f k else 0)
 | 0=>by simp
 | n+1=>by
  rw [O8,ZL f k n]
  by_cases h1:n<k
  . rw [AN h1,show min (n+1) k=n+1 by omega,show min n k=n by omega,O8,AR (by omega),AR (by omega)];omega
  . rw [AR h1]
    by_cases h2:n=k
    . subst h2;rw [AN rfl,AR (I9 _),AN (HR _),show min (n+1) n=n by omega,show min n n=n by omega];omega
    . rw [AR h2,show min (n+1) k=k by omega,show min n k=k by omega,AN (by omega),AN (by omega)];omega
theorem UD(f:Nat->Int)(k n:Nat):((List.range n).map fun s=>con k s*f s).sum=((List.range (min n k)).map f).sum+(if k<n then -(k:Int)*f k else 0):=by
 rw [<-ZL];congr 1
 refine List.map_congr_left fun s _=> ?_;unfold con
 by_cases h1:s<k
 . rw [AN h1,AN h1]
 . rw [AR h1,AR h1]
   by_cases h2:s=k
   . rw [AN h2,AN h2]
   . rw [AR h2,AR h2,EU]
theorem JX:∀n:Nat,((List.range n).map fun _=>(1:Int)).sum=n
 | 0=>rfl
 | n+1=>by rw [O8,JX n];omega
theorem mW{k n:Nat}(h:k<n):((List.range n).map fun s=>con k s*1).sum=0:=by
 rw [UD (fun _=>1),JX,AN h,show min n k=k by omega];omega
theorem jO{k l n:Nat}(h:k<l)(hl:l<n):((List.range n).map fun s=>con k s*con l s).sum=0:=by
 rw [UD (con l),AN (by omega),show min n k=k by omega]
 have e:(List.range k).map (con l)=(List.range k).map fun _=>(1:Int):=BC fun s hs=>by
  have:=List.mem_range.mp hs;unfold con;rw [if_pos (by omega)]
 have e2:con l k=1:=by unfold con;rw [if_pos h]
 rw [e,JX,e2];omega
theorem v9{k n:Nat}(h:k<n):((List.range n).map fun s=>con k s*con k s).sum=(k:Int)+k*k:=by
 rw [UD (con k),AN h,show min n k=k by omega]
 have e:(List.range k).map (con k)=(List.range k).map fun _=>(1:Int):=BC fun s hs=>by
  have:=List.mem_range.mp hs;unfold con;rw [if_pos (by omega)]
 have e2:con k k = -(k:Int):=by unfold con;rw [if_neg (Nat.lt_irrefl _),if_pos rfl]
 rw [e,JX,e2]
 grind
def phi:List Nat->List Nat->Nat->Nat->Int
 | t0::e,k::u,t,s=>if t=t0 then con k s else phi e u t s
 | _,_,_,_=>1
def valAt:List Nat->List Nat->List Nat->Int
 | t0::e,k::u,x=>con k (x.getD t0 0)*valAt e u x
 | _,_,_=>1
theorem PV:∀ {e u:List Nat} {t s:Nat},t ∉ e->phi e u t s=1
 | [],_,_,_,_=>rfl
 | _::_,[],_,_,_=>rfl
 | t0::e,k::u,t,s,h=>by
  rw [phi,AR fun z=>h (by simp [z])];exact PV fun z=>h (by simp [z])
theorem UL(n:Nat)(x:List Nat):∀(e u:List Nat),e.Nodup->(∀t ∈ e,t<n)->valAt e u x=prodF (fun t=>phi e u t (x.getD t 0)) n
 | [],_,_,_=>(OQ n).symm
 | _::_,[],_,_=>(OQ n).symm
 | t0::e,k::u,hd,hn=>by
  have hd:=ID.mp hd;rw [valAt,UL n x e u hd.2 fun t ht=>hn t (by simp [ht])];have:=JT (fun t=>phi e u t (x.getD t 0)) (con k (x.getD t0 0)) t0 (PV hd.1) n;rw [AN (hn t0 (by simp))] at this
  rw [<-this];refine FU fun t _=> ?_;show _=if t=t0 then con k (x.getD t 0) else phi e u t (x.getD t 0)
  by_cases h:t=t0
  . subst h;simp
  . simp [h,phi]
def Fits(L:List Nat):List Nat->List Nat->Prop
 | t::e,k::u=>1<=k/\k<L.getD t 0/\Fits L e u
 | [],[]=>True
 | _,_=>False
theorem jB{L:List Nat}:∀ {e u:List Nat} {t:Nat},Fits L e u->t ∈ e->∃k,k<L.getD t 0/\∀s,phi e u t s=con k s
 | [],_,_,_,h=>by cases h
 | _::_,[],_,h,_=>h.elim
 | t0::e,k::u,t,h,ht=>by
  by_cases ee:t=t0
  . subst ee;exact ⟨k,h.2.1,fun s=>by rw [phi,AN rfl]⟩
  . obtain ⟨k',h1,h2⟩:=jB (t:=t) h.2.2 (by rcases B8.mp ht with z | z;exact absurd z ee;exact z);exact ⟨k',h1,fun s=>by rw [phi,AR ee];exact h2 s⟩
theorem OZ (L : List Nat) (hL : ∀ c ∈ L, 0 < c) {e u e' u' : List Nat} (h1 : e.Nodup) (h2 : ∀ t ∈ e, t < L.length) (h3 : e'.Nodup) (h4 : ∀ t ∈ e', t < L.length) :
 ((allT L).map fun x=>valAt e u x*valAt e' u' x).sum=prodF (fun t=>((List.range (L.getD t 0)).map fun s=>phi e u t s*phi e' u' t s).sum) L.length:=by
 rw [<-gJ (fun t s=>phi e u t s*phi e' u' t s) L hL];congr 1
 refine BC fun x _=> ?_;rw [UL L.length x e u h1 h2,UL L.length x e' u' h3 h4, <-TJ]
theorem h9(L:List Nat){e u e' u':List Nat}(f:Fits L e u){t:Nat}(ht:t<L.length)(h1:t ∈ e)(h2:t ∉ e'):((List.range (L.getD t 0)).map fun s=>phi e u t s*phi e' u' t s).sum=0:=by
 obtain ⟨k,hk,hp⟩:=jB f h1;have:((List.range (L.getD t 0)).map fun s=>phi e u t s*phi e' u' t s)=(List.range (L.getD t 0)).map fun s=>con k s*1:=BC fun s _=>by rw [hp,PV h2]
 rw [this];exact mW hk
theorem gK(L:List Nat):∀ {e u u':List Nat},e.Nodup->Fits L e u->Fits L e u'->u≠u'->∃t ∈ e,((List.range (L.getD t 0)).map fun s=>phi e u t s*phi e u' t s).sum=0
 | [],[],[],_,_,_,h=>absurd rfl h
 | [],[],_::_,_,_,f,_=>f.elim
 | [],_::_,_,_,f,_,_=>f.elim
 | _::_,[],_,_,f,_,_=>f.elim
 | _::_,_::_,[],_,_,f,_=>f.elim
 | t0::e,k::u,k'::u',hd,f,f',h=>by
  have hd:=ID.mp hd
  by_cases hk:k=k'
  . subst hk;obtain ⟨t,ht,hs⟩:=gK L (e:=e) (u:=u) (u':=u') hd.2 f.2.2 f'.2.2 fun z=>h (by rw [z]);refine ⟨t,by simp [ht],?_⟩;rw [<-hs];congr 1
    refine BC fun s _=> ?_;have:t≠t0:=fun z=>hd.1 (z ▸ ht);rw [phi,phi,AR this,AR this]
  . refine ⟨t0,by simp,?_⟩;have e1:((List.range (L.getD t0 0)).map fun s=>phi (t0::e) (k::u) t0 s*phi (t0::e) (k'::u') t0 s)=(List.range (L.getD t0 0)).map fun s=>con k s*con k' s:=BC fun s _=>by rw [phi,phi,AN rfl,AN rfl]
    rw [e1]
    by_cases hlt:k<k'
    . exact jO hlt f'.2.1
    . have:((List.range (L.getD t0 0)).map fun s=>con k s*con k' s)=(List.range (L.getD t0 0)).map fun s=>con k' s*con k s:=BC fun s _=>C4 _ _;rw [this];exact jO (by omega) f.2.1
theorem orth (L : List Nat) (hL : ∀ c ∈ L, 0 < c) {e u e' u' : List Nat} (h1 : e.Pairwise (· < ·)) (h2 : ∀ t ∈ e, t < L.length) (h3 : e'.Pairwise (· < ·)) (h4 : ∀ t ∈ e', t < L.length) (f : Fits L e u) (f' : Fits L e' u') (hne : e ≠ e' \/ u ≠ u') :
 ((allT L).map fun x=>valAt e u x*valAt e' u' x).sum=0:=by
 have n1:e.Nodup:=h1.imp fun h=>D4 h;have n3:e'.Nodup:=h3.imp fun h=>D4 h;rw [OZ L hL n1 h2 n3 h4]
 by_cases ee:e=e'
 . subst ee;obtain ⟨t,ht,hs⟩:=gK L n1 f f' (by rcases hne with h | h;exact absurd rfl h;exact h);exact K3 (h2 t ht) hs
 . have : (∃ t, t ∈ e /\ t ∉ e') \/ ∃ t, t ∈ e' /\ t ∉ e := by
    apply M5;intro hc;have a:∀t,t ∈ e->t ∈ e':=fun t ht=>M5 fun z=>hc (.inl ⟨t,ht,z⟩);have b:∀t,t ∈ e'->t ∈ e:=fun t ht=>M5 fun z=>hc (.inr ⟨t,ht,z⟩);refine ee (List.Perm.eq_of_pairwise (le:=(· < ·)) (fun x y _ _ h1 h2=>absurd h1 (Nat.lt_asymm h2)) h1 h3 ?_);exact (List.perm_ext_iff_of_nodup n1 n3).mpr fun t=>⟨a t,b t⟩
   rcases this with ⟨t,ht,hn⟩ | ⟨t,ht,hn⟩
   . exact K3 (h2 t ht) (h9 L f (h2 t ht) ht hn)
   . refine K3 (h4 t ht) ?_;have:=h9 L f' (u':=u) (h4 t ht) ht hn;rw [<-this];congr 1
     exact BC fun s _=>C4 _ _
def sqU:List Nat->Int
 | []=>1
 | k::u=>((k:Int)+k*k)*sqU u
def outE(L e:List Nat):Nat->Int:=prodF fun t=>if t ∈ e then 1 else (L.getD t 0:Int)
theorem ZE(L:List Nat)(n:Nat):∀ {e u:List Nat},e.Nodup->(∀t ∈ e,t<n)->Fits L e u->prodF (fun t=>((List.range (L.getD t 0)).map fun s=>phi e u t s*phi e u t s).sum) n=outE L e n*sqU u
 | [],[],_,_,_=>by
  rw [sqU,GG,outE];refine FU fun t _=> ?_;rw [AR (by simp), <-JX]
  congr 1
 | [],_::_,_,_,f=>f.elim
 | _::_,[],_,_,f=>f.elim
 | t0::e,k::u,hd,hn,f=>by
  have hd:=ID.mp hd;have ih:=ZE L n (e:=e) (u:=u) hd.2 (fun t ht=>hn t (by simp [ht])) f.2.2
  let g:Nat->Int:=fun t=>if t=t0 then 1 else ((List.range (L.getD t 0)).map fun s=>phi e u t s*phi e u t s).sum
  have a1:prodF (fun t=>((List.range (L.getD t 0)).map fun s=>phi (t0::e) (k::u) t s*phi (t0::e) (k::u) t s).sum) n=((k:Int)+k*k)*prodF g n:=by
   have:=JT g ((k:Int)+k*k) t0 (AN rfl) n;rw [AN (hn t0 (by simp))] at this
   rw [<-this];refine FU fun t _=> ?_
   by_cases h:t=t0
   . subst h;rw [AN rfl, <-v9 f.2.1];congr 1
     exact BC fun s _=>by rw [phi,AN rfl]
   . rw [AR h];show _=if t=t0 then 1 else _
     rw [AR h];congr 1
     exact BC fun s _=>by rw [phi,AR h]
  have a2:prodF (fun t=>((List.range (L.getD t 0)).map fun s=>phi e u t s*phi e u t s).sum) n=(L.getD t0 0:Int)*prodF g n:=by
   have:=JT g (L.getD t0 0:Int) t0 (AN rfl) n;rw [AN (hn t0 (by simp))] at this
   rw [<-this];refine FU fun t _=> ?_
   by_cases h:t=t0
   . subst h;rw [AN rfl, <-JX];congr 1
     exact BC fun s _=>by rw [PV hd.1];rfl
   . rw [AR h];show _=if t=t0 then 1 else _
     rw [AR h]
  have a3:outE L e n=(L.getD t0 0:Int)*outE L (t0::e) n:=by
   unfold outE;have:=JT (fun t=>if t ∈ t0::e then 1 else (L.getD t 0:Int)) (L.getD t0 0:Int) t0 (if_pos (by simp)) n;rw [if_pos (hn t0 (by simp))] at this
   rw [<-this];refine FU fun t _=> ?_
   by_cases h:t=t0
   . subst h;rw [AN rfl,AR hd.1]
   . rw [AR h]
     by_cases he:t ∈ e
     . rw [AN he,AN (by simp [he])]
     . rw [AR he,AR (by simp [he,h])]
  have pos:(L.getD t0 0:Int)≠0:=by have:=f.2.1;omega
  rw [a2,a3] at ih
  have ih2:(L.getD t0 0:Int)*prodF g n=(L.getD t0 0:Int)*(outE L (t0::e) n*sqU u):=by rw [ih];grind
  have ih3:=M4 pos ih2;rw [a1,ih3,sqU]
  grind
theorem square(L:List Nat)(hL:∀c ∈ L,0<c){e u:List Nat}(h1:e.Pairwise (· < ·))(h2:∀t ∈ e,t<L.length)(f:Fits L e u):((allT L).map fun x=>valAt e u x*valAt e u x).sum=outE L e L.length*sqU u:=by
 have n1:e.Nodup:=h1.imp fun h=>D4 h;rw [OZ L hL n1 h2 n1 h2];exact ZE L _ n1 h2 f
theorem kW:∀ {r:List Nat} {x y:Nat},x<prodN r->y<prodN r->dg r x=dg r y->x=y
 | [],x,y,hx,hy,_=>by simp [prodN] at hx hy;omega
 | c::r,x,y,hx,hy,h=>by
  have hc:0<c:=by
   rcases Nat.eq_zero_or_pos c with z | z
   . subst z;simp [prodN] at hx
   . exact z
  have hx:x<c*prodN r:=hx;have hy:y<c*prodN r:=hy;obtain ⟨h1,h2⟩:=lT (show x % c::dg r (x / c)=y % c::dg r (y / c) from h);have h3:=kW (r:=r) (by rw [xQ hc,IT];exact hx) (by rw [xQ hc,IT];exact hy) h2;rw [<-Nat.div_add_mod x c, <-Nat.div_add_mod y c,h1,h3]
theorem nZ{L:List Nat}{x y:Nat}(hx:x<prodN L)(hy:y<prodN L)(h:tri L x=tri L y):x=y:=by
 refine kW (r:=L.reverse) (by rw [O1];exact hx) (by rw [O1];exact hy) ?_;have:=KM List.reverse h;simpa [tri] using this
theorem allT_nodup(L:List Nat):(allT L).Nodup:=by
 unfold allT;refine List.pairwise_map.mpr ?_;refine List.Pairwise.imp_of_mem ?_ (List.nodup_range (n:=prodN L));intro a b ha hb hne h;exact hne (nZ (List.mem_range.mp ha) (List.mem_range.mp hb) h)
theorem rK:∀ {r:List Nat} {x i:Nat},(∀c ∈ r,0<c)->i<r.length->(dg r x).getD i 0<r.getD i 0
 | [],_,_,_,h=>by cases h
 | c::r,x,0,hp,_=>by
  show x % c<c
  exact Nat.mod_lt _ (hp c (by simp))
 | c::r,x,i+1,hp,h=>by
  show (dg r (x / c)).getD i 0<r.getD i 0;exact rK (fun d hd=>hp d (by simp [hd])) (by simpa using h)
theorem VW{l:List Nat}{i:Nat}(h:i<l.length):l.reverse.getD i 0=l.getD (l.length - 1 - i) 0:=by
 simp only [List.getD];rw [PD h]
theorem tri_lt{L:List Nat}{x i:Nat}(hp:∀c ∈ L,0<c)(h:i<L.length):(tri L x).getD i 0<L.getD i 0:=by
 unfold tri;rw [VW (by rw [UK];simpa using h),UK,List.length_reverse];have:=rK (r:=L.reverse) (x:=x) (i:=L.length - 1 - i) (fun c hc=>hp c (List.mem_reverse.mp hc)) (by simp;omega);rw [VW (by omega)] at this
 have e:L.length - 1 - (L.length - 1 - i)=i:=by omega
 rw [e] at this
 exact this
theorem fits_of{L:List Nat}:∀ {e u:List Nat},e.length=u.length->(∀i,i<e.length->1<=u.getD i 0/\u.getD i 0<L.getD (e.getD i 0) 0)->Fits L e u
 | [],[],_,_=>trivial
 | [],_::_,h,_=>by cases h
 | _::_,[],h,_=>by cases h
 | t::e,k::u,h,g=>⟨(g 0 (by simp)).1,(g 0 (by simp)).2,fits_of (by simpa using h) fun i hi=>g (i+1) (by simpa using hi)⟩
theorem con_abs{k s:Nat}(h:k<=7) : -7<=con k s/\con k s<=7:=by
 unfold con
 split
 . omega
 . split <;> omega
theorem val_abs{x:List Nat}:∀ {e u:List Nat},(∀k ∈ u,k<=7)->(valAt e u x).natAbs<=7 ^ e.length
 | [],_,_=>by simp [valAt]
 | _::e,[],_=>by
  show (1:Int).natAbs<=_
  exact HF (by decide)
 | t::e,k::u,h=>by
  have ih:=val_abs (x:=x) (e:=e) (u:=u) fun k hk=>h k (by simp [hk]);have hc:=con_abs (s:=x.getD t 0) (h k (by simp));rw [valAt,HD,C8,O0,IT];exact GA ih (by omega)
end Tr
namespace K53
noncomputable section
open PySem L2 Tf Dm
theorem mSc{N Q:List Str}{sc:Scope}(a:sc.kind = .function:=by rfl)(b:sc.isCoroutine=false:=by rfl)(c:sc.isGenerator=false:=by rfl)(d:N.Nodup:=by decide +kernel)(e:N.take Q.length=Q:=by rfl)(f:∀x ∈ Q,sc.names.lookup x=some .local\/sc.names.lookup x=some .cell:=by decide +kernel)(g:∀y ∈ sc.names,y.2 ≠ .free:=by decide +kernel):FnScope N Q sc:=⟨a,b,c,d,e,f,g⟩
theorem nN(l:List Str)(h:l.Nodup:=by decide +kernel):l.Nodup:=h
abbrev KC (K:PySem.W.Frag):PySem.W.Frag:=JU K ((tbK [] K).map (·.2))
abbrev qa:List Str:=["rows","leads","last"]
abbrev qb:List Str:=["levels","plan","model","results"]
abbrev qc:List Str:=["one","other"]
abbrev qd:List Str:=["_law_levels_here","_law_plan","_law_effect","_law_results_here"]
abbrev qe:List Str:=["table","column"]
abbrev qf:List Str:=["_law_levels_here","_law_plan","_law_model"]
abbrev qg:List Str:=["_law_cell","_law_levels_here","_law_most"]
abbrev qh:List Str:=["row","lead_row","column","last"]
abbrev qj:List Str:=["_law_cell","_law_k"]
abbrev ql:List Str:=["_law_one","_law_other"]
abbrev qm:List Str:=["self","column"]
abbrev qo:List Str:=["_law_levels_here","_law_model"]
abbrev qp:List Str:=["_law_top","_law_bottom"]
abbrev qq:List Str:=["numbers","bottom"]
abbrev qr:List Str:=["_law_k","_law_step"]
abbrev qt:List Str:=["levels","plan","model"]
abbrev qu:List Str:=["_law_cell","_law_model"]
abbrev qv:List Str:=["lead","factor","last","number","above"]
abbrev qw:List Str:=["levels","place"]
abbrev qx:List Str:=["numbers"]
abbrev qy:List Str:=["_law_cell","_law_most"]
abbrev qz:List Str:=["_law_cell","_law_many"]
abbrev qab:List Str:=["table"]
abbrev qbb:List Str:=["self","top","column"]
abbrev qcb:List Str:=["self","top","place"]
abbrev qdb:List Str:=["top","bottom"]
abbrev qeb:List Str:=["row"]
abbrev qfb:List Str:=["number","step"]
abbrev qgb:List Str:=["rows","fractions"]
abbrev qhb:List Str:=["levels","effect"]
abbrev qib:List Str:=["_law_levels_here"]
abbrev qjb:List Str:=["_law_j","_law_row","_law_y"]
abbrev qkb:List Str:=["levels","model"]
abbrev qlb:List Str:=["column","trial"]
abbrev qmb:List Str:=["rows","results"]
abbrev qnb:List Str:=["self","rows"]
abbrev qob:List Str:=["bottom","number"]
abbrev qpb:List Str:=["_law_script"]
def top (i : Nat) : Stmt := PySem.Challenge.pw_trialfield_k53_whole_squares_in_any_orde.main.body.getD i (.Pass ⟨0, 0, 0, 0⟩)
structure Bl (mg:Str->Option Value):Prop where
 abs:mg "abs" = none
 enumerate:mg "enumerate" = none
 int:mg "int" = none
 len:mg "len" = none
 list:mg "list" = none
 range:mg "range" = none
 reversed:mg "reversed" = none
 sum:mg "sum" = none
 tuple:mg "tuple" = none
 zip:mg "zip" = none
abbrev aX:Stmt:=top 1
theorem gC:FnScope ["one","other","rest"] qc (AO aX):=mSc
abbrev aP:Stmt:=top 2
theorem gI:FnScope ["top","bottom","divisor"] qdb (AO aP):=mSc
abbrev bK:Stmt:=top 3
theorem jR:FnScope qc qc (AO bK):=mSc
abbrev ZB:Stmt:=top 5
theorem fV:FnScope ["numbers","product","number"] qx (AO ZB):=mSc
abbrev aG:Stmt:=top 6
theorem kZ:FnScope ["levels","place","steps","count"] qw (AO aG):=mSc
abbrev ZS:Stmt:=top 7
theorem kA:FnScope ["levels"] ["levels"] (AO ZS):=mSc
abbrev bQ:Stmt:=top 9
theorem kY:FnScope qfb qfb (AO bQ):=mSc
abbrev ZP:Stmt:=top 10
theorem fK:FnScope ["levels","effect","counted"] qhb (AO ZP):=mSc
abbrev ZF:Stmt:=top 11
theorem kO:FnScope ["levels","model","columns","effect"] qkb (AO ZF):=mSc
abbrev bG:Stmt:=top 12
theorem kX:FnScope ["column","trial","value","thing","number"] qlb (AO bG):=mSc
abbrev ZM:Stmt:=top 13
theorem iN:FnScope ["levels","plan","model","columns"] qt (AO ZM):=mSc
abbrev ZQ:Stmt:=top 18
theorem gU:FnScope ["row","lead_row","column","last","lead","factor"] qh (AO ZQ):=mSc
abbrev bH:Stmt:=top 19
theorem hU:FnScope ["row","bottom","number"] qeb (AO bH):=mSc
abbrev cC:Stmt:=top 20
theorem jU:FnScope ["row","bottom"] qeb (AO cC):=mSc
abbrev aT:Stmt:=top 21
theorem kS:FnScope qab qab (AO aT):=mSc
abbrev ZO:Stmt:=top 22
theorem gF:FnScope qq qq (AO ZO):=mSc
abbrev bX:Stmt:=top 23
theorem g7:FnScope qab qab (AO bX):=mSc
abbrev Z5:Stmt:=top 24
theorem gW:FnScope ["table","column","width","stairs","numbers","found","lead","number"] qe (AO Z5):=mSc
abbrev bO:Stmt:=top 25
theorem kH:FnScope ["table","column","laid"] qe (AO bO):=mSc
abbrev aM:Stmt:=top 26
theorem i8:FnScope ["table","column","found"] qe (AO aM):=mSc
abbrev ZX:Stmt:=top 28
theorem lJ:FnScope qc qc (AO ZX):=mSc
abbrev bJ:Stmt:=top 29
theorem gB:FnScope qx qx (AO bJ):=mSc
abbrev bV:Stmt:=top 30
theorem iB:FnScope ["rows","columns"] ["rows"] (AO bV):=mSc
abbrev aO:Stmt:=top 31
theorem iV:FnScope ["rows","fractions","bottom","whole"] qgb (AO aO):=mSc
abbrev aU:Stmt:=top 32
theorem lF:FnScope ["weights","bottom","whole"] ["weights"] (AO aU):=mSc
abbrev bD:Stmt:=top 34
theorem fN:FnScope ["rows","results","sums","worths","fitted","left"] qmb (AO bD):=mSc
abbrev aY:Stmt:=top 35
theorem gE:FnScope qb qb (AO aY):=mSc
abbrev bF:Stmt:=top 36
theorem iS:FnScope ["levels","plan","model","results","apart","ahead","whole","place","effect","reached"] qb (AO bF):=mSc
abbrev ZK:Stmt:=top 38
theorem fX:FnScope ["_law_cell","_law_k","_law_one"] qj (AO ZK):=mSc
abbrev ZU:Stmt:=top 39
theorem fQ:FnScope ["_law_top","_law_bottom","_law_one","_law_other"] qp (AO ZU):=mSc
abbrev bI:Stmt:=top 40
theorem hZ:FnScope ql ql (AO bI):=mSc
abbrev bL:Stmt:=top 42
theorem jA:FnScope ["_law_cell","_law_most","_law_many","_law_told","_law_left","_law_k","_law_number","_law_size","_law_other"] qy (AO bL):=mSc
abbrev pI:Stmt:=top 43
theorem rN:FnScope ["_law_cell","_law_levels_here","_law_most","_law_told","_law_size","_law_left","_law_k","_law_number","_law_effect","_law_many","_law_thing"] qg (AO pI):=mSc
abbrev nH:Stmt:=top 44
theorem qW:FnScope qr qr (AO nH):=mSc
abbrev qJ:Stmt:=top 45
theorem qX:FnScope ["_law_levels_here","_law_model","_law_told","_law_effect","_law_some","_law_thing","_law_more","_law_one"] qo (AO qJ):=mSc
abbrev aK:Stmt:=top 46
theorem fU:FnScope ["_law_levels_here","_law_plan","_law_model","_law_told","_law_trial","_law_row","_law_effect","_law_numbers","_law_amount","_law_thing","_law_k"] qf (AO aK):=mSc
abbrev pF:Stmt:=top 47
theorem r6:FnScope ["_law_levels_here","_law_told","_law_many","_law_more","_law_one"] qib (AO pF):=mSc
abbrev aC:Stmt:=top 48
theorem kI:FnScope ["_law_cell","_law_many","_law_told","_law_left","_law_k","_law_number"] qz (AO aC):=mSc
abbrev nV:Stmt:=top 49
theorem rZ:FnScope ["_law_levels_here","_law_plan","_law_effect","_law_results_here","_law_table_here","_law_told","_law_j","_law_one"] qd (AO nV):=mSc
abbrev Z4:Stmt:=top 50
theorem jD:FnScope ["_law_cell","_law_model","_law_left","_law_told","_law_at"] qu (AO Z4):=mSc
abbrev bY:Stmt:=top 51
theorem jK:FnScope ["_law_cell","_law_levels_here","_law_model","_law_plan","_law_results_here","_law_left","_law_due_here","_law_effect","_law_one"] ["_law_cell"] (AO bY):=mSc
abbrev S3:Stmt:=top 52
theorem iT:FnScope ["_law_script","_law_cell"] qpb (AO S3):=mSc
abbrev qA:Stmt:=N4 (top 17) 0
theorem rD:FnScope ["self","rows","column"] qnb (AO qA):=mSc
abbrev mG:Stmt:=N4 (top 17) 1
theorem qV:FnScope ["self","column","top","place","lead_row","beneath"] qm (AO mG):=mSc
abbrev pU:Stmt:=N4 (top 17) 2
theorem rV:FnScope ["self","top","column","place"] qbb (AO pU):=mSc
abbrev m6:Stmt:=N4 (top 17) 3
theorem rQ:FnScope ["self","top","place","lowered"] qcb (AO m6):=mSc
abbrev oZ:Stmt:=N4 (top 17) 4
theorem rG:FnScope ["self","column","count","numbers","place","row","known"] qm (AO oZ):=mSc
def c_NOUGHT:PyData:= .tuple [.int 0, .int 1]
def c_UNIT:PyData:= .tuple [.int 1, .int 1]
section
variable {P:Program} {w:World} {K:PySem.W.Frag} {mg:Str->Option Value} {base:Heap} {f:Addr} {fd:FuncData} {C_S:Addr}
def b_q29 : En -> Option Out :=
 (mSeq (J8 (mTest (mBin dne (mPk 1) (mK (.int 0)))) (mSeq (mAsg 2 (mBin FJ (mPk 0) (mPk 1)))
 (mSeq (mAsg 0 (mVar 1))
 (mFrz 2 (mAsg 1 (mVar 2))))))
 (mRet (mCallP dAbs (mConsP (mPk 0) mNilP))))
def NG:List PyData->Option Sl:=F4 3 b_q29 2
theorem tH (B:Bl mg) (F:Fun K "greatest_divisor" "greatest_divisor" aX f fd):FnOk P w K mg base CX0 1 f fd qc (spD K NG):=by
 have sc:=gC
 exact fnD F gC rfl rfl fun cdv A outer s H E hr=>
  (A6 (RK B5 (aD hr.units (A2 1) (DE.dp AH)) (A6 (AW 2 (FI (A2 0) (A2 1)) sc.nd)
  (A6 (AW 0 (AC 1) sc.nd)
  (AK (CG 2 (AW 1 (AC 2) sc.nd))))))
  (AK (DR (FL j8 uC tX B.abs (BU (A2 0) CZ)))))
def b_q27 : En -> Option Out :=
 (mSeq (mAsg 2 (mCall NG (mCons (mVar 0) (mCons (mVar 1) mNil))))
 (mSeq (mIf (mTest (mBin dLt (mPk 1) (mK (.int 0)))) (mAsg 2 (mUn (iun fun i=> -i) (mPk 2))) mNext)
 (mRet (mTup (mCons (mBin EF (mPk 0) (mPk 2)) (mCons (mBin EF (mPk 1) (mPk 2)) mNil))))))
def NO:List PyData->Option Sl:=F4 3 b_q27 2
theorem tL (B:Bl mg) (D_q29:Def P w K mg base 1 "greatest_divisor" qc (spD K NG)) (F:Fun K "fraction" "fraction" aP f fd):FnOk P w K mg base CX0 2 f fd qdb (spD K NO):=by
 have sc:=gI
 exact fnD F gI rfl rfl fun cdv A outer s H E hr=>
  (A6 (AW 2 (BA D_q29 hr (A1 (AC 0) (A1 (AC 1) AG))) sc.nd)
  (A6 (GO (aW (A2 1) (DE.dp AH)) (AK (AW 2 (QK (A2 2)) sc.nd)) EQ)
  (AK (DR (FG (A1 (ES (A2 0) (A2 2)) (A1 (ES (A2 1) (A2 2)) AG)))))))
def b_q31 : En -> Option Out :=
 (mRet (mCall NO (mCons (mBin dSub (mBin dRep (mBin dix (mPk 0) (mK (.int 0))) (mBin dix (mPk 1) (mK (.int 1)))) (mBin dRep (mBin dix (mPk 1) (mK (.int 0))) (mBin dix (mPk 0) (mK (.int 1))))) (mCons (mBin dRep (mBin dix (mPk 0) (mK (.int 1))) (mBin dix (mPk 1) (mK (.int 1)))) mNil))))
def P3:List PyData->Option Sl:=F4 2 b_q31 2
theorem vO (B:Bl mg) (D_q27:Def P w K mg base 2 "fraction" qdb (spD K NO)) (F:Fun K "minus" "minus" bK f fd):FnOk P w K mg base CX0 3 f fd qc (spD K P3):=by
 have sc:=jR
 exact fnD F jR rfl rfl fun cdv A outer s H E hr=>
  (AK (DR (BA D_q27 hr (A1 (IH (DE.dp (DM (DE.dp (DF (A2 0) (DE.dp AH))) (DE.dp (DF (A2 1) (DE.dp AH))))) (DE.dp (DM (DE.dp (DF (A2 1) (DE.dp AH))) (DE.dp (DF (A2 0) (DE.dp AH)))))) (A1 (DM (DE.dp (DF (A2 0) (DE.dp AH))) (DE.dp (DF (A2 1) (DE.dp AH)))) AG)))))
def b_q32 : En -> Option Out :=
 (mSeq (mAsg 1 (mK (.int 1)))
 (mSeq (GB (D5 (mVar 0)) (gVar 2) (mAsg 1 (mBin dRep (mPk 1) (mPk 2))))
 (mRet (mPk 1))))
def XE:List PyData->Option Sl:=F4 3 b_q32 1
theorem v4 (B:Bl mg) (F:Fun K "product_of" "product_of" ZB f fd):FnOk P w K mg base CX0 1 f fd qx (spD K XE):=by
 have sc:=fV
 exact fnD F fV rfl rfl fun cdv A outer s H E hr=>
  (A6 (AW 1 AH sc.nd)
  (A6 (EW B5 (F7 (AC 0)) (D7 2 sc.nd) (AK (AW 1 (DM (A2 1) (A2 2)) sc.nd)))
  (AK (FW 1))))
def b_q41 : En -> Option Out :=
 (mSeq (mAsg 2 (mLst mNil))
 (mSeq (GB (fZ (mCons (mVar 0) mNil)) (gVar 3) (mSeq (mApp 2 (mBin FJ (mPk 1) (mPk 3)))
 (mAsg 1 (mBin EF (mPk 1) (mPk 3)))))
 (mRet (mCallP Q8 (mConsP (mPk 2) mNilP)))))
def X7:List PyData->Option Sl:=F4 4 b_q41 2
theorem vV (B:Bl mg) (F:Fun K "trial_at" "trial_at" aG f fd):FnOk P w K mg base CX0 1 f fd qw (spD K X7):=by
 have sc:=kZ
 exact fnD F kZ rfl rfl fun cdv A outer s H E hr=>
  (A6 (AW 2 (EO AG) sc.nd)
  (A6 (EW B5 (xL B.reversed (A1 (AC 0) AG)) (D7 3 sc.nd) (A6 (K2 2 (FI (A2 1) (A2 3)))
  (AK (AW 1 (ES (A2 1) (A2 3)) sc.nd))))
  (AK (DR (dQ B.reversed B.tuple (BU (A2 2) CZ))))))
def b_q18 : En -> Option Out :=
 (mRet (mLC (D3 [some 0,none]) (J0 (mConsP (mCall XE (mCons (mVar 0) mNil)) mNilP)) (gVar 1) mYes (mCall X7 (mCons (mVar 0) (mCons (mVar 1) mNil)))))
def WV:List PyData->Option Sl:=F4 1 b_q18 1
theorem uR (B:Bl mg) (D_q32:Def P w K mg base 1 "product_of" qx (spD K XE)) (D_q41:Def P w K mg base 1 "trial_at" qw (spD K X7)) (F:Fun K "all_trials" "all_trials" ZS f fd):FnOk P w K mg base CX0 2 f fd ["levels"] (spD K WV):=by
 have sc:=kA
 exact fnD F kA rfl rfl fun cdv A outer s H E hr=>
  (AK (DR (FN (N':=qw) (R':=PR K) CI CH [some 0,none] (D3 [some 0,none]) EK (G5 B.range (BU (DE.dp (BA D_q32 hr (A1 (AC 0) AG))) CZ)) (fun _=>(C2 1 (nN qw))) (fun _=>DN) (fun _=>(BA D_q41 hr (A1 (AC 0) (A1 (AC 1) AG)))))))
def b_q24 : En -> Option Out :=
 (mSeq (mIf (mTest (mBin dLt (mPk 1) (mPk 0))) (mRet (mK (.int 1))) mNext)
 (mSeq (mIf (mTest (mBin deq (mPk 1) (mPk 0))) (mRet (mUn (iun fun i=> -i) (mPk 0))) mNext)
 (mRet (mK (.int 0)))))
def VV:List PyData->Option Sl:=F4 2 b_q24 2
theorem v5 (B:Bl mg) (F:Fun K "contrast" "contrast" bQ f fd):FnOk P w K mg base CX0 1 f fd qfb (spD K VV):=by
 have sc:=kY
 exact fnD F kY rfl rfl fun cdv A outer s H E hr=>
  (A6 (GO (aW (A2 1) (A2 0)) (AK (DR AH)) EQ)
  (A6 (GO (MG hr.units (A2 1) (A2 0)) (AK (DR (QK (A2 0)))) EQ)
  (AK (DR AH))))
def b_q25 : En -> Option Out :=
 (mSeq (mAsg 2 (mCall WV (mCons (mLC (D3 [some 0,none]) (D5 (mVar 1)) (gVar 1) mYes (mBin dSub (mBin dix (mPk 0) (mPk 1)) (mK (.int 1)))) mNil)))
 (mFrz 2 (mRet (mLC (D3 [some 1,none]) (D5 (mVar 2)) (gVar 1) mYes (mTup (mCons (mVar 0) (mCons (mCallP dTuple (mConsP (mLC (D3 [none]) (D5 (mVar 1)) (gVar 0) mYes (mBin dAdd (mPk 0) (mK (.int 1)))) mNilP)) mNil)))))))
def VN:List PyData->Option Sl:=F4 3 b_q25 2
theorem uJ (B:Bl mg) (D_q18:Def P w K mg base 2 "all_trials" ["levels"] (spD K WV)) (F:Fun K "effect_columns" "effect_columns" ZP f fd):FnOk P w K mg base CX0 3 f fd qhb (spD K VN):=by
 have sc:=fK
 exact fnD F fK rfl rfl fun cdv A outer s H E hr=>
  (A6 (AW 2 (BA D_q18 hr (A1 (FN (N':= ["levels","thing"]) (R':=PR K) CI CH [some 0,none] (D3 [some 0,none]) EK (F7 (AC 1)) (fun _=>(C2 1 (nN ["levels","thing"]))) (fun _=>DN) (fun _=>(IH (DE.dp (DF (A2 0) (A2 1))) (DE.dp AH)))) AG)) sc.nd)
  (AK (CG 2 (DR (FN (N':= ["effect","places"]) (R':=PR K) CI CH [some 1,none] (D3 [some 1,none]) EK (F7 (AC 2)) (fun _=>(C2 1 (nN ["effect","places"]))) (fun _=>DN) (fun _=>(FG (A1 (AC 0) (A1 (QH JP QP NW B.tuple (BU (DE.dp (FN (N':= ["place"]) (R':=PR K) LX LG [none] (D3 [none]) EK (F7 (AC 1)) (fun _=>(C2 0 (nN ["place"]))) (fun _=>DN) (fun _=>(E3 (A2 0) (DE.dp AH))))) CZ)) AG)))))))))
def b_q22 : En -> Option Out :=
 (mSeq (mAsg 2 (mLst mNil))
 (mSeq (GB (D5 (mVar 1)) (gVar 3) (dI 2 (mCall VN (mCons (mVar 0) (mCons (mVar 3) mNil)))))
 (mRet (mPk 2))))
def WC:List PyData->Option Sl:=F4 4 b_q22 2
theorem sR (B:Bl mg) (D_q25:Def P w K mg base 3 "effect_columns" qhb (spD K VN)) (F:Fun K "columns_of" "columns_of" ZF f fd):FnOk P w K mg base CX0 4 f fd qkb (spD K WC):=by
 have sc:=kO
 exact fnD F kO rfl rfl fun cdv A outer s H E hr=>
  (A6 (AW 2 (EO AG) sc.nd)
  (A6 (EW B5 (F7 (AC 1)) (D7 3 sc.nd) (AK (sU 2 (BA D_q25 hr (A1 (AC 0) (A1 (AC 3) AG))))))
  (AK (FW 2))))
def b_q42 : En -> Option Out :=
 (mSeq (mAsg 2 (mK (.int 1)))
 (mSeq (GB (TW (mCons (mBin dix (mPk 0) (mK (.int 0))) (mCons (mBin dix (mPk 0) (mK (.int 1))) mNil))) (gTupD [(gVar 3),(gVar 4)]) (mAsg 2 (mBin dRep (mPk 2) (mCall VV (mCons (mVar 4) (mCons (mBin dix (mPk 1) (mPk 3)) mNil))))))
 (mRet (mPk 2))))
def TB:List PyData->Option Sl:=F4 5 b_q42 2
theorem xA (B:Bl mg) (D_q24:Def P w K mg base 1 "contrast" qfb (spD K VV)) (F:Fun K "value_at" "value_at" bG f fd):FnOk P w K mg base CX0 2 f fd qlb (spD K TB):=by
 have sc:=kX
 exact fnD F kX rfl rfl fun cdv A outer s H E hr=>
  (A6 (AW 2 AH sc.nd)
  (A6 (EW B5 (V6 B.zip (A1 (DF (A2 0) (DE.dp AH)) (A1 (DF (A2 0) (DE.dp AH)) AG))) (RN (GN (D7 3 sc.nd) (GN (D7 4 sc.nd) ND))) (AK (AW 2 (DM (A2 2) (DE.dp (BA D_q24 hr (A1 (AC 4) (A1 (DF (A2 1) (A2 3)) AG))))) sc.nd)))
  (AK (FW 2))))
def b_q40 : En -> Option Out :=
 (mSeq (mAsg 3 (mCall WC (mCons (mVar 0) (mCons (mVar 2) mNil))))
 (mFrz 3 (mRet (mLC (D3 [some 3,none]) (D5 (mVar 1)) (gVar 1) mYes (mLC (D3 [some 1,none]) (D5 (mVar 0)) (gVar 1) mYes (mCall TB (mCons (mVar 1) (mCons (mVar 0) mNil))))))))
def WJ:List PyData->Option Sl:=F4 4 b_q40 3
theorem u0 (B:Bl mg) (D_q22:Def P w K mg base 4 "columns_of" qkb (spD K WC)) (D_q42:Def P w K mg base 2 "value_at" qlb (spD K TB)) (F:Fun K "table_of" "table_of" ZM f fd):FnOk P w K mg base CX0 5 f fd qt (spD K WJ):=by
 have sc:=iN
 exact fnD F iN rfl rfl fun cdv A outer s H E hr=>
  (A6 (AW 3 (BA D_q22 hr (A1 (AC 0) (A1 (AC 2) AG))) sc.nd)
  (AK (CG 3 (DR (FN (N':= ["columns","trial"]) (R':=PR K) CI CH [some 3,none] (D3 [some 3,none]) EK (F7 (AC 1)) (fun _=>(C2 1 (nN ["columns","trial"]))) (fun _=>DN) (fun _=>(FN (N':= ["trial","column"]) (R':=PR K) LX LG [some 1,none] (D3 [some 1,none]) EK (F7 (AC 0)) (fun _=>(C2 1 (nN ["trial","column"]))) (fun _=>DN) (fun _=>(BA D_q42 hr (A1 (AC 1) (A1 (AC 0) AG)))))))))))
def b_q20 : En -> Option Out :=
 (mSeq (mAsg 4 (mBin dix (mPk 1) (mPk 2)))
 (mSeq (mAsg 5 (mBin dix (mPk 0) (mPk 2)))
 (mRet (mLC (D3 [some 4,some 5,some 3,none,none]) (N5 (mCons (mVar 0) (mCons (mVar 1) mNil))) (gTupD [(gVar 3),(gVar 4)]) mYes (mBin EF (mBin dSub (mBin dRep (mPk 0) (mPk 3)) (mBin dRep (mPk 1) (mPk 4))) (mPk 2))))))
def WO:List PyData->Option Sl:=F4 6 b_q20 4
theorem vZ (B:Bl mg) (F:Fun K "cleared_row" "cleared_row" ZQ f fd):FnOk P w K mg base CX0 1 f fd qh (spD K WO):=by
 have sc:=gU
 exact fnD F gU rfl rfl fun cdv A outer s H E hr=>
  (A6 (AW 4 (DF (A2 1) (A2 2)) sc.nd)
  (A6 (AW 5 (DF (A2 0) (A2 2)) sc.nd)
  (AK (DR (FN (N':=qv) (R':=PR K) CI CH [some 4,some 5,some 3,none,none] (D3 [some 4,some 5,some 3,none,none]) EK (SC B.zip (A1 (AC 0) (A1 (AC 1) AG))) (fun _=>(NC (G4 (C2 3 (nN qv)) (G4 (C2 4 (nN qv)) KW)))) (fun _=>DN) (fun _=>(ES (DE.dp (IH (DE.dp (DM (A2 0) (A2 3))) (DE.dp (DM (A2 1) (A2 4))))) (A2 2))))))))
def b_q23 : En -> Option Out :=
 (mSeq (mAsg 1 (mK (.int 1)))
 (mSeq (GB (mItems (mVar 0)) (gVar 2) (mFrz 1 (mAsg 1 (mBin dRep (mBin EF (mPk 1) (mCall NG (mCons (mVar 1) (mCons (mBin dix (mPk 2) (mK (.int 1))) mNil)))) (mBin dix (mPk 2) (mK (.int 1)))))))
 (mRet (mPk 1))))
def MH:List PyData->Option Sl:=F4 3 b_q23 1
theorem v2 (B:Bl mg) (D_q29:Def P w K mg base 1 "greatest_divisor" qc (spD K NG)) (F:Fun K "common_bottom" "common_bottom" bH f fd):FnOk P w K mg base CX0 2 f fd qeb (spD K MH):=by
 have sc:=hU
 exact fnD F hU rfl rfl fun cdv A outer s H E hr=>
  (A6 (AW 1 AH sc.nd)
  (A6 (EW B5 (GP (AC 0)) (D7 2 sc.nd) (AK (CG 1 (AW 1 (DM (DE.dp (ES (A2 1) (DE.dp (BA D_q29 hr (A1 (AC 1) (A1 (DF (A2 2) (DE.dp AH)) AG)))))) (DE.dp (DF (A2 2) (DE.dp AH)))) sc.nd))))
  (AK (FW 1))))
def b_q43 : En -> Option Out :=
 (mSeq (mAsg 1 (mCall MH (mCons (mVar 0) mNil)))
 (mRet (mLC (D3 [some 1,none]) (mItems (mVar 0)) (gVar 1) mYes (mBin dRep (mBin dix (mPk 1) (mK (.int 0))) (mBin EF (mPk 0) (mBin dix (mPk 1) (mK (.int 1))))))))
def KU:List PyData->Option Sl:=F4 2 b_q43 1
theorem uH (B:Bl mg) (D_q23:Def P w K mg base 2 "common_bottom" qeb (spD K MH)) (F:Fun K "whole_row" "whole_row" cC f fd):FnOk P w K mg base CX0 3 f fd qeb (spD K KU):=by
 have sc:=jU
 exact fnD F jU rfl rfl fun cdv A outer s H E hr=>
  (A6 (AW 1 (BA D_q23 hr (A1 (AC 0) AG)) sc.nd)
  (AK (DR (FN (N':=qob) (R':=PR K) CI CH [some 1,none] (D3 [some 1,none]) EK (GP (AC 0)) (fun _=>(C2 1 (nN qob))) (fun _=>DN) (fun _=>(DM (DE.dp (DF (A2 1) (DE.dp AH))) (DE.dp (ES (A2 0) (DE.dp (DF (A2 1) (DE.dp AH)))))))))))
def b_q2 : En -> Option Out :=
 (mSeq (GB (NT (mConsP (mPk 1) (mConsP (mCallP dLen (mConsP (mPk 4) mNilP)) mNilP))) (gVar 3) (mIf (mTest (mBin dne (mBin dix (mBin dix (mPk 4) (mPk 3)) (mPk 2)) (mK (.int 0)))) (mRet (mPk 3)) mNext))
 (mRet (mK .none)))
def WE:En->List PyData->Option (En×PyData):=OM 4 3 3 b_q2
theorem y3 (B:Bl mg) (K_S:Klass K C_S qa) (F:Fun K "place_of_lead" "Stairs.place_of_lead" pU f fd):FnOk P w K mg base CX0 1 f fd qbb (spM K C_S qa WE):=by
 have sc:=rV
 exact fnM F rV rfl rfl rfl fun cdv A outer s H E p hr=>
  (A6 (EW B5 (OP B.range (BU (A2 1) (BU (DE.dp (FL DD GV GW B.len (BU (KF 0 K_S) CZ))) CZ))) (D7 3 sc.nd) (AK (GO (aD hr.units (DE.dp (DF (DE.dp (DF (KF 0 K_S) (A2 3))) (A2 2))) (DE.dp AH)) (AK (FW 3)) EQ)))
  (AK (DR PX)))
def b_q1 : En -> Option Out :=
 (mSeq (mIf (mTest (mBin deq (mPk 2) (mPk 1))) mRetN mNext)
 (mSeq (mAsg 3 (mLC (D3 [none]) (mItems (mBin dix (mPk 4) (mPk 1))) (gVar 0) mYes (mUn (iun fun i=> -i) (mPk 0))))
 (mSeq (mSet 4 (mPk 1) (mBin dix (mPk 4) (mPk 2)))
 (mFrz 3 (mSet 4 (mPk 2) (mVar 3))))))
def eI:En->List PyData->Option (En×PyData):=OM 4 3 3 b_q1
theorem zW (B:Bl mg) (K_S:Klass K C_S qa) (F:Fun K "exchange" "Stairs.exchange" m6 f fd):FnOk P w K mg base CX0 1 f fd qcb (spM K C_S qa eI):=by
 have sc:=rQ
 exact fnM F rQ rfl rfl rfl fun cdv A outer s H E p hr=>
  (A6 (GO (MG hr.units (A2 2) (A2 1)) (AK Z9) EQ)
  (A6 (Q3 (N':= ["number"]) (R':=PR K) CI CH 3 [none] (D3 [none]) pV sc.nd (GP (DF (KF 0 K_S) (A2 1))) (fun _=>(C2 0 (nN ["number"]))) (fun _=>DN) (fun _=>(QK (A2 0))))
  (A6 (ZA 0 K_S (DF (KF 0 K_S) (A2 2)) (A2 1))
  (AK (CG 3 (ZA 0 K_S (AC 3) (A2 2)))))))
def b_q4 : En -> Option Out :=
 (mSeq (mAsg 2 (mCallP dLen (mConsP (mPk 7) mNilP)))
 (mSeq (mFrz 2 (JH 6 WE (mCons (mVar 2) (mCons (mVar 1) mNil)) fun ρ d=>some (.nx (ρ.set 3 (some (.val d))))))
 (mSeq (mIf (mTest (mBin disN (mPk 3) (mK .none))) mRetN mNext)
 (mSeq (mFrz 2 (mFrz 3 (JH 6 eI (mCons (mVar 2) (mCons (mVar 3) mNil)) fun ρ _=>some (.nx ρ))))
 (mSeq (mAsg 4 (mBin dix (mPk 6) (mPk 2)))
 (mSeq (mFrz 4 (mAsg 5 (mLC (subF [some 4,some 1,some 0,none] 6) (mItems (mSl (mPk 6) (mPart (mBin dAdd (mPk 2) (mK (.int 1)))) mNoPart)) (gVar 3) mYes (mCall WO (mCons (mVar 3) (mCons (mVar 0) (mCons (mVar 1) (mCons (mVar 6) mNil))))))))
 (mSeq (mAsg 6 (mBin dAdd (mSl (mPk 6) mNoPart (mPart (mBin dAdd (mPk 2) (mK (.int 1))))) (mPk 5)))
 (mSeq (mApp 7 (mVar 1))
 (mAsg 8 (mBin dix (mPk 4) (mPk 1)))))))))))
def YL:En->List PyData->Option (En×PyData):=OM 6 2 3 b_q4
theorem yY (B:Bl mg) (D_q2:MDef P w K mg base 1 C_S "place_of_lead" qbb (spM K C_S qa WE)) (D_q1:MDef P w K mg base 1 C_S "exchange" qcb (spM K C_S qa eI)) (D_q20:Def P w K mg base 1 "cleared_row" qh (spD K WO)) (K_S:Klass K C_S qa) (F:Fun K "step_down" "Stairs.step_down" mG f fd):FnOk P w K mg base CX0 2 f fd qm (spM K C_S qa YL):=by
 have sc:=qV
 exact fnM F qV rfl rfl rfl fun cdv A outer s H E p hr=>
  (A6 (AW 2 (FL DD GV GW B.len (BU (KF 1 K_S) CZ)) sc.nd)
  (A6 (CG 2 (fS 3 D_q2 K_S hr (A1 (AC 2) (A1 (AC 1) AG)) sc.nd))
  (A6 (GO (kE (A2 3) (DE.dp PX)) (AK Z9) EQ)
  (A6 (CG 2 (CG 3 (VQ D_q1 K_S hr (A1 (AC 2) (A1 (AC 3) AG)))))
  (A6 (AW 4 (DF (KF 0 K_S) (A2 2)) sc.nd)
  (A6 (CG 4 (Q3 (N':= ["lead_row","column","self","row"]) (R':=FR K ⟨C_S,qa,2,4,p⟩) CI CH 5 [some 4,some 1,some 0,none] (subF [some 4,some 1,some 0,none] 6) x0 sc.nd (GP (TK (KF 0 K_S) (LM (DE.dp (E3 (A2 2) (DE.dp AH)))) M3)) (fun _=>(C2 3 (nN ["lead_row","column","self","row"]))) (fun _=>DN) (fun _=>(BA D_q20 hr (A1 (AC 3) (A1 (AC 0) (A1 (AC 1) (A1 (YR 2 K_S) AG))))))))
  (A6 (QS 0 K_S (E3 (DE.dp (TK (KF 0 K_S) M3 (LM (DE.dp (E3 (A2 2) (DE.dp AH)))))) (A2 5)))
  (A6 (oO 1 K_S (AC 1))
  (AK (QS 2 K_S (DF (A2 4) (A2 1))))))))))))
def b_q0 : En -> Option Out :=
 (mSeq (mAsg 3 (mCallP dList (mConsP (mPk 1) mNilP)))
 (mSeq (mAsg 4 (mLst mNil))
 (mSeq (mAsg 5 (mK (.int 1)))
 (GB (J0 (mConsP (mCallP dLen (mConsP (mBin dix (mPk 1) (mK (.int 0))) mNilP)) mNilP)) (gVar 2) (JH 3 YL (mCons (mVar 2) mNil) fun ρ _=>some (.nx ρ))))))
def Y4:En->List PyData->Option (En×PyData):=OM 3 2 3 b_q0
theorem zH (B:Bl mg) (D_q4:MDef P w K mg base 2 C_S "step_down" qm (spM K C_S qa YL)) (K_S:Klass K C_S qa) (F:Fun K "__init__" "Stairs.__init__" qA f fd):FnOk P w K mg base CX0 3 f fd qnb (spM K C_S qa Y4):=by
 have sc:=rD
 exact fnM F rD rfl rfl rfl fun cdv A outer s H E p hr=>
  (A6 (QS 0 K_S (QH K8 UP UW B.list (BU (A2 1) CZ)))
  (A6 (QS 1 K_S (EO AG))
  (A6 (QS 2 K_S AH)
  (AK (EW B5 (G5 B.range (BU (DE.dp (FL DD GV GW B.len (BU (DE.dp (DF (A2 1) (DE.dp AH))) CZ))) CZ)) (D7 2 sc.nd) (AK (VQ D_q4 K_S hr (A1 (AC 2) AG))))))))
def RD:List PyData->Option En:=fG 1 1 (VZ 3 Y4 (mCons (mLC (D3 [none]) (mItems (mVar 0)) (gVar 0) mYes (mCall KU (mCons (mVar 0) mNil))) mNil))
theorem vE (B:Bl mg) (D_q43:Def P w K mg base 3 "whole_row" qeb (spD K KU)) (D_q0:KDef P w K mg base 3 C_S "Stairs" qnb (spM K C_S qa Y4)) (K_S:Klass K C_S qa) (F:Fun K "stairs_of" "stairs_of" aT f fd):FnOk P w K mg base CX0 5 f fd qab (spO K C_S qa RD):=by
 have sc:=kS
 exact fnO F kS rfl rfl rfl fun cdv A outer s H E hr=>
  (qI D_q0 hr (A1 (FN (N':=qeb) (R':=PR K) CI CH [none] (D3 [none]) EK (GP (AC 0)) (fun _=>(C2 0 (nN qeb))) (fun _=>DN) (fun _=>(BA D_q43 hr (A1 (AC 0) AG)))) AG))
def b_q28 : En -> Option Out :=
 (mRet (mLC (D3 [some 1,none]) (mItems (mVar 0)) (gVar 1) mYes (mCall NO (mCons (mVar 1) (mCons (mVar 0) mNil)))))
def P9:List PyData->Option Sl:=F4 2 b_q28 2
theorem tN (B:Bl mg) (D_q27:Def P w K mg base 2 "fraction" qdb (spD K NO)) (F:Fun K "fractions_over" "fractions_over" ZO f fd):FnOk P w K mg base CX0 3 f fd qq (spD K P9):=by
 have sc:=gF
 exact fnD F gF rfl rfl fun cdv A outer s H E hr=>
  (AK (DR (FN (N':=qob) (R':=PR K) CI CH [some 1,none] (D3 [some 1,none]) EK (GP (AC 0)) (fun _=>(C2 1 (nN qob))) (fun _=>DN) (fun _=>(BA D_q27 hr (A1 (AC 1) (A1 (AC 0) AG)))))))
def b_q30 : En -> Option Out :=
 (mRet (mLC (D3 [some 0,none]) (J0 (mConsP (mCallP dLen (mConsP (mBin dix (mPk 0) (mK (.int 0))) mNilP)) mNilP)) (gVar 1) mYes (mLC (D3 [some 1,none]) (mItems (mVar 0)) (gVar 1) mYes (mBin dix (mPk 1) (mPk 0)))))
def NH:List PyData->Option Sl:=F4 1 b_q30 1
theorem wB (B:Bl mg) (F:Fun K "laid_over" "laid_over" bX f fd):FnOk P w K mg base CX0 1 f fd qab (spD K NH):=by
 have sc:=g7
 exact fnD F g7 rfl rfl fun cdv A outer s H E hr=>
  (AK (DR (FN (N':= ["table","k"]) (R':=PR K) CI CH [some 0,none] (D3 [some 0,none]) EK (G5 B.range (BU (DE.dp (FL DD GV GW B.len (BU (DE.dp (DF (A2 0) (DE.dp AH))) CZ))) CZ)) (fun _=>(C2 1 (nN ["table","k"]))) (fun _=>DN) (fun _=>(FN (N':= ["k","row"]) (R':=PR K) LX LG [some 1,none] (D3 [some 1,none]) EK (GP (AC 0)) (fun _=>(C2 1 (nN ["k","row"]))) (fun _=>DN) (fun _=>(DF (A2 1) (A2 0))))))))
def b_q3 : En -> Option Out :=
 (mSeq (mAsg 2 (mCallP dLen (mConsP (mPk 8) mNilP)))
 (mSeq (mAsg 3 (mBin dRep (mLst (mCons (mK (.int 0)) mNil)) (mPk 2)))
 (mSeq (GB (aA (mConsP (mBin dSub (mPk 2) (mK (.int 1))) (mConsP (mUn (iun fun i=> -i) (mK (.int 1))) (mConsP (mUn (iun fun i=> -i) (mK (.int 1))) mNilP)))) (gVar 4) (mSeq (mAsg 5 (mBin dix (mPk 7) (mPk 4)))
 (mSeq (mAsg 6 (mCallP dSum (mConsP (mLC (subF [some 5,some 0,some 3,none] 7) (NT (mConsP (mBin dAdd (mPk 4) (mK (.int 1))) (mConsP (mPk 2) mNilP))) (gVar 3) mYes (mBin dRep (mBin dix (mPk 0) (mBin dix (mPk 5) (mPk 3))) (mBin dix (mPk 2) (mPk 3)))) mNilP)))
 (mSet 3 (mPk 4) (mBin EF (mBin dSub (mBin dRep (mPk 9) (mBin dix (mPk 5) (mPk 1))) (mPk 6)) (mBin dix (mPk 5) (mBin dix (mPk 8) (mPk 4))))))))
 (mRet (mPk 3)))))
def Y5:List PyData->List PyData->Option Sl:=eU 7 2 3 b_q3
theorem y9 (B:Bl mg) (K_S:Klass K C_S qa) (F:Fun K "reduced_column" "Stairs.reduced_column" oZ f fd):FnOk P w K mg base CX0 1 f fd qm (spR K C_S qa Y5):=by
 have sc:=rG
 exact fnR F rG rfl rfl rfl fun cdv A outer s H E p hr=>
  (A6 (AW 2 (FL DD GV GW B.len (BU (NM 1 K_S) CZ)) sc.nd)
  (A6 (AW 3 (DM (DE.dp (EO (A1 AH AG))) (A2 2)) sc.nd)
  (A6 (EW B5 (dX B.range (BU (DE.dp (IH (A2 2) (DE.dp AH))) (BU (DE.dp (QK (DE.dp AH))) (BU (DE.dp (QK (DE.dp AH))) CZ)))) (D7 4 sc.nd) (A6 (AW 5 (DF (NM 0 K_S) (A2 4)) sc.nd)
  (A6 (AW 6 (FL (LD rfl) QX bt_sum B.sum (BU (DE.dp (FN (N':= ["row","self","numbers","k"]) (R':=FO K ⟨C_S,qa,1,4,p⟩) CI CH [some 5,some 0,some 3,none] (subF [some 5,some 0,some 3,none] 7) uD (OP B.range (BU (DE.dp (E3 (A2 4) (DE.dp AH))) (BU (A2 2) CZ))) (fun _=>(C2 3 (nN ["row","self","numbers","k"]))) (fun _=>DN) (fun _=>(DM (DE.dp (DF (A2 0) (DE.dp (DF (NM 1 K_S) (A2 3))))) (DE.dp (DF (A2 2) (A2 3))))))) CZ)) sc.nd)
  (AK (PQ 3 (ES (DE.dp (IH (DE.dp (DM (NM 2 K_S) (DE.dp (DF (A2 5) (A2 1))))) (A2 6))) (DE.dp (DF (A2 5) (DE.dp (DF (NM 1 K_S) (A2 4)))))) (A2 4))))))
  (AK (FW 3)))))
def b_q33 : En -> Option Out :=
 (mSeq (mAsg 2 (mCallP dLen (mConsP (mBin dix (mPk 0) (mK (.int 0))) mNilP)))
 (XW 8 3 (QJ RD (mCons (mLC (D3 [none,none]) (N5 (mCons (mVar 0) (mCons (mVar 1) mNil))) (gTupD [(gVar 0),(gVar 1)]) mYes (mBin dAdd (mPk 0) (mLst (mCons (mVar 1) mNil)))) mNil))
 (mSeq (mIf (mTest (mBin (SA false) (mPk 2) (mPk 9))) (mRet (mK .none)) mNext)
 (mSeq (mFrz 2 (mAsg 4 (mCall P9 (mCons (MP 8 Y5 (mCons (mVar 2) mNil)) (mCons (mVar 10) mNil)))))
 (mSeq (mAsg 5 (mBin dRep (mLst (mCons (mK c_NOUGHT) mNil)) (mPk 2)))
 (mSeq (mFrz 9 (mFrz 4 (GB (N5 (mCons (mVar 9) (mCons (mVar 4) mNil))) (gTupD [(gVar 6),(gVar 7)]) (mSet 5 (mPk 6) (mVar 7)))))
 (mRet (mPk 5))))))))
def KG:List PyData->Option Sl:=F4 8 b_q33 2
theorem wN (B:Bl mg) (D_q37:Def P w K mg base 5 "stairs_of" qab (spO K C_S qa RD)) (D_q28:Def P w K mg base 3 "fractions_over" qq (spD K P9)) (D_q3:MDef P w K mg base 1 C_S "reduced_column" qm (spR K C_S qa Y5)) (C_NOUGHT:S9 K mg "NOUGHT" c_NOUGHT) (K_S:Klass K C_S qa) (F:Fun K "solution" "solution" Z5 f fd):FnOk P w K mg base CX0 6 f fd qe (spD K KG):=by
 have sc:=gW
 exact fnD F gW rfl rfl fun cdv A outer s H E hr=>
  (A6 (AW 2 (FL DD GV GW B.len (BU (DE.dp (DF (A2 0) (DE.dp AH))) CZ)) sc.nd)
  (oF 3 8 (nP D_q37 hr (A1 (FN (N':= ["row","number"]) (R':=PR K) CI CH [none,none] (D3 [none,none]) EK (SC B.zip (A1 (AC 0) (A1 (AC 1) AG))) (fun _=>(NC (G4 (C2 0 (nN ["row","number"])) (G4 (C2 1 (nN ["row","number"])) KW)))) (fun _=>DN) (fun _=>(E3 (A2 0) (DE.dp (EO (A1 (AC 1) AG)))))) AG)) (fun p=>
  (A6 (GO (wR hr.units (A2 2) (KF 1 K_S)) (AK (DR PX)) EQ)
  (A6 (CG 2 (AW 4 (BA D_q28 hr (A1 (jC D_q3 K_S hr (A1 (AC 2) AG)) (A1 (YR 2 K_S) AG))) sc.nd))
  (A6 (AW 5 (DM (DE.dp (EO (A1 (NN C_NOUGHT) AG))) (A2 2)) sc.nd)
  (A6 (qG 9 (CG 4 (EW B5 (SC B.zip (A1 (YR 1 K_S) (A1 (AC 4) AG))) (RN (GN (D7 6 sc.nd) (GN (D7 7 sc.nd) ND))) (AK (PQ 5 (AC 7) (A2 6))))))
  (AK (FW 5))))))) sc.nd))
def b_q44 : En -> Option Out :=
 (mSeq (mAsg 2 (mCall NH (mCons (mVar 0) mNil)))
 (mRet (mCall KG (mCons (mBin dAdd (mPk 2) (mLst (mCons (mCallP dList (mConsP (mPk 1) mNilP)) mNil))) (mCons (mBin dAdd (mBin dRep (mLst (mCons (mK c_NOUGHT) mNil)) (mCallP dLen (mConsP (mPk 2) mNilP))) (mLst (mCons (mK c_UNIT) mNil))) mNil)))))
def W9:List PyData->Option Sl:=F4 3 b_q44 2
theorem tJ (B:Bl mg) (D_q30:Def P w K mg base 1 "laid_over" qab (spD K NH)) (D_q33:Def P w K mg base 6 "solution" qe (spD K KG)) (C_NOUGHT:S9 K mg "NOUGHT" c_NOUGHT) (C_UNIT:S9 K mg "UNIT" c_UNIT) (F:Fun K "witness" "witness" bO f fd):FnOk P w K mg base CX0 7 f fd qe (spD K W9):=by
 have sc:=kH
 exact fnD F kH rfl rfl fun cdv A outer s H E hr=>
  (A6 (AW 2 (BA D_q30 hr (A1 (AC 0) AG)) sc.nd)
  (AK (DR (BA D_q33 hr (A1 (E3 (A2 2) (DE.dp (EO (A1 (QH K8 UP UW B.list (BU (A2 1) CZ)) AG)))) (A1 (E3 (DE.dp (DM (DE.dp (EO (A1 (NN C_NOUGHT) AG))) (DE.dp (FL DD GV GW B.len (BU (A2 2) CZ))))) (DE.dp (EO (A1 (NN C_UNIT) AG)))) AG))))))
def b_q34 : En -> Option Out :=
 (mSeq (mAsg 2 (mCall KG (mCons (mVar 0) (mCons (mVar 1) mNil))))
 (mSeq (mIf (mTest (mBin disN (mPk 2) (mK .none))) (mRet (mTup (mCons (mK (.str "never")) (mCons (mCall W9 (mCons (mVar 0) (mCons (mVar 1) mNil))) mNil)))) mNext)
 (mFrz 2 (mRet (mTup (mCons (mK (.str "found")) (mCons (mVar 2) mNil)))))))
def TC:List PyData->Option Sl:=F4 3 b_q34 2
theorem wZ (B:Bl mg) (D_q33:Def P w K mg base 6 "solution" qe (spD K KG)) (D_q44:Def P w K mg base 7 "witness" qe (spD K W9)) (F:Fun K "solved" "solved" aM f fd):FnOk P w K mg base CX0 8 f fd qe (spD K TC):=by
 have sc:=i8
 exact fnD F i8 rfl rfl fun cdv A outer s H E hr=>
  (A6 (AW 2 (BA D_q33 hr (A1 (AC 0) (A1 (AC 1) AG))) sc.nd)
  (A6 (GO (kE (A2 2) (DE.dp PX)) (AK (DR (FG (A1 UU (A1 (BA D_q44 hr (A1 (AC 0) (A1 (AC 1) AG))) AG))))) EQ)
  (AK (CG 2 (DR (FG (A1 UU (A1 (AC 2) AG))))))))
def b_q38 : En -> Option Out :=
 (mRet (mCallP dSum (mConsP (mLC (D3 [none,none]) (N5 (mCons (mVar 0) (mCons (mVar 1) mNil))) (gTupD [(gVar 0),(gVar 1)]) mYes (mBin dRep (mPk 0) (mPk 1))) mNilP)))
def IZ:List PyData->Option Sl:=F4 2 b_q38 2
theorem wK (B:Bl mg) (F:Fun K "sum_of_products" "sum_of_products" ZX f fd):FnOk P w K mg base CX0 1 f fd qc (spD K IZ):=by
 have sc:=lJ
 exact fnD F lJ rfl rfl fun cdv A outer s H E hr=>
  (AK (DR (FL (LD rfl) QX bt_sum B.sum (BU (DE.dp (FN (N':= ["a","b"]) (R':=PR K) CI CH [none,none] (D3 [none,none]) EK (SC B.zip (A1 (AC 0) (A1 (AC 1) AG))) (fun _=>(NC (G4 (C2 0 (nN ["a","b"])) (G4 (C2 1 (nN ["a","b"])) KW)))) (fun _=>DN) (fun _=>(DM (A2 0) (A2 1))))) CZ))))
def b_q19 : En -> Option Out :=
 (mRet (mLC (D3 [none]) (mItems (mVar 0)) (gVar 0) mYes (mTup (mCons (mVar 0) (mCons (mK (.int 1)) mNil)))))
def P6:List PyData->Option Sl:=F4 1 b_q19 1
theorem uZ (B:Bl mg) (F:Fun K "as_fractions" "as_fractions" bJ f fd):FnOk P w K mg base CX0 1 f fd qx (spD K P6):=by
 have sc:=gB
 exact fnD F gB rfl rfl fun cdv A outer s H E hr=>
  (AK (DR (FN (N':= ["number"]) (R':=PR K) CI CH [none] (D3 [none]) EK (GP (AC 0)) (fun _=>(C2 0 (nN ["number"]))) (fun _=>DN) (fun _=>(FG (A1 (AC 0) (A1 AH AG)))))))
def b_q21 : En -> Option Out :=
 (mSeq (mAsg 1 (mCall NH (mCons (mVar 0) mNil)))
 (mFrz 1 (mRet (mLC (D3 [some 1,none]) (mItems (mVar 1)) (gVar 1) mYes (mCall P6 (mCons (mLC (D3 [some 1,none]) (mItems (mVar 0)) (gVar 1) mYes (mCall IZ (mCons (mVar 0) (mCons (mVar 1) mNil)))) mNil))))))
def W8:List PyData->Option Sl:=F4 2 b_q21 1
theorem vN (B:Bl mg) (D_q30:Def P w K mg base 1 "laid_over" qab (spD K NH)) (D_q19:Def P w K mg base 1 "as_fractions" qx (spD K P6)) (D_q38:Def P w K mg base 1 "sum_of_products" qc (spD K IZ)) (F:Fun K "column_products" "column_products" bV f fd):FnOk P w K mg base CX0 2 f fd ["rows"] (spD K W8):=by
 have sc:=iB
 exact fnD F iB rfl rfl fun cdv A outer s H E hr=>
  (A6 (AW 1 (BA D_q30 hr (A1 (AC 0) AG)) sc.nd)
  (AK (CG 1 (DR (FN (N':= ["columns","one"]) (R':=PR K) CI CH [some 1,none] (D3 [some 1,none]) EK (GP (AC 1)) (fun _=>(C2 1 (nN ["columns","one"]))) (fun _=>DN) (fun _=>(BA D_q19 hr (A1 (FN (N':=qc) (R':=PR K) LX LG [some 1,none] (D3 [some 1,none]) EK (GP (AC 0)) (fun _=>(C2 1 (nN qc))) (fun _=>DN) (fun _=>(BA D_q38 hr (A1 (AC 0) (A1 (AC 1) AG))))) AG))))))))
def b_q39 : En -> Option Out :=
 (mSeq (mAsg 2 (mCall MH (mCons (mVar 1) mNil)))
 (mSeq (mAsg 3 (mCall KU (mCons (mVar 1) mNil)))
 (mFrz 3 (mFrz 2 (mRet (mCall P9 (mCons (mLC (D3 [some 3,none]) (mItems (mVar 0)) (gVar 1) mYes (mCall IZ (mCons (mVar 1) (mCons (mVar 0) mNil)))) (mCons (mVar 2) mNil))))))))
def X2:List PyData->Option Sl:=F4 4 b_q39 2
theorem sT (B:Bl mg) (D_q23:Def P w K mg base 2 "common_bottom" qeb (spD K MH)) (D_q43:Def P w K mg base 3 "whole_row" qeb (spD K KU)) (D_q28:Def P w K mg base 3 "fractions_over" qq (spD K P9)) (D_q38:Def P w K mg base 1 "sum_of_products" qc (spD K IZ)) (F:Fun K "sums_with" "sums_with" aO f fd):FnOk P w K mg base CX0 4 f fd qgb (spD K X2):=by
 have sc:=iV
 exact fnD F iV rfl rfl fun cdv A outer s H E hr=>
  (A6 (AW 2 (BA D_q23 hr (A1 (AC 1) AG)) sc.nd)
  (A6 (AW 3 (BA D_q43 hr (A1 (AC 1) AG)) sc.nd)
  (AK (CG 3 (CG 2 (DR (BA D_q28 hr (A1 (FN (N':= ["whole","row"]) (R':=PR K) CI CH [some 3,none] (D3 [some 3,none]) EK (GP (AC 0)) (fun _=>(C2 1 (nN ["whole","row"]))) (fun _=>DN) (fun _=>(BA D_q38 hr (A1 (AC 1) (A1 (AC 0) AG))))) (A1 (AC 2) AG)))))))))
def b_q35 : En -> Option Out :=
 (mSeq (mAsg 1 (mCall MH (mCons (mVar 0) mNil)))
 (mSeq (mAsg 2 (mCall KU (mCons (mVar 0) mNil)))
 (mFrz 2 (mRet (mCall NO (mCons (mCall IZ (mCons (mVar 2) (mCons (mVar 2) mNil))) (mCons (mBin dRep (mPk 1) (mPk 1)) mNil)))))))
def VL:List PyData->Option Sl:=F4 3 b_q35 1
theorem wU (B:Bl mg) (D_q23:Def P w K mg base 2 "common_bottom" qeb (spD K MH)) (D_q43:Def P w K mg base 3 "whole_row" qeb (spD K KU)) (D_q27:Def P w K mg base 2 "fraction" qdb (spD K NO)) (D_q38:Def P w K mg base 1 "sum_of_products" qc (spD K IZ)) (F:Fun K "spread" "spread" aU f fd):FnOk P w K mg base CX0 4 f fd ["weights"] (spD K VL):=by
 have sc:=lF
 exact fnD F lF rfl rfl fun cdv A outer s H E hr=>
  (A6 (AW 1 (BA D_q23 hr (A1 (AC 0) AG)) sc.nd)
  (A6 (AW 2 (BA D_q43 hr (A1 (AC 0) AG)) sc.nd)
  (AK (CG 2 (DR (BA D_q27 hr (A1 (BA D_q38 hr (A1 (AC 2) (A1 (AC 2) AG))) (A1 (DM (A2 1) (A2 1)) AG))))))))
def b_fit : En -> Option Out :=
 (mSeq (mAsg 2 (mLC (D3 [some 1,none]) (mItems (mCall NH (mCons (mVar 0) mNil))) (gVar 1) mYes (mCall IZ (mCons (mVar 1) (mCons (mVar 0) mNil)))))
 (mSeq (mFrz 2 (mAsg 3 (mBin dix (mCall TC (mCons (mCall W8 (mCons (mVar 0) mNil)) (mCons (mCall P6 (mCons (mVar 2) mNil)) mNil))) (mK (.int 1)))))
 (mSeq (mFrz 3 (mAsg 4 (mCall X2 (mCons (mVar 0) (mCons (mVar 3) mNil)))))
 (mSeq (mFrz 4 (mAsg 5 (mLC (D3 [none,none]) (N5 (mCons (mCall P6 (mCons (mVar 1) mNil)) (mCons (mVar 4) mNil))) (gTupD [(gVar 0),(gVar 1)]) mYes (mCall P3 (mCons (mVar 0) (mCons (mVar 1) mNil))))))
 (mFrz 3 (mFrz 5 (mFrz 4 (mRet (mTup (mCons (mVar 3) (mCons (mVar 4) (mCons (mVar 5) mNil))))))))))))
def N3:List PyData->Option Sl:=F4 6 b_fit 2
theorem uF (B:Bl mg) (D_q30:Def P w K mg base 1 "laid_over" qab (spD K NH)) (D_q38:Def P w K mg base 1 "sum_of_products" qc (spD K IZ)) (D_q34:Def P w K mg base 8 "solved" qe (spD K TC)) (D_q19:Def P w K mg base 1 "as_fractions" qx (spD K P6)) (D_q21:Def P w K mg base 2 "column_products" ["rows"] (spD K W8)) (D_q39:Def P w K mg base 4 "sums_with" qgb (spD K X2)) (D_q31:Def P w K mg base 3 "minus" qc (spD K P3)) (F:Fun K "fit" "fit" bD f fd):FnOk P w K mg base CX0 9 f fd qmb (spD K N3):=by
 have sc:=fN
 exact fnD F fN rfl rfl fun cdv A outer s H E hr=>
  (A6 (Q3 (N':= ["results","column"]) (R':=PR K) CI CH 2 [some 1,none] (D3 [some 1,none]) EK sc.nd (GP (BA D_q30 hr (A1 (AC 0) AG))) (fun _=>(C2 1 (nN ["results","column"]))) (fun _=>DN) (fun _=>(BA D_q38 hr (A1 (AC 1) (A1 (AC 0) AG)))))
  (A6 (CG 2 (AW 3 (DF (DE.dp (BA D_q34 hr (A1 (BA D_q21 hr (A1 (AC 0) AG)) (A1 (BA D_q19 hr (A1 (AC 2) AG)) AG)))) (DE.dp AH)) sc.nd))
  (A6 (CG 3 (AW 4 (BA D_q39 hr (A1 (AC 0) (A1 (AC 3) AG))) sc.nd))
  (A6 (CG 4 (Q3 (N':= ["result","number"]) (R':=PR K) CI CH 5 [none,none] (D3 [none,none]) EK sc.nd (SC B.zip (A1 (BA D_q19 hr (A1 (AC 1) AG)) (A1 (AC 4) AG))) (fun _=>(NC (G4 (C2 0 (nN ["result","number"])) (G4 (C2 1 (nN ["result","number"])) KW)))) (fun _=>DN) (fun _=>(BA D_q31 hr (A1 (AC 0) (A1 (AC 1) AG))))))
  (AK (CG 3 (CG 5 (CG 4 (DR (FG (A1 (AC 3) (A1 (AC 4) (A1 (AC 5) AG)))))))))))))
def b_q26 : En -> Option Out :=
 (mRet (mCall VL (mCons (mBin dix (mCall N3 (mCons (mCall WJ (mCons (mVar 0) (mCons (mVar 1) (mCons (mVar 2) mNil)))) (mCons (mVar 3) mNil))) (mK (.int 1))) mNil)))
def X1:List PyData->Option Sl:=F4 4 b_q26 4
theorem sW (B:Bl mg) (D_q35:Def P w K mg base 4 "spread" ["weights"] (spD K VL)) (D_fit:Def P w K mg base 9 "fit" qmb (spD K N3)) (D_q40:Def P w K mg base 5 "table_of" qt (spD K WJ)) (F:Fun K "fitted_square" "fitted_square" aY f fd):FnOk P w K mg base CX0 10 f fd qb (spD K X1):=by
 have sc:=gE
 exact fnD F gE rfl rfl fun cdv A outer s H E hr=>
  (AK (DR (BA D_q35 hr (A1 (DF (DE.dp (BA D_fit hr (A1 (BA D_q40 hr (A1 (AC 0) (A1 (AC 1) (A1 (AC 2) AG)))) (A1 (AC 3) AG)))) (DE.dp AH)) AG))))
def b_q36 : En -> Option Out :=
 (mSeq (mAsg 4 (mLst mNil))
 (mSeq (mAsg 5 (mK c_NOUGHT))
 (mSeq (GB (iM (mCons (mVar 2) mNil)) (gTupD [(gVar 7),(gVar 8)]) (mSeq (mAsg 9 (mCall X1 (mCons (mVar 0) (mCons (mVar 1) (mCons (mSl (mPk 2) mNoPart (mPart (mBin dAdd (mPk 7) (mK (.int 1))))) (mCons (mVar 3) mNil))))))
 (mSeq (mFrz 9 (mApp 4 (mTup (mCons (mVar 8) (mCons (mCall P3 (mCons (mVar 9) (mCons (mVar 5) mNil))) mNil)))))
 (mFrz 9 (mAsg 5 (mVar 9))))))
 (mSeq (mAsg 6 (mTup (mCons (mCall IZ (mCons (mVar 3) (mCons (mVar 3) mNil))) (mCons (mK (.int 1)) mNil))))
 (mRet (mBin dAdd (mPk 4) (mLst (mCons (mTup (mCons (mK (.str "left")) (mCons (mCall P3 (mCons (mVar 6) (mCons (mVar 5) mNil))) mNil))) mNil))))))))
def T7:List PyData->Option Sl:=F4 10 b_q36 4
theorem uG (B:Bl mg) (D_q26:Def P w K mg base 10 "fitted_square" qb (spD K X1)) (D_q31:Def P w K mg base 3 "minus" qc (spD K P3)) (D_q38:Def P w K mg base 1 "sum_of_products" qc (spD K IZ)) (C_NOUGHT:S9 K mg "NOUGHT" c_NOUGHT) (F:Fun K "squares" "squares" bF f fd):FnOk P w K mg base CX0 11 f fd qb (spD K T7):=by
 have sc:=iS
 exact fnD F iS rfl rfl fun cdv A outer s H E hr=>
  (A6 (AW 4 (EO AG) sc.nd)
  (A6 (AW 5 (NN C_NOUGHT) sc.nd)
  (A6 (EW B5 (mY B.enumerate (A1 (AC 2) AG)) (RN (GN (D7 7 sc.nd) (GN (D7 8 sc.nd) ND))) (A6 (AW 9 (BA D_q26 hr (A1 (AC 0) (A1 (AC 1) (A1 (TK (A2 2) M3 (LM (DE.dp (E3 (A2 7) (DE.dp AH))))) (A1 (AC 3) AG))))) sc.nd)
  (A6 (CG 9 (K2 4 (FG (A1 (AC 8) (A1 (BA D_q31 hr (A1 (AC 9) (A1 (AC 5) AG))) AG)))))
  (AK (CG 9 (AW 5 (AC 9) sc.nd))))))
  (A6 (AW 6 (FG (A1 (BA D_q38 hr (A1 (AC 3) (A1 (AC 3) AG))) (A1 AH AG))) sc.nd)
  (AK (DR (E3 (A2 4) (DE.dp (EO (A1 (FG (A1 UU (A1 (BA D_q31 hr (A1 (AC 6) (A1 (AC 5) AG))) AG))) AG))))))))))
def b_q12 : En -> Option Out :=
 (mSeq (mAsg 2 (mBin FJ (mBin dRep (mBin dAdd (mBin dAdd (mBin FJ (mPk 0) (mK (.int 2147483647))) (mBin dRep (mBin dRep (mK (.int 40503)) (mPk 1)) (mPk 1))) (mBin dRep (mK (.int 17)) (mPk 1))) (mK (.int 48271))) (mK (.int 2147483647))))
 (mRet (mBin FJ (mBin dRep (mPk 2) (mBin dAdd (mBin dAdd (mBin FJ (mPk 2) (mK (.int 65537))) (mBin dRep (mK (.int 3)) (mPk 1))) (mK (.int 1)))) (mK (.int 2147483629)))))
def J9:List PyData->Option Sl:=F4 3 b_q12 2
theorem tR (B:Bl mg) (F:Fun K "_law_mixed" "_law_mixed" ZK f fd):FnOk P w K mg base CX0 1 f fd qj (spD K J9):=by
 have sc:=fX
 exact fnD F fX rfl rfl fun cdv A outer s H E hr=>
  (A6 (AW 2 (FI (DE.dp (DM (DE.dp (E3 (DE.dp (E3 (DE.dp (FI (A2 0) (DE.dp AH))) (DE.dp (DM (DE.dp (DM (DE.dp AH) (A2 1))) (A2 1))))) (DE.dp (DM (DE.dp AH) (A2 1))))) (DE.dp AH))) (DE.dp AH)) sc.nd)
  (AK (DR (FI (DE.dp (DM (A2 2) (DE.dp (E3 (DE.dp (E3 (DE.dp (FI (A2 2) (DE.dp AH))) (DE.dp (DM (DE.dp AH) (A2 1))))) (DE.dp AH))))) (DE.dp AH)))))
def b_q10 : En -> Option Out :=
 (mSeq (mPar 2 3 (mCons (mVar 0) (mCons (mVar 1) mNil)))
 (mSeq (J8 (mTest (mBin dne (mPk 3) (mK (.int 0)))) (mPar 2 3 (mCons (mVar 3) (mCons (mBin FJ (mPk 2) (mPk 3)) mNil))))
 (mSeq (mIf (mTest (mBin dLt (mBin dRep (mPk 2) (mPk 1)) (mK (.int 0)))) (mAsg 2 (mBin dSub (mK (.int 0)) (mPk 2))) mNext)
 (mRet (mTup (mCons (mBin EF (mPk 0) (mPk 2)) (mCons (mBin EF (mPk 1) (mPk 2)) mNil)))))))
def OW:List PyData->Option Sl:=F4 4 b_q10 2
theorem w5 (B:Bl mg) (F:Fun K "_law_fraction" "_law_fraction" ZU f fd):FnOk P w K mg base CX0 1 f fd qp (spD K OW):=by
 have sc:=fQ
 exact fnD F fQ rfl rfl fun cdv A outer s H E hr=>
  (A6 (i7 2 3 (A1 (AC 0) (A1 (AC 1) AG)) sc.nd)
  (A6 (RK B5 (aD hr.units (A2 3) (DE.dp AH)) (AK (i7 2 3 (A1 (AC 3) (A1 (FI (A2 2) (A2 3)) AG)) sc.nd)))
  (A6 (GO (aW (DE.dp (DM (A2 2) (A2 1))) (DE.dp AH)) (AK (AW 2 (IH (DE.dp AH) (A2 2)) sc.nd)) EQ)
  (AK (DR (FG (A1 (ES (A2 0) (A2 2)) (A1 (ES (A2 1) (A2 2)) AG))))))))
def b_q14 : En -> Option Out :=
 (mRet (mCall OW (mCons (mBin dAdd (mBin dRep (mBin dix (mPk 0) (mK (.int 0))) (mBin dix (mPk 1) (mK (.int 1)))) (mBin dRep (mBin dix (mPk 1) (mK (.int 0))) (mBin dix (mPk 0) (mK (.int 1))))) (mCons (mBin dRep (mBin dix (mPk 0) (mK (.int 1))) (mBin dix (mPk 1) (mK (.int 1)))) mNil))))
def QT:List PyData->Option Sl:=F4 2 b_q14 2
theorem wS (B:Bl mg) (D_q10:Def P w K mg base 1 "_law_fraction" qp (spD K OW)) (F:Fun K "_law_plus" "_law_plus" bI f fd):FnOk P w K mg base CX0 2 f fd ql (spD K QT):=by
 have sc:=hZ
 exact fnD F hZ rfl rfl fun cdv A outer s H E hr=>
  (AK (DR (BA D_q10 hr (A1 (E3 (DE.dp (DM (DE.dp (DF (A2 0) (DE.dp AH))) (DE.dp (DF (A2 1) (DE.dp AH))))) (DE.dp (DM (DE.dp (DF (A2 1) (DE.dp AH))) (DE.dp (DF (A2 0) (DE.dp AH)))))) (A1 (DM (DE.dp (DF (A2 0) (DE.dp AH))) (DE.dp (DF (A2 1) (DE.dp AH)))) AG)))))
def b_q11 : En -> Option Out :=
 (mSeq (mAsg 2 (mBin dAdd (mK (.int 1)) (mBin FJ (mPk 0) (mK (.int 4)))))
 (mSeq (mAsg 3 (mLst mNil))
 (mSeq (mAsg 4 (mBin EF (mPk 0) (mK (.int 8))))
 (mSeq (GB (J0 (mConsP (mPk 2) mNilP)) (gVar 5) (mSeq (mAsg 6 (mBin dAdd (mK (.int 2)) (mBin FJ (mCall J9 (mCons (mVar 0) (mCons (mBin dAdd (mK (.int 200)) (mPk 5)) mNil))) (mK (.int 3)))))
 (mSeq (mIf (mTest (mBin deq (mBin FJ (mCall J9 (mCons (mVar 0) (mCons (mK (.int 220)) mNil))) (mK (.int 3))) (mK (.int 0)))) (mAsg 6 (mK (.int 2))) mNext)
 (mSeq (mIf (mTest (mBin deq (mBin FJ (mBin EF (mPk 0) (mK (.int 4))) (mK (.int 2))) (mK (.int 1)))) (mSeq (mAsg 6 (mBin dAdd (mK (.int 2)) (mBin FJ (mPk 4) (mK (.int 6)))))
 (mAsg 4 (mBin EF (mPk 4) (mK (.int 6))))) mNext)
 (mSeq (mAsg 7 (mK (.int 1)))
 (mSeq (TY 3 (gVar 8) (mAsg 7 (mBin dRep (mPk 7) (mPk 8))))
 (mSeq (mIf (mTest (mBin dGt (mBin dRep (mPk 7) (mPk 6)) (mPk 1))) (mAsg 6 (mK (.int 2))) mNext)
 (mIf (mTest (mBin dLe (mBin dRep (mPk 7) (mPk 6)) (mPk 1))) (mFrz 6 (mApp 3 (mVar 6))) mNext))))))))
 (mRet (mPk 3))))))
def VR:List PyData->Option Sl:=F4 9 b_q11 2
theorem vK (B:Bl mg) (D_q12:Def P w K mg base 1 "_law_mixed" qj (spD K J9)) (F:Fun K "_law_levels" "_law_levels" bL f fd):FnOk P w K mg base CX0 2 f fd qy (spD K VR):=by
 have sc:=jA
 exact fnD F jA rfl rfl fun cdv A outer s H E hr=>
  (A6 (AW 2 (E3 (DE.dp AH) (DE.dp (FI (A2 0) (DE.dp AH)))) sc.nd)
  (A6 (AW 3 (EO AG) sc.nd)
  (A6 (AW 4 (ES (A2 0) (DE.dp AH)) sc.nd)
  (A6 (EW B5 (G5 B.range (BU (A2 2) CZ)) (D7 5 sc.nd) (A6 (AW 6 (E3 (DE.dp AH) (DE.dp (FI (DE.dp (BA D_q12 hr (A1 (AC 0) (A1 (E3 (DE.dp AH) (A2 5)) AG)))) (DE.dp AH)))) sc.nd)
  (A6 (GO (MG hr.units (DE.dp (FI (DE.dp (BA D_q12 hr (A1 (AC 0) (A1 AH AG)))) (DE.dp AH))) (DE.dp AH)) (AK (AW 6 AH sc.nd)) EQ)
  (A6 (GO (MG hr.units (DE.dp (FI (DE.dp (ES (A2 0) (DE.dp AH))) (DE.dp AH))) (DE.dp AH)) (A6 (AW 6 (E3 (DE.dp AH) (DE.dp (FI (A2 4) (DE.dp AH)))) sc.nd)
  (AK (AW 4 (ES (A2 4) (DE.dp AH)) sc.nd))) EQ)
  (A6 (AW 7 AH sc.nd)
  (A6 (pN 3 rfl B5 (fun _ _=>(D7 8 sc.nd)) (fun _ _=>(AK (AW 7 (DM (A2 7) (A2 8)) sc.nd))))
  (A6 (GO (rF (DE.dp (DM (A2 7) (A2 6))) (A2 1)) (AK (AW 6 AH sc.nd)) EQ)
  (AK (GO (sC (DE.dp (DM (A2 7) (A2 6))) (A2 1)) (AK (CG 6 (K2 3 (AC 6)))) EQ)))))))))
  (AK (FW 3))))))
def b_q9 : En -> Option Out :=
 (mSeq (mAsg 3 (mLst mNil))
 (mSeq (mAsg 4 (mK (.int 0)))
 (mSeq (mAsg 5 (mBin EF (mPk 0) (mK (.int 162))))
 (mSeq (GB (J0 (mConsP (mK (.int 6)) mNilP)) (gVar 6) (mSeq (mAsg 7 (mCall J9 (mCons (mVar 0) (mCons (mBin dAdd (mK (.int 230)) (mPk 6)) mNil))))
 (mSeq (mAsg 8 (mCallP dTuple (mConsP (mLC (D3 [some 7,none]) (J0 (mConsP (mCallP dLen (mConsP (mPk 1) mNilP)) mNilP)) (gVar 1) (mTest (mBin deq (mBin FJ (mBin EF (mPk 0) (mBin dAdd (mK (.int 2)) (mPk 1))) (mK (.int 3))) (mK (.int 0)))) (mVar 1)) mNilP)))
 (mSeq (mIf (mTest (mBin deq (mBin FJ (mPk 0) (mK (.int 2))) (mK (.int 1)))) (mSeq (mAsg 8 (mCallP dTuple (mConsP (mLC (D3 [some 5,none]) (J0 (mConsP (mCallP dLen (mConsP (mPk 1) mNilP)) mNilP)) (gVar 1) (mTest (mBin deq (mBin FJ (mBin EF (mPk 0) (mBin dix (mLst (mCons (mK (.int 1)) (mCons (mK (.int 2)) (mCons (mK (.int 4)) (mCons (mK (.int 8)) mNil))))) (mPk 1))) (mK (.int 2))) (mK (.int 1)))) (mVar 1)) mNilP)))
 (mAsg 5 (mBin EF (mPk 5) (mK (.int 16))))) mNext)
 (mSeq (mAsg 9 (mK (.int 1)))
 (mSeq (mFrz 8 (GB (D5 (mVar 8)) (gVar 10) (mAsg 9 (mBin dRep (mPk 9) (mBin dSub (mBin dix (mPk 1) (mPk 10)) (mK (.int 1)))))))
 (mIf (mAnd (mTest (mBin (SA true) (mPk 8) (mPk 3))) (mTest (mBin dLe (mBin dAdd (mPk 4) (mPk 9)) (mPk 2)))) (mSeq (mFrz 8 (mApp 3 (mVar 8)))
 (mAsg 4 (mBin dAdd (mPk 4) (mPk 9)))) mNext)))))))
 (mSeq (mIf (mTest (mBin deq (mCallP dLen (mConsP (mPk 3) mNilP)) (mK (.int 0)))) (mApp 3 (mTup mNil)) mNext)
 (mRet (mPk 3)))))))
def jH:List PyData->Option Sl:=F4 11 b_q9 3
theorem zU (B:Bl mg) (D_q12:Def P w K mg base 1 "_law_mixed" qj (spD K J9)) (F:Fun K "_law_effects" "_law_effects" pI f fd):FnOk P w K mg base CX0 2 f fd qg (spD K jH):=by
 have sc:=rN
 exact fnD F rN rfl rfl fun cdv A outer s H E hr=>
  (A6 (AW 3 (EO AG) sc.nd)
  (A6 (AW 4 AH sc.nd)
  (A6 (AW 5 (ES (A2 0) (DE.dp AH)) sc.nd)
  (A6 (EW B5 (G5 B.range (BU (DE.dp AH) CZ)) (D7 6 sc.nd) (A6 (AW 7 (BA D_q12 hr (A1 (AC 0) (A1 (E3 (DE.dp AH) (A2 6)) AG))) sc.nd)
  (A6 (AW 8 (QH JP QP NW B.tuple (BU (DE.dp (FN (N':= ["_law_number","_law_thing"]) (R':=PR K) CI CH [some 7,none] (D3 [some 7,none]) EK (G5 B.range (BU (DE.dp (FL DD GV GW B.len (BU (A2 1) CZ))) CZ)) (fun _=>(C2 1 (nN ["_law_number","_law_thing"]))) (fun _=>(ZT (MG hr.units (DE.dp (FI (DE.dp (ES (A2 0) (DE.dp (E3 (DE.dp AH) (A2 1))))) (DE.dp AH))) (DE.dp AH)))) (fun _=>(AC 1)))) CZ)) sc.nd)
  (A6 (GO (MG hr.units (DE.dp (FI (A2 0) (DE.dp AH))) (DE.dp AH)) (A6 (AW 8 (QH JP QP NW B.tuple (BU (DE.dp (FN (N':= ["_law_left","_law_thing"]) (R':=PR K) CI CH [some 5,none] (D3 [some 5,none]) EK (G5 B.range (BU (DE.dp (FL DD GV GW B.len (BU (A2 1) CZ))) CZ)) (fun _=>(C2 1 (nN ["_law_left","_law_thing"]))) (fun _=>(ZT (MG hr.units (DE.dp (FI (DE.dp (ES (A2 0) (DE.dp (DF (DE.dp (EO (A1 AH (A1 AH (A1 AH (A1 AH AG)))))) (A2 1))))) (DE.dp AH))) (DE.dp AH)))) (fun _=>(AC 1)))) CZ)) sc.nd)
  (AK (AW 5 (ES (A2 5) (DE.dp AH)) sc.nd))) EQ)
  (A6 (AW 9 AH sc.nd)
  (A6 (CG 8 (EW B5 (F7 (AC 8)) (D7 10 sc.nd) (AK (AW 9 (DM (A2 9) (DE.dp (IH (DE.dp (DF (A2 1) (A2 10))) (DE.dp AH)))) sc.nd))))
  (AK (GO (A11 (vD (eJ hr.units (A2 8) (A2 3)) (nG (sC (DE.dp (E3 (A2 4) (A2 9))) (A2 2))))) (A6 (CG 8 (K2 3 (AC 8)))
  (AK (AW 4 (E3 (A2 4) (A2 9)) sc.nd))) EQ))))))))
  (A6 (GO (MG hr.units (DE.dp (FL DD GV GW B.len (BU (A2 3) CZ))) (DE.dp AH)) (AK (K2 3 (FG AG))) EQ)
  (AK (FW 3)))))))
def b_q7 : En -> Option Out :=
 (mSeq (mIf (mTest (mBin dLt (mPk 1) (mPk 0))) (mRet (mK (.int 1))) mNext)
 (mRet (mBin dRep (mBin dSub (mK (.int 0)) (mPk 0)) (mCallP dInt (mConsP (mBin deq (mPk 1) (mPk 0)) mNilP)))))
def kK:List PyData->Option Sl:=F4 2 b_q7 2
theorem zA (B:Bl mg) (F:Fun K "_law_contrast" "_law_contrast" nH f fd):FnOk P w K mg base CX0 1 f fd qr (spD K kK):=by
 have sc:=qW
 exact fnD F qW rfl rfl fun cdv A outer s H E hr=>
  (A6 (GO (aW (A2 1) (A2 0)) (AK (DR AH)) EQ)
  (AK (DR (DM (DE.dp (IH (DE.dp AH) (A2 0))) (DE.dp (QH d6 wL uK B.int (BU (DE.dp (zD hr.units (A2 1) (A2 0))) CZ)))))))
def b_q6 : En -> Option Out :=
 (mSeq (mAsg 2 (mLst mNil))
 (mSeq (GB (D5 (mVar 1)) (gVar 3) (mSeq (mAsg 4 (mLst (mCons (mTup mNil) mNil)))
 (mSeq (GB (D5 (mVar 3)) (gVar 5) (mSeq (mAsg 6 (mLst mNil))
 (mSeq (mFrz 4 (GB (D5 (mVar 4)) (gVar 7) (mAsg 6 (mBin dAdd (mPk 6) (mLC (D3 [some 7,none]) (NT (mConsP (mK (.int 1)) (mConsP (mBin dix (mPk 0) (mPk 5)) mNilP))) (gVar 1) mYes (mBin dAdd (mPk 0) (mTup (mCons (mVar 1) mNil))))))))
 (mFrz 6 (mAsg 4 (mVar 6))))))
 (mFrz 4 (mAsg 2 (mBin dAdd (mPk 2) (mLC (D3 [some 3,none]) (D5 (mVar 4)) (gVar 1) mYes (mTup (mCons (mVar 0) (mCons (mVar 1) mNil))))))))))
 (mRet (mPk 2))))
def eY:List PyData->Option Sl:=F4 8 b_q6 2
theorem y6 (B:Bl mg) (F:Fun K "_law_columns" "_law_columns" qJ f fd):FnOk P w K mg base CX0 1 f fd qo (spD K eY):=by
 have sc:=qX
 exact fnD F qX rfl rfl fun cdv A outer s H E hr=>
  (A6 (AW 2 (EO AG) sc.nd)
  (A6 (EW B5 (F7 (AC 1)) (D7 3 sc.nd) (A6 (AW 4 (EO (A1 (FG AG) AG)) sc.nd)
  (A6 (EW B5 (F7 (AC 3)) (D7 5 sc.nd) (A6 (AW 6 (EO AG) sc.nd)
  (A6 (CG 4 (EW B5 (F7 (AC 4)) (D7 7 sc.nd) (AK (AW 6 (E3 (A2 6) (DE.dp (FN (N':= ["_law_one","_law_k"]) (R':=PR K) CI CH [some 7,none] (D3 [some 7,none]) EK (OP B.range (BU (DE.dp AH) (BU (DE.dp (DF (A2 0) (A2 5))) CZ))) (fun _=>(C2 1 (nN ["_law_one","_law_k"]))) (fun _=>DN) (fun _=>(E3 (A2 0) (DE.dp (FG (A1 (AC 1) AG)))))))) sc.nd))))
  (AK (CG 6 (AW 4 (AC 6) sc.nd))))))
  (AK (CG 4 (AW 2 (E3 (A2 2) (DE.dp (FN (N':= ["_law_effect","_law_one"]) (R':=PR K) CI CH [some 3,none] (D3 [some 3,none]) EK (F7 (AC 4)) (fun _=>(C2 1 (nN ["_law_effect","_law_one"]))) (fun _=>DN) (fun _=>(FG (A1 (AC 0) (A1 (AC 1) AG))))))) sc.nd))))))
  (AK (FW 2))))
def b_q17 : En -> Option Out :=
 (mSeq (mAsg 3 (mLst mNil))
 (mSeq (GB (D5 (mVar 1)) (gVar 4) (mSeq (mAsg 5 (mLst mNil))
 (mSeq (GB (D5 (mCall eY (mCons (mVar 0) (mCons (mVar 2) mNil)))) (gTupD [(gVar 6),(gVar 7)]) (mSeq (mAsg 8 (mK (.int 1)))
 (mSeq (GB (TW (mCons (mVar 6) (mCons (mVar 7) mNil))) (gTupD [(gVar 9),(gVar 10)]) (mAsg 8 (mBin dRep (mPk 8) (mCall kK (mCons (mVar 10) (mCons (mBin dix (mPk 4) (mPk 9)) mNil))))))
 (mFrz 8 (mApp 5 (mVar 8))))))
 (mFrz 5 (mApp 3 (mVar 5))))))
 (mRet (mPk 3))))
def WQ:List PyData->Option Sl:=F4 11 b_q17 3
theorem vH (B:Bl mg) (D_q6:Def P w K mg base 1 "_law_columns" qo (spD K eY)) (D_q7:Def P w K mg base 1 "_law_contrast" qr (spD K kK)) (F:Fun K "_law_table" "_law_table" aK f fd):FnOk P w K mg base CX0 2 f fd qf (spD K WQ):=by
 have sc:=fU
 exact fnD F fU rfl rfl fun cdv A outer s H E hr=>
  (A6 (AW 3 (EO AG) sc.nd)
  (A6 (EW B5 (F7 (AC 1)) (D7 4 sc.nd) (A6 (AW 5 (EO AG) sc.nd)
  (A6 (EW B5 (F7 (BA D_q6 hr (A1 (AC 0) (A1 (AC 2) AG)))) (RN (GN (D7 6 sc.nd) (GN (D7 7 sc.nd) ND))) (A6 (AW 8 AH sc.nd)
  (A6 (EW B5 (V6 B.zip (A1 (AC 6) (A1 (AC 7) AG))) (RN (GN (D7 9 sc.nd) (GN (D7 10 sc.nd) ND))) (AK (AW 8 (DM (A2 8) (DE.dp (BA D_q7 hr (A1 (AC 10) (A1 (DF (A2 4) (A2 9)) AG))))) sc.nd)))
  (AK (CG 8 (K2 5 (AC 8)))))))
  (AK (CG 5 (K2 3 (AC 5)))))))
  (AK (FW 3))))
def b_q5 : En -> Option Out :=
 (mSeq (mAsg 1 (mLst (mCons (mTup mNil) mNil)))
 (mSeq (GB (D5 (mVar 0)) (gVar 2) (mSeq (mAsg 3 (mLst mNil))
 (mSeq (mFrz 1 (GB (D5 (mVar 1)) (gVar 4) (mAsg 3 (mBin dAdd (mPk 3) (mLC (D3 [some 4,none]) (J0 (mConsP (mPk 2) mNilP)) (gVar 1) mYes (mBin dAdd (mPk 0) (mTup (mCons (mVar 1) mNil))))))))
 (mFrz 3 (mAsg 1 (mVar 3))))))
 (mRet (mPk 1))))
def iX:List PyData->Option Sl:=F4 5 b_q5 1
theorem yH (B:Bl mg) (F:Fun K "_law_all" "_law_all" pF f fd):FnOk P w K mg base CX0 1 f fd qib (spD K iX):=by
 have sc:=r6
 exact fnD F r6 rfl rfl fun cdv A outer s H E hr=>
  (A6 (AW 1 (EO (A1 (FG AG) AG)) sc.nd)
  (A6 (EW B5 (F7 (AC 0)) (D7 2 sc.nd) (A6 (AW 3 (EO AG) sc.nd)
  (A6 (CG 1 (EW B5 (F7 (AC 1)) (D7 4 sc.nd) (AK (AW 3 (E3 (A2 3) (DE.dp (FN (N':= ["_law_one","_law_step"]) (R':=PR K) CI CH [some 4,none] (D3 [some 4,none]) EK (G5 B.range (BU (A2 2) CZ)) (fun _=>(C2 1 (nN ["_law_one","_law_step"]))) (fun _=>DN) (fun _=>(E3 (A2 0) (DE.dp (FG (A1 (AC 1) AG)))))))) sc.nd))))
  (AK (CG 3 (AW 1 (AC 3) sc.nd))))))
  (AK (FW 1))))
def b_q15 : En -> Option Out :=
 (mSeq (mAsg 2 (mLst mNil))
 (mSeq (mAsg 3 (mBin EF (mPk 0) (mK (.int 2))))
 (mSeq (GB (J0 (mConsP (mPk 1) mNilP)) (gVar 4) (mSeq (mAsg 5 (mCall J9 (mCons (mVar 0) (mCons (mBin dAdd (mK (.int 300)) (mPk 4)) mNil))))
 (mSeq (mApp 2 (mBin dSub (mBin FJ (mBin EF (mPk 5) (mK (.int 7))) (mK (.int 41))) (mK (.int 20))))
 (mSeq (mIf (mTest (mBin deq (mBin FJ (mPk 5) (mK (.int 7))) (mK (.int 0)))) (mSet 2 (mPk 4) (mBin dSub (mBin FJ (mBin dRep (mPk 5) (mPk 5)) (mBin dRep (mK (.int 2)) (mBin VT (mK (.int 10)) (mK (.int 12))))) (mBin VT (mK (.int 10)) (mK (.int 12))))) mNext)
 (mIf (mTest (mBin deq (mBin FJ (mPk 0) (mK (.int 2))) (mK (.int 1)))) (mSeq (mSet 2 (mPk 4) (mBin dSub (mBin FJ (mPk 3) (mK (.int 41))) (mK (.int 20))))
 (mAsg 3 (mBin EF (mPk 3) (mK (.int 41))))) mNext)))))
 (mRet (mPk 2)))))
def XD:List PyData->Option Sl:=F4 6 b_q15 2
theorem tM (B:Bl mg) (D_q12:Def P w K mg base 1 "_law_mixed" qj (spD K J9)) (F:Fun K "_law_results" "_law_results" aC f fd):FnOk P w K mg base CX0 2 f fd qz (spD K XD):=by
 have sc:=kI
 exact fnD F kI rfl rfl fun cdv A outer s H E hr=>
  (A6 (AW 2 (EO AG) sc.nd)
  (A6 (AW 3 (ES (A2 0) (DE.dp AH)) sc.nd)
  (A6 (EW B5 (G5 B.range (BU (A2 1) CZ)) (D7 4 sc.nd) (A6 (AW 5 (BA D_q12 hr (A1 (AC 0) (A1 (E3 (DE.dp AH) (A2 4)) AG))) sc.nd)
  (A6 (K2 2 (IH (DE.dp (FI (DE.dp (ES (A2 5) (DE.dp AH))) (DE.dp AH))) (DE.dp AH)))
  (A6 (GO (MG hr.units (DE.dp (FI (A2 5) (DE.dp AH))) (DE.dp AH)) (AK (PQ 2 (IH (DE.dp (FI (DE.dp (DM (A2 5) (A2 5))) (DE.dp (DM (DE.dp AH) (DE.dp (gZ (DE.dp AH) (DE.dp AH))))))) (DE.dp (gZ (DE.dp AH) (DE.dp AH)))) (A2 4))) EQ)
  (AK (GO (MG hr.units (DE.dp (FI (A2 0) (DE.dp AH))) (DE.dp AH)) (A6 (PQ 2 (IH (DE.dp (FI (A2 3) (DE.dp AH))) (DE.dp AH)) (A2 4))
  (AK (AW 3 (ES (A2 3) (DE.dp AH)) sc.nd))) EQ))))))
  (AK (FW 2)))))
def b_q8 : En -> Option Out :=
 (mSeq (mAsg 4 (mCall WQ (mCons (mVar 0) (mCons (mVar 1) (mCons (mLst (mCons (mVar 2) mNil)) mNil)))))
 (mSeq (mAsg 5 (mTup (mCons (mK (.int 0)) (mCons (mK (.int 1)) mNil))))
 (mSeq (GB (J0 (mConsP (mCallP dLen (mConsP (mBin dix (mPk 4) (mK (.int 0))) mNilP)) mNilP)) (gVar 6) (mSeq (mFrz 4 (mAsg 7 (mCallP dSum (mConsP (mLC (D3 [some 6,none,none]) (TW (mCons (mVar 4) (mCons (mVar 3) mNil))) (gTupD [(gVar 1),(gVar 2)]) mYes (mBin dRep (mBin dix (mPk 1) (mPk 0)) (mPk 2))) mNilP))))
 (mFrz 5 (mFrz 4 (mAsg 5 (mCall QT (mCons (mVar 5) (mCons (mCall OW (mCons (mBin dRep (mPk 7) (mPk 7)) (mCons (mCallP dSum (mConsP (mLC (D3 [some 6,none]) (D5 (mVar 4)) (gVar 1) mYes (mBin dRep (mBin dix (mPk 1) (mPk 0)) (mBin dix (mPk 1) (mPk 0)))) mNilP)) mNil))) mNil))))))))
 (mRet (mPk 5)))))
def dN:List PyData->Option Sl:=F4 8 b_q8 4
theorem zB (B:Bl mg) (D_q17:Def P w K mg base 2 "_law_table" qf (spD K WQ)) (D_q14:Def P w K mg base 2 "_law_plus" ql (spD K QT)) (D_q10:Def P w K mg base 1 "_law_fraction" qp (spD K OW)) (F:Fun K "_law_due" "_law_due" nV f fd):FnOk P w K mg base CX0 3 f fd qd (spD K dN):=by
 have sc:=rZ
 exact fnD F rZ rfl rfl fun cdv A outer s H E hr=>
  (A6 (AW 4 (BA D_q17 hr (A1 (AC 0) (A1 (AC 1) (A1 (EO (A1 (AC 2) AG)) AG)))) sc.nd)
  (A6 (AW 5 (FG (A1 AH (A1 AH AG))) sc.nd)
  (A6 (EW B5 (G5 B.range (BU (DE.dp (FL DD GV GW B.len (BU (DE.dp (DF (A2 4) (DE.dp AH))) CZ))) CZ)) (D7 6 sc.nd) (A6 (CG 4 (AW 7 (FL (LD rfl) QX bt_sum B.sum (BU (DE.dp (FN (N':=qjb) (R':=PR K) CI CH [some 6,none,none] (D3 [some 6,none,none]) EK (V6 B.zip (A1 (AC 4) (A1 (AC 3) AG))) (fun _=>(NC (G4 (C2 1 (nN qjb)) (G4 (C2 2 (nN qjb)) KW)))) (fun _=>DN) (fun _=>(DM (DE.dp (DF (A2 1) (A2 0))) (A2 2))))) CZ)) sc.nd))
  (AK (CG 5 (CG 4 (AW 5 (BA D_q14 hr (A1 (AC 5) (A1 (BA D_q10 hr (A1 (DM (A2 7) (A2 7)) (A1 (FL (LD rfl) QX bt_sum B.sum (BU (DE.dp (FN (N':= ["_law_j","_law_row"]) (R':=PR K) CI CH [some 6,none] (D3 [some 6,none]) EK (F7 (AC 4)) (fun _=>(C2 1 (nN ["_law_j","_law_row"]))) (fun _=>DN) (fun _=>(DM (DE.dp (DF (A2 1) (A2 0))) (DE.dp (DF (A2 1) (A2 0))))))) CZ)) AG))) AG))) sc.nd))))))
  (AK (FW 5)))))
def b_q13 : En -> Option Out :=
 (mSeq (mAsg 2 (mCallP dList (mConsP (mPk 1) mNilP)))
 (mSeq (mAsg 3 (mLst mNil))
 (mSeq (J8 (mTest (mBin dGt (mCallP dLen (mConsP (mPk 2) mNilP)) (mK (.int 0)))) (mSeq (mAsg 4 (mBin FJ (mCall J9 (mCons (mVar 0) (mCons (mBin dAdd (mK (.int 310)) (mCallP dLen (mConsP (mPk 2) mNilP))) mNil))) (mCallP dLen (mConsP (mPk 2) mNilP))))
 (mSeq (mApp 3 (mBin dix (mPk 2) (mPk 4)))
 (mAsg 2 (mBin dAdd (mSl (mPk 2) mNoPart (mPart (mPk 4))) (mSl (mPk 2) (mPart (mBin dAdd (mPk 4) (mK (.int 1)))) mNoPart))))))
 (mRet (mPk 3)))))
def U0:List PyData->Option Sl:=F4 5 b_q13 2
theorem tU (B:Bl mg) (D_q12:Def P w K mg base 1 "_law_mixed" qj (spD K J9)) (F:Fun K "_law_other_order" "_law_other_order" Z4 f fd):FnOk P w K mg base CX0 2 f fd qu (spD K U0):=by
 have sc:=jD
 exact fnD F jD rfl rfl fun cdv A outer s H E hr=>
  (A6 (AW 2 (QH K8 UP UW B.list (BU (A2 1) CZ)) sc.nd)
  (A6 (AW 3 (EO AG) sc.nd)
  (A6 (RK B5 (rF (DE.dp (FL DD GV GW B.len (BU (A2 2) CZ))) (DE.dp AH)) (A6 (AW 4 (FI (DE.dp (BA D_q12 hr (A1 (AC 0) (A1 (E3 (DE.dp AH) (DE.dp (FL DD GV GW B.len (BU (A2 2) CZ)))) AG)))) (DE.dp (FL DD GV GW B.len (BU (A2 2) CZ)))) sc.nd)
  (A6 (K2 3 (DF (A2 2) (A2 4)))
  (AK (AW 2 (E3 (DE.dp (TK (A2 2) M3 (LM (A2 4)))) (DE.dp (TK (A2 2) (LM (DE.dp (E3 (A2 4) (DE.dp AH)))) M3))) sc.nd)))))
  (AK (FW 3)))))
def b_q16 : En -> Option Out :=
 (mSeq (mAsg 1 (mCall VR (mCons (mVar 0) (mCons (mK (.int 12)) mNil))))
 (mSeq (mFrz 1 (mAsg 2 (mCall jH (mCons (mBin EF (mPk 0) (mK (.int 4))) (mCons (mVar 1) (mCons (mK (.int 6)) mNil))))))
 (mSeq (mFrz 1 (mAsg 3 (mCall iX (mCons (mVar 1) mNil))))
 (mSeq (mAsg 4 (mCall XD (mCons (mBin EF (mPk 0) (mK (.int 3))) (mCons (mCallP dLen (mConsP (mPk 3) mNilP)) mNil))))
 (mSeq (mFrz 4 (mAsg 5 (mTup (mCons (mCallP dSum (mConsP (mLC (D3 [none]) (D5 (mVar 4)) (gVar 0) mYes (mBin dRep (mPk 0) (mPk 0))) mNilP)) (mCons (mK (.int 1)) mNil)))))
 (mSeq (mAsg 6 mDNew)
 (mSeq (mFrz 2 (GB (D5 (mVar 2)) (gVar 7) (mSeq (mFrz 4 (mFrz 3 (mFrz 1 (XB 6 (mPk 7) (mCall dN (mCons (mVar 1) (mCons (mVar 3) (mCons (mVar 7) (mCons (mVar 4) mNil)))))))))
 (mFrz 5 (mAsg 5 (mCall QT (mCons (mVar 5) (mCons (mTup (mCons (mBin dSub (mK (.int 0)) (mBin dix (mBin KR (mPk 6) (mPk 7)) (mK (.int 0)))) (mCons (mBin dix (mBin KR (mPk 6) (mPk 7)) (mK (.int 1))) mNil))) mNil))))))))
 (mSeq (mFrz 2 (XC 6 (GB (D5 (mLst (mCons (mVar 2) (mCons (mCall U0 (mCons (mVar 0) (mCons (mVar 2) mNil))) mNil)))) (gVar 8) (mFrz 4 (mFrz 3 (mFrz 1 (mFrz 5 (mIf (mTest (mBin dne (mCall T7 (mCons (mVar 1) (mCons (mVar 3) (mCons (mVar 8) (mCons (mVar 4) mNil))))) (mBin dAdd (mLC (D3 [some 6,none]) (D5 (mVar 8)) (gVar 1) mYes (mTup (mCons (mVar 1) (mCons (mBin KR (mPk 0) (mPk 1)) mNil)))) (mLst (mCons (mTup (mCons (mK (.str "left")) (mCons (mVar 5) mNil))) mNil))))) (mRet (mK (.bool false))) mNext))))))))
 (mRet (mK (.bool true)))))))))))
def VM:List PyData->Option Sl:=F4 9 b_q16 1
theorem v8 (B:Bl mg) (D_q11:Def P w K mg base 2 "_law_levels" qy (spD K VR)) (D_q9:Def P w K mg base 2 "_law_effects" qg (spD K jH)) (D_q5:Def P w K mg base 1 "_law_all" qib (spD K iX)) (D_q15:Def P w K mg base 2 "_law_results" qz (spD K XD)) (D_q8:Def P w K mg base 3 "_law_due" qd (spD K dN)) (D_q14:Def P w K mg base 2 "_law_plus" ql (spD K QT)) (D_q13:Def P w K mg base 2 "_law_other_order" qu (spD K U0)) (D_q36:Def P w K mg base 11 "squares" qb (spD K T7)) (F:Fun K "_law_right" "_law_right" bY f fd):FnOk P w K mg base CX0 12 f fd ["_law_cell"] (spD K VM):=by
 have sc:=jK
 exact fnD F jK rfl rfl fun cdv A outer s H E hr=>
  (A6 (AW 1 (BA D_q11 hr (A1 (AC 0) (A1 AH AG))) sc.nd)
  (A6 (CG 1 (AW 2 (BA D_q9 hr (A1 (ES (A2 0) (DE.dp AH)) (A1 (AC 1) (A1 AH AG)))) sc.nd))
  (A6 (CG 1 (AW 3 (BA D_q5 hr (A1 (AC 1) AG)) sc.nd))
  (A6 (AW 4 (BA D_q15 hr (A1 (ES (A2 0) (DE.dp AH)) (A1 (FL DD GV GW B.len (BU (A2 3) CZ)) AG))) sc.nd)
  (A6 (CG 4 (AW 5 (FG (A1 (FL (LD rfl) QX bt_sum B.sum (BU (DE.dp (FN (N':= ["_law_one"]) (R':=PR K) CI CH [none] (D3 [none]) EK (F7 (AC 4)) (fun _=>(C2 0 (nN ["_law_one"]))) (fun _=>DN) (fun _=>(DM (A2 0) (A2 0))))) CZ)) (A1 AH AG))) sc.nd))
  (A6 (AW 6 nO sc.nd)
  (A6 (CG 2 (EW B5 (F7 (AC 2)) (D7 7 sc.nd) (A6 (CG 4 (CG 3 (CG 1 (pY (ZG hr) 6 (A2 7) (BA D_q8 hr (A1 (AC 1) (A1 (AC 3) (A1 (AC 7) (A1 (AC 4) AG)))))))))
  (AK (CG 5 (AW 5 (BA D_q14 hr (A1 (AC 5) (A1 (FG (A1 (IH (DE.dp AH) (DE.dp (DF (DE.dp (U3 (ZG hr) (A2 6) (A2 7))) (DE.dp AH)))) (A1 (DF (DE.dp (U3 (ZG hr) (A2 6) (A2 7))) (DE.dp AH)) AG))) AG))) sc.nd))))))
  (A6 (CG 2 (pA 6 (EW B5 (F7 (EO (A1 (AC 2) (A1 (BA D_q13 hr (A1 (AC 0) (A1 (AC 2) AG))) AG)))) (D7 8 sc.nd) (AK (CG 4 (CG 3 (CG 1 (CG 5 (GO (aD hr.units (DE.dp (BA D_q36 hr (A1 (AC 1) (A1 (AC 3) (A1 (AC 8) (A1 (AC 4) AG)))))) (DE.dp (E3 (DE.dp (FN (N':= ["_law_due_here","_law_effect"]) (R':=PR K) CI CH [some 6,none] (D3 [some 6,none]) EK (F7 (AC 8)) (fun _=>(C2 1 (nN ["_law_due_here","_law_effect"]))) (fun _=>DN) (fun _=>(FG (A1 (AC 1) (A1 (U3 (ZG hr) (A2 0) (A2 1)) AG)))))) (DE.dp (EO (A1 (FG (A1 UU (A1 (AC 5) AG))) AG)))))) (AK (DR PZ)) EQ)))))))))
  (AK (DR PZ))))))))))
def b_law : En -> Option Out :=
 (mSeq (GB (D5 (mBin dAdd (mSl (mPk 0) mNoPart (mPart (mK (.int 2)))) (mLst (mCons (mK (.int 0)) mNil)))) (gVar 1) (mIf (mNot (mTest (mCall VM (mCons (mVar 1) mNil)))) (mRet (mK (.bool false))) mNext))
 (mRet (mK (.bool true))))
def rT:List PyData->Option Sl:=F4 2 b_law 1
theorem tZ (B:Bl mg) (D_q16:Def P w K mg base 12 "_law_right" ["_law_cell"] (spD K VM)) (F:Fun K "law" "law" S3 f fd):FnOk P w K mg base CX0 13 f fd qpb (spD K rT):=by
 have sc:=iT
 exact fnD F iT rfl rfl fun cdv A outer s H E hr=>
  (A6 (EW B5 (F7 (E3 (DE.dp (TK (A2 0) M3 (LM (DE.dp AH)))) (DE.dp (EO (A1 AH AG))))) (D7 1 sc.nd) (AK (GO (vU (vI (DE.dp (BA D_q16 hr (A1 (AC 1) AG))))) (AK (DR PZ)) EQ)))
  (AK (DR PZ)))
end
local macro_rules | `(tactic| walk_at "ev") => `(tactic| simp only [mSeq, mIf, mTest, mBin, mUn, mK, mPk, mVar, mAsg, mRet, mRetN, mCall, mCons, mNil, mCallP, mConsP, mNilP, mTup, mLst, mOr, mAnd, mNot, mNotV, mAndV, mOrV, mIfE, mNext, mBrk, mCt, mDrop, mApp, mSet, mFrz, frz1, mPar, mAsgT, gVar, gTupD, gsAll, mItems, mItemsT, mSl, mPart, mNoPart, mDat, Sl.dat, mYes, mIsi, tyD, isiD, iop, icmp, iun, dAddI, dSub, dAdd, dLt, dLe, dGt, dGe, deq, dne, disN, disNN, isNone, dix, dLen, dAbs, dList, dTuple, dInt, dSl, BQ, F6, DY, M8, CM, BX, GJ, GL, C8, List.length_nil, eqD_int, JK, List.nil_append, DV, CT, sG, HS, VC, Bool.false_eq_true, reduceIte, reduceCtorEq, Bool.not_true, Bool.not_false, decide_true, decide_false])
theorem Y8(a b:Int):NG [.int a, .int b]=some (.val (.int (Int.gcd a b))):=by
 refine FF (ρ:= [some (.val (.int a)),some (.val (.int b)),none]) rfl rfl ?_;unfold b_q29
 obtain ⟨ρ',h1,⟨x,y,r,rfl,hg⟩,h3⟩:=TR (c:=mTest (mBin dne (mPk 1) (mK (.int 0)))) (b:=(mSeq (mAsg 2 (mBin FJ (mPk 0) (mPk 1))) (mSeq (mAsg 0 (mVar 1)) (mFrz 2 (mAsg 1 (mVar 2))))))
  (ρ:= [some (.val (.int a)),some (.val (.int b)),none]) (fun ρ=>∃x y r,ρ = [some (.val (.int x)),some (.val (.int y)),r]/\Int.gcd x y=Int.gcd a b)
  (fun ρ=>match ρ with | [_,some (.val (.int y)),_]=>y.natAbs | _=>0) ⟨a,b,none,rfl,rfl⟩ (by
   rintro ρ ⟨x,y,r,rfl,hg⟩
   by_cases hy:y=0
   . left
     walk_at "ev"
     simp [hy]
   . right;refine ⟨by walk_at "ev";simp [hy],_,by walk_at "ev";rw [M6 hy];walk_at "ev";rfl,⟨_,_,_,rfl,(WS x y).trans hg⟩,aB hy⟩)
 refine FC h1 (GF ?_)
 have hy:y=0:=by
  revert h3
  walk_at "ev"
  simp
 subst hy
 walk_at "ev"
 congr 3
 rw [<-hg,A06]
 split <;> omega
theorem RW{a b:Int}(hb:b≠0)(hB:Bt 9000 b):NO [.int a, .int b]=some (.val (BL (fr a b))):=by
 refine FF (ρ:= [some (.val (.int a)),some (.val (.int b)),none]) rfl rfl ?_;unfold b_q27;have hs:=SX (a:=a) hb;have hS:=rL (a:=a) hb hB;refine FC (EL (BF (by walk_at "ev") (Y8 a b))) ?_;refine FC (ρ':= [some (.val (.int a)),some (.val (.int b)),some (.val (.int (sg a b)))]) ?_ ?_
 . walk_at "ev"
   unfold sg
   by_cases h:b<0 <;> simp [h]
 . refine GF ?_
   walk_at "ev"
   rw [PK ⟨hs,hS⟩,PK ⟨hs,hS⟩]
   walk_at "ev"
   rfl
open Ba in
def CJ(m:Nat)(r:Nat->Int):PyData:= .list ((List.range m).map fun j=> .int (r j))
def CU(n m:Nat)(R:Ba.Mx):List PyData:=(List.range n).map fun i=>CJ m (R i)
def ldD(k:Nat)(L:Nat->Nat):List PyData:=(List.range k).map fun t=> .int (L t)
def MN(n m:Nat)(R:Ba.Mx)(k:Nat)(L:Nat->Nat)(last:Int):En:= [some (.own (CU n m R)),some (.own (ldD k L)),some (.val (.int last))]
theorem GY{α:Type}{f:Nat->α}{n i:Nat}(h:i<n):atI ((List.range n).map f) (i:Int)=some (f i):=L2.atI_nat (by rw [AS,BO h];rfl)
theorem Q4{n m i:Nat}{R:Ba.Mx}(h:i<n):atI (CU n m R) (i:Int)=some (CJ m (R i)):=GY h
theorem Q7{n m:Nat}{R:Ba.Mx}:(CU n m R).length=n:=by simp [CU]
theorem V5{k:Nat}{L:Nat->Nat}:(ldD k L).length=k:=by simp [ldD]
theorem OI{α:Type}{f:Nat->α}{n k:Nat}{x:α}:((List.range n).map f).set k x=(List.range n).map fun i=>if i=k then x else f i:=by
 refine VE fun i=> ?_;rw [List.getElem?_set,AS,AS]
 by_cases hi:i<n
 . rw [BO hi]
   by_cases e:k=i
   . subst e;simp [hi]
   . simp [e,HQ e]
 . rw [BZ (l:=List.range n) (by simpa using hi)]
   split
   . rename_i e;subst e;simp [hi]
   . rfl
theorem bW{n m k:Nat}{R:Ba.Mx}{r:Nat->Int}:(CU n m R).set k (CJ m r)=CU n m (Ba.setR R k r):=by
 unfold CU;rw [OI];refine List.map_congr_left fun i _=> ?_;unfold Ba.setR
 split <;> rfl
def stP(n m k c:Nat)(R:Ba.Mx)(L:Nat->Nat)(last:Int)(z:Option Sl):En:= [none,some (.val (.int k)),some (.val (.int c)),z,some (.own (CU n m R)),some (.own (ldD k L)),some (.val (.int last))]
theorem WX{n m k c:Nat}{R:Ba.Mx}{L:Nat->Nat}{last:Int}(hk:k<=n)(hn:n<=1000):NT (mConsP (mPk 1) (mConsP (mCallP dLen (mConsP (mPk 4) mNilP)) mNilP)) (stP n m k c R L last none)=some (G8 k (n - k)):=by
 refine V7 ?_ (by omega) hn;unfold stP
 walk_at "ev"
 rw [Q7]
theorem YG{n m k c i:Nat}{R:Ba.Mx}{L:Nat->Nat}{last:Int}(hi:i<n)(hc:c<m):(mTest (mBin dne (mBin dix (mBin dix (mPk 4) (mPk 3)) (mPk 2)) (mK (.int 0)))) (stP n m k c R L last (some (.val (.int (i:Int)))))=some (!decide (R i c=0)):=by
 unfold stP
 walk_at "ev"
 rw [Q4 hi];simp only [CJ,F6,BQ,Sl.dat,GY hc,eqD_int]
theorem dH {n m k c : Nat} {R : Ba.Mx} {L : Nat -> Nat} {last : Int} (hk : k <= n) (hc : c < m) (hn : n <= 1000) :
 (∃p,k<=p/\p<n/\R p c≠0/\WE (MN n m R k L last) [.int k, .int c]=some (MN n m R k L last, .int p)) \/
 ((∀i,k<=i->i<n->R i c=0)/\WE (MN n m R k L last) [.int k, .int c]=some (MN n m R k L last, .none)):=by
 have key:=cR (fg:=gVar 3) (gb:=mIf (mTest (mBin dne (mBin dix (mBin dix (mPk 4) (mPk 3)) (mPk 2)) (mK (.int 0)))) (mRet (mPk 3)) mNext) (lo:=k) (n:=n - k) (ρ:=stP n m k c R L last none)
  (fun i ρ=>(∃z,ρ=stP n m k c R L last z)/\∀t,t<i->R (k+t) c=0) (fun o=>∃p z,k<=p/\p<n/\R p c≠0/\o = .rt (.val (.int (p:Nat))) (stP n m k c R L last z)) ⟨⟨none,rfl⟩,fun t h=>absurd h (by omega)⟩ (by
   rintro i ρ hi ⟨⟨z,rfl⟩,hz⟩;refine ⟨stP n m k c R L last (some (.val (.int ((k:Int)+(i:Nat))))),rfl,?_⟩;have e:(k:Int)+(i:Nat)=((k+i:Nat):Int):=by omega
   rw [e];have test:=YG (k:=k) (i:=k+i) (R:=R) (L:=L) (last:=last) (show k+i<n by omega) hc
   by_cases h:R (k+i) c=0
   . left;refine ⟨stP n m k c R L last (some (.val (.int ((k+i:Nat):Int)))),PB (b:=false) (by rw [test];simp [h]) (by rfl),⟨_,rfl⟩,fun t ht=> ?_⟩
     by_cases e2:t=i
     . subst e2;exact h
     . exact hz t (by omega)
   . right;exact ⟨.val (.int ((k+i:Nat):Int)),stP n m k c R L last (some (.val (.int ((k+i:Nat):Int)))),PB (b:=true) (by rw [test];simp [h]) (by rfl),k+i,_,by omega,by omega,h,rfl⟩)
 rcases key with ⟨ρ',h1,⟨z,rfl⟩,h2⟩ | ⟨o,h1,p,z,hp,hpn,hr,rfl⟩
 . right;refine ⟨fun i h3 h4=>by have:=h2 (i - k) (by omega);rwa [show k+(i - k)=i by omega] at this,?_⟩;exact PN (ρ:=stP n m k c R L last none) (ρ':=stP n m k c R L last z) rfl rfl rfl (FT (MW (WX hk hn) h1) (jI rfl))
 . left;refine ⟨p,hp,hpn,hr,?_⟩;exact PN (ρ:=stP n m k c R L last none) (ρ':=stP n m k c R L last z) rfl rfl rfl (XO (MW (WX hk hn) h1))
theorem UR{n m i:Nat}{R:Ba.Mx}(h:i<n):dix (.own (CU n m R)) (.val (.int (i:Int)))=some (.val (CJ m (R i))):=by
 show (atI (CU n m R) (i:Int)).map Sl.val=_;rw [Q4 h];rfl
theorem LU{m j:Nat}{r:Nat->Int}(h:j<m):dix (.val (CJ m r)) (.val (.int (j:Int)))=some (.val (.int (r j))):=by
 show (atI ((List.range m).map fun j=>PyData.int (r j)) (j:Int)).map Sl.val=_;rw [GY h];rfl
theorem PP{n k:Nat}(h:k<n):ixN n (k:Int)=some k:=by
 unfold ixN;rw [if_pos (by omega),if_pos (by omega)];simp
theorem fW {n m k p t : Nat} {R : Ba.Mx} {L : Nat -> Nat} {last : Int} (hk : k < n) (hp : p < n) (hm : m <= 1000) :
 eI (MN n m R t L last) [.int k, .int p]=some (MN n m (if p=k then R else Ba.exch R k p) t L last, .none):=by
 by_cases e:p=k
 . subst e;rw [if_pos rfl];refine PN (ρ:= [none,some (.val (.int (p:Nat))),some (.val (.int (p:Nat))),none,some (.own (CU n m R)),some (.own (ldD t L)),some (.val (.int last))]) (ρ':= [none,some (.val (.int (p:Nat))),some (.val (.int (p:Nat))),none,some (.own (CU n m R)),some (.own (ldD t L)),some (.val (.int last))]) rfl rfl rfl ?_;unfold b_q1;refine XO (PB (b:=true) ?_ rfl)
   walk_at "ev"
 . rw [if_neg e];refine UB (ρ:= [none,some (.val (.int (k:Nat))),some (.val (.int (p:Nat))),none,some (.own (CU n m R)),some (.own (ldD t L)),some (.val (.int last))]) (ρ':= [none,some (.val (.int (k:Nat))),some (.val (.int (p:Nat))),some (.val (CJ m fun j=> - R k j)),some (.own (CU n m (Ba.exch R k p))),some (.own (ldD t L)),some (.val (.int last))]) rfl rfl rfl ?_;unfold b_q1;refine FT (PB (b:=false) ?_ rfl) ?_
   . walk_at "ev"
     have:¬((p:Int)=(k:Int)):=by omega
     simp [this]
   refine FT (EL (EX (ds:=(List.range m).map fun j=> .int (R k j)) (es:=(List.range m).map fun j=> .int (- R k j)) ?_ ?_ ?_)) ?_
   . simp only [mItems,mBin,mPk,CM,BX,DY,BQ,UR hk];rfl
   . rw [A4,AE];have:1000<sizeLine:=by decide
     omega
   . refine CA fun j _=> ?_;rfl
   refine FT (ρ':= [none,some (.val (.int (k:Nat))),some (.val (.int (p:Nat))),some (.own ((List.range m).map fun j=> .int (- R k j))),some (.own (CU n m (Ba.setR R k (R p)))),some (.own (ldD t L)),some (.val (.int last))]) ?_ ?_
   . simp only [mSet,mBin,mPk,GL,GJ,CM,BX,DY,BQ,UR hp,Q7,PP hk,F6,Sl.dat,bW]
   . simp only [mFrz,frz1,mSet,mVar,mPk,GL,GJ,CM,BX,DY,BQ,Q7,PP hp,F6,Sl.dat];show some (Out.nx [none,some (.val (.int (k:Nat))),some (.val (.int (p:Nat))),some (.val (CJ m fun j=> - R k j)),some (.own ((CU n m (Ba.setR R k (R p))).set p (CJ m fun j=> - R k j))),some (.own (ldD t L)),some (.val (.int last))])=_;rw [bW];rfl
theorem HY{m:Nat}{f g:Nat->PyData}:IX ((List.range m).map f) ((List.range m).map g)=(List.range m).map fun j=> .tuple [f j,g j]:=by
 unfold IX;refine List.ext_getElem? fun i=> ?_;rw [List.getElem?_zipWith,List.getElem?_map,List.getElem?_map,List.getElem?_map]
 cases h:(List.range m)[i]? <;> rfl
theorem WH {m c : Nat} {r l : Nat -> Int} {last : Int} (hc : c < m) (hm : m <= 1000) (hr : ∀ j, j < m -> Bt 4000 (r j)) (hl : ∀ j, j < m -> Bt 4000 (l j)) (h0 : last ≠ 0) (hB : Bt 9000 last) :
 WO [CJ m r,CJ m l, .int c, .int last]=some (.own ((List.range m).map fun j=> .int ((l c*r j - r c*l j).fdiv last))):=by
 have M:∀ {i j:Int},Bt 4000 i->Bt 4000 j->NS i j:=fun h k=> .inr (IC h k rfl);refine FF (ρ:= [some (.val (CJ m r)),some (.val (CJ m l)),some (.val (.int (c:Nat))),some (.val (.int last)),none,none]) rfl rfl ?_;unfold b_q20;refine FC (EL (r:= .val (.int (l c))) ?_) ?_
 . simp only [mBin,mPk,CM,BX,DY,BQ,LU hc]
 refine FC (EL (r:= .val (.int (r c))) ?_) ?_
 . simp only [mBin,mPk,GL,GJ,CM,BX,DY,BQ,LU hc]
 refine GF (EX (ds:=(List.range m).map fun j=> .tuple [.int (r j), .int (l j)]) ?_ ?_ ?_)
 . rw [<-HY];rfl
 . rw [A4,AE];have:1000<sizeLine:=by decide
   omega
 . refine CA fun j hj=> ?_;have hj:=List.mem_range.mp hj;show elM _ _ _ [some (.val (.int (l c))),some (.val (.int (r c))),some (.val (.int last)),none,none] _=_;unfold elM
   walk_at "ev"
   rw [FM (M (hl c hc) (hr j hj)),FM (M (hr c hc) (hl j hj))]
   walk_at "ev"
   rw [PK ⟨h0,hB⟩]
   walk_at "ev"
theorem jM{f:Nat->PyData}{n k:Nat}(h:k<=n):L4 ((List.range n).map f) (some (k:Int)) none=(List.range (n - k)).map fun i=>f (k+i):=by
 unfold L4;rw [HT.sIx_none,HT.sIx_nat,List.length_map,List.length_range,Nat.min_eq_left h];refine List.ext_getElem? fun i=> ?_;rw [List.getElem?_take,List.getElem?_drop,List.getElem?_map,List.getElem?_map]
 by_cases hi:i<n - k
 . rw [AN hi,BO hi,BO (show k+i<n by omega)];rfl
 . rw [AR hi,BZ (l:=List.range (n - k)) (by simpa using hi)];rfl
theorem fE{f:Nat->PyData}{n k:Nat}(h:k<=n):L4 ((List.range n).map f) none (some (k:Int))=(List.range k).map f:=by
 unfold L4;rw [HT.sIx_none,HT.sIx_nat,List.length_map,List.length_range,Nat.min_eq_left h,List.drop_zero,Nat.sub_zero];refine List.ext_getElem? fun i=> ?_;rw [List.getElem?_take,List.getElem?_map,List.getElem?_map]
 by_cases hi:i<k
 . rw [AN hi,BO hi,BO (show i<n by omega)]
 . rw [AR hi,BZ (l:=List.range k) (by simpa using hi)];rfl
theorem dZ{f g:Nat->PyData}{n k:Nat}(h:k<=n):(List.range k).map f++(List.range (n - k)).map (fun i=>g (k+i))=(List.range n).map fun i=>if i<k then f i else g i:=by
 refine VE fun i=> ?_;rw [AS]
 by_cases hi:i<k
 . rw [A9 (by simpa using hi),AS,BO hi,BO (show i<n by omega)];simp [hi]
 . rw [A3 (by simpa using hi),AS,A4,AE]
   by_cases h2:i<n
   . rw [BO h2,BO (show i - k<n - k by omega)];simp only [F6,AR hi,show k+(i - k)=i by omega]
   . rw [BZ (l:=List.range (n - k)) (by simp;omega),BZ (l:=List.range n) (by simp;omega)];rfl
theorem oS{k c:Nat}{L:Nat->Nat}:ldD k L ++ [.int (c:Int)]=ldD (k+1) (fun t=>if t=k then c else L t):=by
 unfold ldD;rw [List.range_succ,List.map_append];congr 1
 . refine BC fun t ht=> ?_;have:=C5.mp ht;show _=PyData.int ((if t=k then c else L t:Nat):Int);rw [AR (by omega)]
 . simp
theorem bU{x:Int}{Y n:Nat}(h:x.natAbs<=(32*Y) ^ n)(hY:(32*Y) ^ n<2 ^ 4000):Bt 4000 x:=D9 h hY
def MF(R:Ba.Mx)(k c:Nat)(last:Int):Ba.Mx:=fun i j=>if i<k+1 then R i j else (Ba.clr R k c i j).fdiv last
theorem iD {n m Y k c : Nat} {A R B : Ba.Mx} {L : Nat -> Nat} {last : Int} (I : Ba.BI n m A R k L last c B) (hc : c < m) (hn : n <= 32) (hm : m <= 1000) (hY1 : 1 <= Y) (hY : (32 * Y) ^ n < 2 ^ 4000) (hA : ∀ i, i < n -> ∀ j, j < m -> (A i j).natAbs <= Y) :
 ∃R' k' L' last' B',Ba.BI n m A R' k' L' last' (c+1) B'/\YL (MN n m R k L last) [.int c]=some (MN n m R' k' L' last', .none):=by
 have sl:3000<sizeLine:=by decide
 rcases dH (L:=L) (last:=last) (R:=R) I.kn hc (show n<=1000 by omega) with ⟨p,hkp,hpn,hR,pl⟩ | ⟨hz,pl⟩
 . have hk:k<n:=by omega
   obtain ⟨R1,hR1,B1,I1,hl⟩:∃R1,R1=(if p=k then R else Ba.exch R k p)/\∃B1,Ba.BI n m A R1 k L last c B1/\R1 k c≠0:=by
    by_cases e:p=k
    . subst e;exact ⟨R,by rw [AN rfl],B,I,hR⟩
    . exact ⟨Ba.exch R k p,by rw [AR e],_,I.exch (by omega) hpn,by rw [Ba.exch_r (HQ e)];exact hR⟩
   have ex:=fW (t:=k) (R:=R) (L:=L) (last:=last) hk hpn hm;rw [<-hR1] at ex
   obtain ⟨bR,bl⟩:=I1.bound hn hY1 hA;have BR:∀i,i<n->∀j,j<m->Bt 4000 (R1 i j):=fun i hi j hj=>bU (bR i hi j hj) hY;have Bl:Bt 9000 last:=(bU bl hY).mono (by decide)
   have st2:Ba.BI n m A (MF R1 k c last) (k+1) (fun t=>if t=k then c else L t) (R1 k c) (c+1) B1:=by
    refine I1.step hc hk hl (fun i hi j hj=> ?_) (fun i h1 h2 j hj=> ?_)
    . unfold MF;rw [if_pos (by omega)]
    . unfold MF;rw [if_neg (by omega)];have:=(I1.exact hc hk hl h1 h2).2 j hj;rw [this];rw [Int.mul_fdiv_cancel_left _ I1.nz]
   refine ⟨MF R1 k c last,k+1,fun t=>if t=k then c else L t,R1 k c,B1,st2,?_⟩
   have mat2:(List.range (k+1)).map (fun i=>CJ m (R1 i))++(List.range (n - (k+1))).map (fun i=>CJ m fun j=>(Ba.clr R1 k c (k+1+i) j).fdiv last)=CU n m (MF R1 k c last):=by
    rw [dZ (g:=fun i=>CJ m fun j=>(Ba.clr R1 k c i j).fdiv last) (show k+1<=n by omega)];unfold CU;refine List.map_congr_left fun i _=> ?_
    by_cases hi:i<k+1
    . rw [if_pos hi];unfold MF CJ;simp only [if_pos hi]
    . rw [if_neg hi];unfold MF CJ;simp only [if_neg hi]
   refine UB (ρ:= [none,some (.val (.int (c:Nat))),none,none,none,none,some (.own (CU n m R)),some (.own (ldD k L)),some (.val (.int last))])
    (ρ':= [none,some (.val (.int (c:Nat))),some (.val (.int (k:Nat))),some (.val (.int (p:Nat))),some (.val (CJ m (R1 k))),some (.own ((List.range (n - (k+1))).map fun i=>CJ m fun j=>(Ba.clr R1 k c (k+1+i) j).fdiv last)),some (.own (CU n m (MF R1 k c last))),some (.own (ldD (k+1) (fun t=>if t=k then c else L t))),some (.val (.int (R1 k c)))]) rfl rfl rfl ?_
   unfold b_q4;refine FT (ρ':= [none,some (.val (.int (c:Nat))),some (.val (.int (k:Nat))),none,none,none,some (.own (CU n m R)),some (.own (ldD k L)),some (.val (.int last))]) ?_ ?_
   . walk_at "ev"
     rw [V5]
   refine FT (ρ':= [none,some (.val (.int (c:Nat))),some (.val (.int (k:Nat))),some (.val (.int (p:Nat))),none,none,some (.own (CU n m R)),some (.own (ldD k L)),some (.val (.int last))]) ?_ ?_
   . show JH 6 _ _ _ [none,some (.val (.int (c:Nat))),some (.val (.int (k:Nat))),none,none,none,some (.own (CU n m R)),some (.own (ldD k L)),some (.val (.int last))]=_;unfold JH
     walk_at "ev"
     show Option.bind (WE (MN n m R k L last) [.int (k:Nat), .int (c:Nat)]) _=_;rw [pl];rfl
   refine FT (PB (b:=false) (by walk_at "ev") rfl) ?_;refine FT (ρ':= [none,some (.val (.int (c:Nat))),some (.val (.int (k:Nat))),some (.val (.int (p:Nat))),none,none,some (.own (CU n m R1)),some (.own (ldD k L)),some (.val (.int last))]) ?_ ?_
   . simp only [mFrz,frz1,List.getElem?_cons_zero,List.getElem?_cons_succ,Option.join_some];unfold JH
     walk_at "ev"
     show Option.bind (eI (MN n m R k L last) [.int (k:Nat), .int (p:Nat)]) _=_;rw [ex];rfl
   refine FT (EL (r:= .val (CJ m (R1 k))) ?_) ?_
   . simp only [mBin,mPk,CM,BX,DY,BQ,UR hk]
   refine FT (ρ':= [none,some (.val (.int (c:Nat))),some (.val (.int (k:Nat))),some (.val (.int (p:Nat))),some (.val (CJ m (R1 k))),some (.own ((List.range (n - (k+1))).map fun i=>CJ m fun j=>(Ba.clr R1 k c (k+1+i) j).fdiv last)),some (.own (CU n m R1)),some (.own (ldD k L)),some (.val (.int last))]) ?_ ?_
   . show mAsg 5 _ [none,some (.val (.int (c:Nat))),some (.val (.int (k:Nat))),some (.val (.int (p:Nat))),some (.val (CJ m (R1 k))),none,some (.own (CU n m R1)),some (.own (ldD k L)),some (.val (.int last))]=_;refine EL (EX (ds:=(List.range (n - (k+1))).map fun i=>CJ m (R1 (k+1+i))) ?_ ?_ ?_)
     . walk_at "ev"
       rw [show ((k:Int)+1)=((k+1:Nat):Int) from rfl];unfold CU;rw [jM (f:=fun i=>CJ m (R1 i)) (by omega)]
     . rw [A4,AE];omega
     . refine CA fun i hi=> ?_;have hi:=List.mem_range.mp hi;show elM _ _ _ [some (.val (CJ m (R1 k))),some (.val (.int (c:Nat))),none,none,some (.own (CU n m R1)),some (.own (ldD k L)),some (.val (.int last))] _=_;unfold elM
       walk_at "ev"
       rw [WH hc hm (fun j hj=>BR _ (by omega) j hj) (fun j hj=>BR k hk j hj) I1.nz Bl];rfl
   refine FT (EL (r:= .own (CU n m (MF R1 k c last))) ?_) ?_
   . walk_at "ev"
     rw [show ((k:Int)+1)=((k+1:Nat):Int) from rfl];show (if ((L4 (CU n m R1) none (some ((k+1:Nat):Int))).length+_)<=_ then some (Sl.own (L4 (CU n m R1) none (some ((k+1:Nat):Int))++_)) else none)=_;have c2:L4 (CU n m R1) none (some ((k+1:Nat):Int))=(List.range (k+1)).map fun i=>CJ m (R1 i):=fE (by omega);rw [c2,mat2,AN];rw [A4,A4,AE,AE];omega
   refine FT (ρ':= [none,some (.val (.int (c:Nat))),some (.val (.int (k:Nat))),some (.val (.int (p:Nat))),some (.val (CJ m (R1 k))),some (.own ((List.range (n - (k+1))).map fun i=>CJ m fun j=>(Ba.clr R1 k c (k+1+i) j).fdiv last)),some (.own (CU n m (MF R1 k c last))),some (.own (ldD (k+1) (fun t=>if t=k then c else L t))),some (.val (.int last))]) ?_ ?_
   . walk_at "ev"
     rw [AN (by rw [V5];omega),oS]
   . refine EL ?_;simp only [mBin,mPk,CM,BX,DY,BQ,LU hc]
 . refine ⟨R,k,L,last,B,I.none hc hz,?_⟩
   refine PN (ρ:= [none,some (.val (.int (c:Nat))),none,none,none,none,some (.own (CU n m R)),some (.own (ldD k L)),some (.val (.int last))])
    (ρ':= [none,some (.val (.int (c:Nat))),some (.val (.int (k:Nat))),some (.val .none),none,none,some (.own (CU n m R)),some (.own (ldD k L)),some (.val (.int last))]) rfl rfl rfl ?_
   unfold b_q4;refine FT (ρ':= [none,some (.val (.int (c:Nat))),some (.val (.int (k:Nat))),none,none,none,some (.own (CU n m R)),some (.own (ldD k L)),some (.val (.int last))]) ?_ ?_
   . walk_at "ev"
     rw [V5]
   refine FT (ρ':= [none,some (.val (.int (c:Nat))),some (.val (.int (k:Nat))),some (.val .none),none,none,some (.own (CU n m R)),some (.own (ldD k L)),some (.val (.int last))]) ?_ ?_
   . show JH 6 _ _ _ [none,some (.val (.int (c:Nat))),some (.val (.int (k:Nat))),none,none,none,some (.own (CU n m R)),some (.own (ldD k L)),some (.val (.int last))]=_;unfold JH
     walk_at "ev"
     show Option.bind (WE (MN n m R k L last) [.int (k:Nat), .int (c:Nat)]) _=_;rw [pl];rfl
   exact XO (PB (b:=true) (by walk_at "ev") rfl)
theorem gH {n m Y : Nat} {A : Ba.Mx} (h1 : 1 <= n) (hn : n <= 32) (hm : m <= 1000) (hY1 : 1 <= Y) (hY : (32 * Y) ^ n < 2 ^ 4000) (hA : ∀ i, i < n -> ∀ j, j < m -> (A i j).natAbs <= Y) :
 ∃R k L last B,Ba.BI n m A R k L last m B/\Y4 [none,none,none] [.list (CU n m A)]=some (MN n m R k L last, .none):=by
 obtain ⟨ρ',hf,z,R,k,L,last,B,rfl,I⟩:=Y9 (fg:=gVar 2) (gb:=JH 3 YL (mCons (mVar 2) mNil) fun ρ _=>some (.nx ρ)) (lo:=0) (n:=m)
  (ρ:= [none,some (.val (.list (CU n m A))),none,some (.own (CU n m A)),some (.own (ldD 0 fun _=>0)),some (.val (.int 1))])
  (fun c ρ=>∃z R k L last B,ρ = [none,some (.val (.list (CU n m A))),z,some (.own (CU n m R)),some (.own (ldD k L)),some (.val (.int last))]/\Ba.BI n m A R k L last c B)
  ⟨none,A,0,fun _=>0,1,A,rfl,Ba.BI.start A⟩ (by
   rintro c ρ hc ⟨z,R,k,L,last,B,rfl,I⟩;obtain ⟨R',k',L',last',B',I',hs⟩:=iD I hc hn hm hY1 hY hA;refine ⟨_,rfl,[none,some (.val (.list (CU n m A))),some (.val (.int (c:Nat))),some (.own (CU n m R')),some (.own (ldD k' L')),some (.val (.int last'))], .inl ?_,_,R',k',L',last',B',rfl,I'⟩;rw [show (0:Int)+(c:Nat)=((c:Nat):Int) from Int.zero_add _];unfold JH
   walk_at "ev"
   show Option.bind (YL (MN n m R k L last) [.int (c:Nat)]) _=_;rw [hs];rfl)
 refine ⟨R,k,L,last,B,I,?_⟩;refine UB (ρ:= [none,some (.val (.list (CU n m A))),none,none,none,none]) (ρ':= [none,some (.val (.list (CU n m A))),z,some (.own (CU n m R)),some (.own (ldD k L)),some (.val (.int last))]) rfl rfl rfl ?_;unfold b_q0;refine FT (EL (r:= .own (CU n m A)) rfl) (FT (EL (r:= .own []) rfl) (FT (EL (r:= .val (.int 1)) rfl) (MW (IJ (j:=m) ?_ hm) hf)));show mConsP (mCallP dLen (mConsP (mBin dix (mPk 1) (mK (.int 0))) mNilP)) mNilP [none,some (.val (.list (CU n m A))),none,some (.own (CU n m A)),some (.own []),some (.val (.int 1))]=_
 have e:dix (.val (.list (CU n m A))) (.val (.int 0))=some (.val (CJ m (A 0))):=by
  show (atI (CU n m A) ((0:Nat):Int)).map Sl.val=_;rw [Q4 (by omega)];rfl
 simp only [mConsP,mNilP,mCallP,mBin,mPk,mK,CM,BX,DY,BQ,e,dLen,Sl.dat,CJ,A4,AE]
abbrev Tb:=Nat->Nat->Int×Int
def frD(m:Nat)(r:Nat->Int×Int):PyData:= .list ((List.range m).map fun j=>BL (r j))
def FQ(n m:Nat)(t:Tb):PyData:= .list ((List.range n).map fun i=>frD m (t i))
def cbN(r:Nat->Int×Int):Nat->Int
 | 0=>1
 | j+1=>(cbN r j).fdiv (Int.gcd (cbN r j) (r j).2)*(r j).2
theorem OG{r:Nat->Int×Int}{D:Nat}:∀ {m:Nat},(∀j,j<m->0<(r j).2/\(r j).2.natAbs<=D)->0<cbN r m/\(cbN r m).natAbs<=D ^ m/\∀j,j<m->(r j).2 ∣ cbN r m
 | 0,_=>⟨show (0:Int)<1 by decide,by simp [cbN],fun j h=>absurd h (by omega)⟩
 | m+1,h=>by
  obtain ⟨h1,h2,h3⟩:=OG (m:=m) fun j hj=>h j (by omega);obtain ⟨h4,h5⟩:=h m (by omega);have hg:0<Int.gcd (cbN r m) (r m).2:=OV.mpr (.inl (by omega));have hd1:=A38 (cbN r m) (r m).2;have hd2:=M9 (cbN r m) (r m).2;have e0:cbN r (m+1)=(cbN r m).fdiv (Int.gcd (cbN r m) (r m).2)*(r m).2:=rfl;generalize Int.gcd (cbN r m) (r m).2=g at *
  generalize cbN r m=c at *
  obtain ⟨x,rfl⟩:=hd1;obtain ⟨y,hy⟩:=hd2;have gp:(0:Int)<(g:Int):=by omega
  have e:cbN r (m+1)=x*(r m).2:=by rw [e0,G7 _ (by omega)]
  have xp:0<x:=by
   rcases (by omega:0<x\/x<=0) with p | p
   . exact p
   . have:=Int.mul_nonpos_of_nonneg_of_nonpos (HU gp) p;omega
  have xle:x.natAbs<=((g:Int)*x).natAbs:=by
   rw [HD];exact sL _ (by omega)
  refine ⟨by rw [e];exact HH xp h4,?_,fun j hj=> ?_⟩
  . rw [e,HD,O0];exact GA (BG xle h2) h5
  . rw [e]
    by_cases q:j=m
    . subst q;exact Int.dvd_mul_left _ _
    . have a:=h3 j (by omega)
      have b:(g:Int)*x ∣ x*(r m).2:=by
       rw [hy];exact ⟨y,by rw [C4 (g:Int) x,CD]⟩
      exact Int.dvd_trans a b
def whN(m:Nat)(r:Nat->Int×Int)(j:Nat):Int:=(r j).1*(cbN r m).fdiv (r j).2
theorem R7(q:Int×Int):dix (.val (BL q)) (.val (.int 0))=some (.val (.int q.1)):=rfl
theorem MT(q:Int×Int):dix (.val (BL q)) (.val (.int 1))=some (.val (.int q.2)):=rfl
theorem wG{m D:Nat}{r:Nat->Int×Int}(h:∀j,j<m->0<(r j).2/\(r j).2.natAbs<=D)(hD:D ^ m<2 ^ 4000)(hD1:1<=D)(hD2:D<2 ^ 4000):MH [frD m r]=some (.val (.int (cbN r m))):=by
 obtain ⟨ρ',hf,z,rfl⟩:=LW (fg:=gVar 2) (gb:=(mFrz 1 (mAsg 1 (mBin dRep (mBin EF (mPk 1) (mCall NG (mCons (mVar 1) (mCons (mBin dix (mPk 2) (mK (.int 1))) mNil)))) (mBin dix (mPk 2) (mK (.int 1)))))))
  (ds:=(List.range m).map fun j=>BL (r j)) (ρ:= [some (.val (frD m r)),some (.val (.int 1)),none]) (fun i ρ=>∃z,ρ = [some (.val (frD m r)),some (.val (.int (cbN r i))),z]) ⟨none,rfl⟩ (by
   rintro i d ρ hd ⟨z,rfl⟩;rw [AS] at hd
   by_cases hi:i<m
   . rw [BO hi] at hd
     cases hd
     obtain ⟨c1,c2,c3⟩:=OG (r:=r) (D:=D) (m:=i) fun j hj=>h j (by omega);obtain ⟨h4,h5⟩:=h i hi;have b1:Bt 4000 (cbN r i):=D9 (BG c2 (BW hD1 (by omega))) hD;have b2:Bt 4000 (r i).2:=D9 h5 hD2;have hg:0<Int.gcd (cbN r i) (r i).2:=OV.mpr (.inl (by omega))
     have b3:Bt 4000 ((Int.gcd (cbN r i) (r i).2:Nat):Int):=by
      refine b2.of_le ?_;have:=CP.mpr (M9 (cbN r i) (r i).2);exact MJ (by omega) (by simpa using this)
     refine ⟨_,rfl,[some (.val (frD m r)),some (.val (.int (cbN r (i+1)))),some (.val (BL (r i)))], .inl ?_,_,rfl⟩;simp only [mFrz,frz1,mAsg,mBin,mPk,mVar,mK,mCall,mCons,mNil,GL,GJ,CM,BX,DY,BQ,MT,Sl.dat,Y8];rw [PK ⟨by omega,b3.mono (by decide)⟩];simp only [BQ];rw [FM (.inr (IC (n:=4000) (m:=4000) b1.fdiv b2 rfl))];rfl
   . rw [BZ (l:=List.range m) (by simpa using hi)] at hd;cases hd)
 rw [A4,AE] at hf
 refine FF (ρ:= [some (.val (frD m r)),none,none]) rfl rfl ?_;unfold b_q23;refine FC (EL (r:= .val (.int 1)) rfl) (FC (MW (ds:=(List.range m).map fun j=>BL (r j)) rfl hf) (GF rfl))
theorem uU{m D:Nat}{r:Nat->Int×Int}(h:∀j,j<m->0<(r j).2/\(r j).2.natAbs<=D)(hT:∀j,j<m->Bt 4000 (r j).1)(hm:m<=1000)(hD:D ^ m<2 ^ 4000)(hD1:1<=D)(hD2:D<2 ^ 4000):KU [frD m r]=some (.own ((List.range m).map fun j=> .int (whN m r j))):=by
 obtain ⟨c1,c2,c3⟩:=OG (r:=r) (D:=D) (m:=m) h;refine FF (ρ:= [some (.val (frD m r)),none]) rfl rfl ?_;unfold b_q43;refine FC (EL (BF (ds:= [frD m r]) rfl (wG h hD hD1 hD2))) (GF (EX (ds:=(List.range m).map fun j=>BL (r j)) rfl ?_ ?_))
 . rw [A4,AE];have:1000<sizeLine:=by decide
   omega
 . refine CA fun j hj=> ?_;have hj:=List.mem_range.mp hj;show elM _ _ _ [some (.val (.int (cbN r m))),none] _=_;unfold elM;obtain ⟨h4,h5⟩:=h j hj;have b1:Bt 4000 (cbN r m):=Nat.lt_of_le_of_lt c2 hD;have b2:Bt 4000 (r j).2:=Nat.lt_of_le_of_lt h5 hD2;simp only [gVar,mYes,mBin,mPk,mK,List.set_cons_succ,List.set_cons_zero,List.getElem?_cons_zero,List.getElem?_cons_succ,Option.join_some,Option.bind_some,R7,MT];rw [PK ⟨by omega,b2.mono (by decide)⟩];simp only [Option.bind_some];rw [FM (.inr (IC (n:=4000) (m:=4000) (hT j hj) b1.fdiv rfl))];rfl
theorem fL{a b:Int}(hb:0<b):(a.fdiv b).natAbs<=a.natAbs:=by
 rw [KO a (HU hb)];exact lM a b
def W(m:Nat)(t:Tb):Ba.Mx:=fun i=>whN m (t i)
structure TabOk (n m D T:Nat) (t:Tb):Prop where
 n1:1<=n
 n32:n<=32
 m1000:m<=1000
 D1:1<=D
 T1:1<=T
 bot:∀i,i<n->∀j,j<m->0<(t i j).2/\(t i j).2.natAbs<=D
 top:∀i,i<n->∀j,j<m->(t i j).1.natAbs<=T
 size:(32*(T*D ^ m)) ^ n<2 ^ 4000
theorem TabOk.TD{n m D T:Nat}{t:Tb}(k:TabOk n m D T t):T*D ^ m<2 ^ 4000:=by
 refine D9 ?_ k.size;have p:1<=T*D ^ m:=xX k.T1 (HF k.D1)
 calc T*D ^ m<=32*(T*D ^ m):=by omega
  _=(32*(T*D ^ m)) ^ 1:=(Z3 _).symm
  _<=_:=BW (by omega) k.n1
theorem TabOk.Dm{n m D T:Nat}{t:Tb}(k:TabOk n m D T t):D ^ m<2 ^ 4000:=D9 (sL _ k.T1) k.TD
theorem TabOk.Tl{n m D T:Nat}{t:Tb}(k:TabOk n m D T t):T<2 ^ 4000:=D9 (qU _ (HF k.D1)) k.TD
theorem TabOk.Dl{n m D T:Nat}{t:Tb}(k:TabOk n m D T t)(hm:1<=m):D<2 ^ 4000:=by
 refine D9 ?_ k.Dm
 calc D=D ^ 1:=(Z3 _).symm
  _<=_:=BW k.D1 hm
theorem TabOk.Wb{n m D T:Nat}{t:Tb}(k:TabOk n m D T t):∀i,i<n->∀j,j<m->(W m t i j).natAbs<=T*D ^ m:=by
 intro i hi j hj;obtain ⟨c1,c2,_⟩:=OG (r:=t i) (D:=D) (m:=m) fun j hj=>k.bot i hi j hj;show ((t i j).1*(cbN (t i) m).fdiv (t i j).2).natAbs<=_;rw [HD];exact GA (k.top i hi j hj) (BG (fL (k.bot i hi j hj).1) c2)
theorem uO{n m D T:Nat}{t:Tb}(k:TabOk n m D T t)(hm1:1<=m):∃R l L last B,Ba.BI n m (W m t) R l L last m B/\RD [FQ n m t]=some (MN n m R l L last):=by
 have hY1:1<=T*D ^ m:=Nat.mul_pos k.T1 (Nat.pow_pos k.D1);obtain ⟨R,l,L,last,B,I,hi⟩:=gH (A:=W m t) k.n1 k.n32 k.m1000 hY1 k.size k.Wb;refine ⟨R,l,L,last,B,I,?_⟩;unfold RD fG;rw [if_pos (show [FQ n m t].length=1 from rfl)]
 have lc:(mLC (D3 [none]) (mItems (mVar 0)) (gVar 0) mYes (mCall KU (mCons (mVar 0) mNil))) [some (.val (FQ n m t))]=some (.own (CU n m (W m t))):=by
  refine EX (ds:=(List.range n).map fun i=>frD m (t i)) rfl ?_ ?_
  . rw [A4,AE];have:1000<sizeLine:=by decide
    have:=k.n32;omega
  . refine CA fun i hi=> ?_;have hi:=List.mem_range.mp hi;show elM _ _ _ [none] _=_;unfold elM;simp only [gVar,mYes,mCall,mCons,mNil,mVar,List.set_cons_zero,List.getElem?_cons_zero,Option.join_some,Option.bind_some,Sl.dat,uU (k.bot i hi) (fun j hj=>Nat.lt_of_le_of_lt (k.top i hi j hj) k.Tl) k.m1000 k.Dm k.D1 (k.Dl hm1)];rfl
 show VZ 3 Y4 _ [some (.val (FQ n m t))]=_;unfold VZ;simp only [mCons,mNil,lc,Option.bind_some,Sl.dat];show Option.bind (Y4 [none,none,none] [.list (CU n m (W m t))]) _=_;rw [hi];rfl
theorem vF{n s:Nat}{fo:En->Option En}{g:En->Option Out}{ρ φ:En}{r:Sl}(hl:ρ.length=n)(h:fo ρ=some φ)(k:Rts g (ρ.set s none++φ) r):Rts (XW n s fo g) ρ r:=by
 obtain ⟨ρ',k⟩:=k;refine ⟨List.replicate ρ.length none,?_⟩;unfold XW;rw [if_pos hl,h];simp only [Option.bind_some,k]
theorem AF{op:Sl->Sl->Option Sl}{fa fb:En->Option Sl}{ρ:En}{a b:Sl}(ha:fa ρ=some a)(hb:fb ρ=some b):mBin op fa fb ρ=op a b:=by
 unfold mBin;rw [ha];show Option.bind (fb ρ) _=_;rw [hb];rfl
theorem KB{f:En->Option Sl}{ρ:En}{b:Bool}(h:f ρ=some (.val (.bool b))):mTest f ρ=some b:=by
 unfold mTest;rw [h];rfl
theorem nF(i j:Int):deq (.val (.int i)) (.val (.int j))=some (.val (.bool (decide (i=j)))):=by
 show (eqD (.int i) (.int j)).map _=_;rw [eqD_int];rfl
theorem XT{i j:Nat}{k:Int}{fj f:En->Option Sl}{ρ:En}{r:Sl}{ds:List PyData}(h:f ρ=some r)(ho:(ρ[i]?).join=some (.own ds))(hj:fj ρ=some (.val (.int k)))(hx:ixN ds.length k=some j):mSet i fj f ρ=some (.nx (ρ.set i (some (.own (ds.set j r.dat))))):=by
 unfold mSet;rw [h];show (match (ρ[i]?).join with | some (.own ds)=>_ | _=>_)=_;rw [ho];show Option.bind (fj ρ) _=_;rw [hj];show (ixN ds.length k).map _=_;rw [hx];rfl
theorem K1{i:Nat}{f:En->Option Sl}{ρ:En}{r:Sl}{ds:List PyData}(h:f ρ=some r)(ho:(ρ[i]?).join=some (.own ds))(hl:ds.length<sizeLine):mApp i f ρ=some (.nx (ρ.set i (some (.own (ds ++ [r.dat]))))):=by
 unfold mApp;rw [ho];show Option.bind (f ρ) _=_;rw [h];show (if ds.length<sizeLine then _ else _)=_;rw [if_pos hl]
theorem EN{F:List Sl->Option Sl}{f:En->Option (List Sl)}{ρ:En}{ss:List Sl}{r:Sl}(h:f ρ=some ss)(k:F ss=some r):mCallP F f ρ=some r:=by
 unfold mCallP;rw [h];exact k
theorem BD{f:En->Option Sl}{g:En->Option (List PyData)}{ρ:En}{a:Sl}{as:List PyData}(h:f ρ=some a)(k:g ρ=some as):mCons f g ρ=some (a.dat::as):=by
 unfold mCons;rw [h];show Option.bind (g ρ) _=_;rw [k];rfl
theorem EE{f:En->Option Sl}{g:En->Option (List Sl)}{ρ:En}{a:Sl}{as:List Sl}(h:f ρ=some a)(k:g ρ=some as):mConsP f g ρ=some (a::as):=by
 unfold mConsP;rw [h];show Option.bind (g ρ) _=_;rw [k];rfl
theorem nX{n m k:Nat}{g:En->Option Out}{fd ds:List PyData}{ρ:En}{r:Sl}(hl:ds.length+1=m)(hk:fd.length=k)(e:(none::ds.map (fun d=>some (Sl.val d)))++List.replicate (n - (ds.length+1)) none++fd.map (fun d=>some (Sl.val d))=ρ)(h:Rts g ρ r):eU n m k g fd ds=some r:=by
 obtain ⟨ρ',h⟩:=h;unfold eU;rw [if_pos ⟨hl,hk⟩,e,h];rfl
theorem KP(f:Nat->Int):∀n,List.sum ((List.range n).map f)=Ba.sumN n f
 | 0=>rfl
 | n+1=>by
  rw [FY,BJ,OU,KP f n,Ba.sumN];simp
theorem OE{f:Nat->Int}{n:Nat}:dSum [.own ((List.range n).map fun i=> .int (f i))]=some (.val (.int (Ba.sumN n f))):=by
 unfold dSum;simp only [Sl.dat];have e:((List.range n).map fun i=>PyData.int (f i))=((List.range n).map f).map PyData.int:=by rw [List.map_map];rfl
 rw [e,KD,F6,KP]
theorem iZ{n m i:Nat}{R:Ba.Mx}(h:i<n):dix (.val (.list (CU n m R))) (.val (.int (i:Int)))=some (.val (CJ m (R i))):=by
 unfold dix;simp only [Sl.dat,Q4 h,Option.map_some]
theorem bZ{k t:Nat}{L:Nat->Nat}(h:t<k):dix (.val (.list (ldD k L))) (.val (.int (t:Int)))=some (.val (.int (L t:Nat))):=by
 unfold dix ldD;simp only [Sl.dat,GY h,Option.map_some]
theorem nE{k t:Nat}{f:Nat->PyData}(h:t<k):dix (.own ((List.range k).map f)) (.val (.int (t:Int)))=some (.val (f t)):=by
 unfold dix;simp only [Sl.dat,GY h,Option.map_some]
theorem RJ{α:Type}{x:α}:∀k:Nat,(List.replicate k [x]).flatten=(List.range k).map fun _=>x
 | 0=>rfl
 | k+1=>by
  rw [List.replicate_succ',List.flatten_append,RJ k,FY,BJ];rfl
theorem YJ{x:PyData}{k:Nat}(h:k<=200):dRep (.own [x]) (.val (.int (k:Int)))=some (.own ((List.range k).map fun _=>x)):=by
 have hs:(200:Nat)<=sizeLine:=UJ;have c : -(2 ^ 63)<=(k:Int)/\(k:Int)<2 ^ 63 /\ [x].length*(k:Int).toNat<=sizeLine:=⟨by omega,by omega,by rw [IR,xO];omega⟩;simp only [dRep];rw [AN c,IR,RJ]
def KK(k s:Nat)(x:Nat->Int):List PyData:=(List.range k).map fun t=> .int (if k - s<=t then x t else 0)
def rcP(n m k j:Nat)(R:Ba.Mx)(L:Nat->Nat)(last:Int)(num:List PyData)(a b c:Option Sl):En:=
 [none,some (.val (.int j)),some (.val (.int k)),some (.own num),a,b,c,some (.val (.list (CU n m R))),some (.val (.list (ldD k L))),some (.val (.int last))]
theorem uY {n m k j : Nat} {A R B : Ba.Mx} {L : Nat -> Nat} {last : Int} (I : Ba.BI n m A R k L last m B) (hj : j < m) (hn : n <= 32) (hm : m <= 1000)
 (hR:∀i,i<n->∀j,j<m->Bt 4000 (R i j)) (hl:Bt 4000 last) (hx:∀t,t<k->Bt 8000 (Ba.redx B k L j t)) :
 Y5 [.list (CU n m R), .list (ldD k L), .int last] [.int (j:Int)]=some (.own ((List.range k).map fun t=> .int (Ba.redx B k L j t))):=by
 have hk:=I.kn;have hL:∀t,t<k->L t<m:=fun t ht=>Nat.lt_of_lt_of_le (I.Lc t ht) I.cm;refine nX (ρ:= [none,some (.val (.int (j:Int))),none,none,none,none,none,some (.val (.list (CU n m R))),some (.val (.list (ldD k L))),some (.val (.int last))]) rfl rfl rfl ?_;unfold b_q3;refine FC (EL (r:= .val (.int k)) ?_) ?_
 . walk_at "ev"
   rw [V5]
 refine FC (EL (r:= .own (KK k 0 (Ba.redx B k L j))) ?_) ?_
 . walk_at "ev"
   have e:KK k 0 (Ba.redx B k L j)=(List.range k).map fun _=>PyData.int 0:=by
    unfold KK;refine List.map_congr_left fun t ht=> ?_;have:=List.mem_range.mp ht;rw [if_neg (by omega)]
   rw [e];rw [AN (show 0+1<=sizeLine from BG (by decide) UJ),BQ];refine YJ (k:=k) ?_;omega
 show Rts _ (rcP n m k j R L last (KK k 0 (Ba.redx B k L j)) none none none) _
 obtain ⟨ρ',hf,a,b,c,rfl⟩:=LW (fg:=gVar 4) (gb:=(mSeq (mAsg 5 (mBin dix (mPk 7) (mPk 4)))
  (mSeq (mAsg 6 (mCallP dSum (mConsP (mLC (subF [some 5,some 0,some 3,none] 7) (NT (mConsP (mBin dAdd (mPk 4) (mK (.int 1))) (mConsP (mPk 2) mNilP))) (gVar 3) mYes (mBin dRep (mBin dix (mPk 0) (mBin dix (mPk 5) (mPk 3))) (mBin dix (mPk 2) (mPk 3)))) mNilP)))
  (mSet 3 (mPk 4) (mBin EF (mBin dSub (mBin dRep (mPk 9) (mBin dix (mPk 5) (mPk 1))) (mPk 6)) (mBin dix (mPk 5) (mBin dix (mPk 8) (mPk 4))))))))
  (ds:=N0 ((k:Int) - 1) k) (ρ:=rcP n m k j R L last (KK k 0 (Ba.redx B k L j)) none none none)
  (fun s ρ=>∃a b c,ρ=rcP n m k j R L last (KK k s (Ba.redx B k L j)) a b c) ⟨none,none,none,rfl⟩ (by
   rintro s d ρ hd ⟨a,b,c,rfl⟩;unfold N0 at hd
   rw [AS] at hd
   by_cases hs:s<k
   . rw [BO hs] at hd
     have hd:PyData.int ((k:Int) - 1 - (s:Nat))=d:=AY hd;subst hd;obtain ⟨i,hi,hik⟩:∃i:Nat,(k:Int) - 1 - (s:Nat)=(i:Int)/\i+s+1=k:=⟨k - 1 - s,by omega,by omega⟩;rw [hi];refine ⟨_,rfl,_, .inl ?_,some (.val (.int i)),some (.val (CJ m (R i))),some (.val (.int (Ba.sumN (k - (i+1)) (fun t=>R i (L (i+1+t))*Ba.redx B k L j (i+1+t))))),rfl⟩;have hin:i<n:=by omega
     have hL':=hL i (by omega);refine FT (EL (r:= .val (CJ m (R i))) (AF (a:= .val (.list (CU n m R))) (b:= .val (.int i)) rfl rfl |>.trans (iZ hin))) ?_;refine FT (EL (r:= .val (.int (Ba.sumN (k - (i+1)) (fun t=>R i (L (i+1+t))*Ba.redx B k L j (i+1+t))))) (EN (EE (a:= .own ((List.range (k - (i+1))).map fun t=> .int (R i (L (i+1+t))*Ba.redx B k L j (i+1+t)))) (EX (ds:=G8 ((i+1:Nat):Int) (k - (i+1))) ?_ ?_ ?_) rfl) OE)) ?_
     . refine V7 (i:=i+1) (j:=k) ?_ (by omega) (by omega);rfl
     . have:(200:Nat)<=sizeLine:=UJ;simp only [G8,A4,AE];omega
     . refine IB fun t ht=> ?_;show elM _ _ _ [some (.val (CJ m (R i))),none,some (.own (KK k s (Ba.redx B k L j))),none,some (.val (.list (CU n m R))),some (.val (.list (ldD k L))),some (.val (.int last))] _=_;rw [show ((i+1:Nat):Int)+(t:Nat)=((i+1+t:Nat):Int) by omega];have hit:i+1+t<k:=by omega
       have hv:(mBin dRep (mBin dix (mPk 0) (mBin dix (mPk 5) (mPk 3))) (mBin dix (mPk 2) (mPk 3))) [some (.val (CJ m (R i))),none,some (.own (KK k s (Ba.redx B k L j))),some (.val (.int ((i+1+t:Nat):Int))),some (.val (.list (CU n m R))),some (.val (.list (ldD k L))),some (.val (.int last))]=some (.val (.int (R i (L (i+1+t))*Ba.redx B k L j (i+1+t)))):=by
        refine (AF (a:= .val (.int (R i (L (i+1+t))))) (b:= .val (.int (Ba.redx B k L j (i+1+t)))) ?_ ?_).trans (FM (.inr (IC (hR i hin _ (hL _ hit)) (hx _ hit) rfl)))
        . refine (AF (a:= .val (CJ m (R i))) (b:= .val (.int (L (i+1+t):Nat))) rfl ?_).trans (LU (hL _ hit));exact (AF (a:= .val (.list (ldD k L))) (b:= .val (.int ((i+1+t:Nat):Int))) rfl rfl).trans (bZ hit)
        . refine (AF (a:= .own (KK k s (Ba.redx B k L j))) (b:= .val (.int ((i+1+t:Nat):Int))) rfl rfl).trans ?_;unfold KK;rw [nE hit,if_pos (by omega)]
       unfold elM;simp only [gVar,mYes,List.set_cons_zero,List.set_cons_succ,Option.bind_some,if_true,hv,Option.map_some,Sl.dat]
     . refine (XT (r:= .val (.int (Ba.redx B k L j i))) (j:=i) (k:=(i:Int)) (ds:=KK k s (Ba.redx B k L j)) ?_ rfl rfl (by rw [show (KK k s (Ba.redx B k L j)).length=k by simp [KK]];exact PP (by omega))).trans ?_
       . refine (AF (a:= .val (.int (last*R i j - Ba.sumN (k - (i+1)) (fun t=>R i (L (i+1+t))*Ba.redx B k L j (i+1+t))))) (b:= .val (.int (R i (L i)))) ?_ ?_).trans ?_
         . refine (AF (a:= .val (.int (last*R i j))) (b:= .val (.int (Ba.sumN (k - (i+1)) (fun t=>R i (L (i+1+t))*Ba.redx B k L j (i+1+t))))) ?_ rfl).trans rfl;refine (AF (a:= .val (.int last)) (b:= .val (.int (R i j))) rfl ?_).trans (FM (.inr (IC hl (hR i hin j hj) rfl)));exact (AF (a:= .val (CJ m (R i))) (b:= .val (.int (j:Int))) rfl rfl).trans (LU hj)
         . refine (AF (a:= .val (CJ m (R i))) (b:= .val (.int (L i:Nat))) rfl ?_).trans (LU hL');exact (AF (a:= .val (.list (ldD k L))) (b:= .val (.int (i:Int))) rfl rfl).trans (bZ (by omega))
         . rw [PK ⟨I.topn i (by omega),(hR i hin _ hL').mono (by decide)⟩,I.back_div (by omega) hj]
       . have e : (KK k s (Ba.redx B k L j)).set i (.int (Ba.redx B k L j i)) = KK k (s + 1) (Ba.redx B k L j) := by
          unfold KK;rw [OI];refine List.map_congr_left fun t ht=> ?_;have ht:=List.mem_range.mp ht
          by_cases h1:t=i
          . subst h1;rw [AN rfl,AN (by omega)]
          . rw [AR h1]
            by_cases h2:k - s<=t
            . rw [AN h2,AN (by omega)]
            . rw [AR h2,AR (by omega)]
         simp only [Sl.dat,e];rfl
   . rw [BZ (l:=List.range k) (by simpa using hs)] at hd;cases hd)
 rw [show (N0 ((k:Int) - 1) k).length=k by simp [N0]] at hf
 refine FC (MW (ds:=N0 ((k:Int) - 1) k) ?_ hf) (GF ?_)
 . unfold aA rcP
   walk_at "ev"
   show (if inB ((k:Int) - 1)/\inB (-1) then _ else _)=_;rw [AN ⟨⟨by omega,by omega⟩,⟨by decide,by decide⟩⟩];congr 2
   omega
 . show some (Sl.own (KK k k (Ba.redx B k L j)))=_;unfold KK;congr 2
   exact BC fun t _=>by rw [AN (by omega)]
theorem j6{k:Nat}{x:Nat->Int}{b:Int}(hk:k<=200)(hb:b≠0)(hB:Bt 9000 b):P9 [.list ((List.range k).map fun t=> .int (x t)), .int b]=some (.own ((List.range k).map fun t=>BL (fr (x t) b))):=by
 refine FF (ρ:= [some (.val (.list ((List.range k).map fun t=> .int (x t)))),some (.val (.int b))]) rfl rfl ?_;unfold b_q28;refine GF (EX (ds:=(List.range k).map fun t=> .int (x t)) rfl ?_ (CA fun t ht=> ?_))
 . rw [A4,AE];have:1000<sizeLine:=by decide
   omega
 . show elM _ _ _ [some (.val (.int b)),none] _=_;unfold elM;simp only [gVar,mYes,mCall,mCons,mNil,mVar,List.set_cons_zero,List.set_cons_succ,List.getElem?_cons_zero,List.getElem?_cons_succ,Option.join_some,Option.bind_some,Sl.dat,RW hb hB,if_true,Option.map_some]
theorem YM{n m:Nat}{f:Nat->Nat->PyData}(hn:n<=200)(hm1:1<=m)(hm:m<=1000):NH [.list ((List.range m).map fun c=> .list ((List.range n).map fun i=>f c i))]=some (.own ((List.range n).map fun i=> .list ((List.range m).map fun c=>f c i))):=by
 refine FF (ρ:= [some (.val (.list ((List.range m).map fun c=> .list ((List.range n).map fun i=>f c i))))]) rfl rfl ?_;unfold b_q30;have hs:1000<sizeLine:=by decide
 refine GF (EX (ds:=G8 0 n) ?_ ?_ (IB fun i hi=> ?_))
 . refine IJ ?_ (by omega)
   have e:dix (.val (.list ((List.range m).map fun c=> .list ((List.range n).map fun i=>f c i)))) (.val (.int 0))=some (.val (.list ((List.range n).map fun i=>f 0 i))):=by
    unfold dix;simp only [Sl.dat];rw [show (0:Int)=((0:Nat):Int) from rfl,GY (show 0<m by omega)];rfl
   refine EE (a:= .val (.int n)) (EN (EE (AF (a:= .val (.list ((List.range m).map fun c=> .list ((List.range n).map fun i=>f c i)))) (b:= .val (.int 0)) rfl rfl |>.trans e) rfl) ?_) rfl;simp only [dLen,Sl.dat,A4,AE]
 . simp only [G8,A4,AE];omega
 . show elM _ _ _ [some (.val (.list ((List.range m).map fun c=> .list ((List.range n).map fun i=>f c i)))),none] _=_
   have inner:(mLC (D3 [some 1,none]) (mItems (mVar 0)) (gVar 1) mYes (mBin dix (mPk 1) (mPk 0))) [some (.val (.list ((List.range m).map fun c=> .list ((List.range n).map fun i=>f c i)))),some (.val (.int (0+(i:Nat))))]=some (.own ((List.range m).map fun c=>f c i)):=by
    refine EX (ds:=(List.range m).map fun c=> .list ((List.range n).map fun i=>f c i)) rfl (by rw [A4,AE];omega) (CA fun c hc=> ?_);show elM _ _ _ [some (.val (.int (0+(i:Nat)))),none] _=_
    have e:dix (.val (.list ((List.range n).map fun i=>f c i))) (.val (.int (0+(i:Nat))))=some (.val (f c i)):=by
     unfold dix;simp only [Sl.dat];rw [Int.zero_add,GY hi];rfl
    unfold elM;simp only [gVar,mYes,mBin,mPk,List.set_cons_zero,List.set_cons_succ,List.getElem?_cons_zero,List.getElem?_cons_succ,Option.join_some,Option.bind_some,e,if_true,Option.map_some,Sl.dat]
   unfold elM;simp only [gVar,mYes,List.set_cons_zero,List.set_cons_succ,Option.bind_some,inner,if_true,Option.map_some,Sl.dat]
theorem tD{n l Y:Nat}{x:Int}(h1:1<=n)(hn:n<=32)(hl:l<=n)(hY1:1<=Y)(hY:(32*Y) ^ n<2 ^ 4000)(hx:x.natAbs<=l*((n*Y) ^ l*Y)):Bt 8000 x:=by
 have a1:(n*Y) ^ l<=(32*Y) ^ n:=BG (A00 (F5 Y hn) l) (BW (by omega) hl)
 have a2:l*Y<=(32*Y) ^ n:=BG (F5 Y (by omega:l<=32)) (by
  calc 32*Y=(32*Y) ^ 1:=(Z3 _).symm
   _<=_:=BW (by omega) h1)
 have a3:l*((n*Y) ^ l*Y)=(n*Y) ^ l*(l*Y):=by
  rw [A33]
 unfold Bt;refine Nat.lt_of_le_of_lt hx ?_;rw [a3];refine Nat.lt_of_le_of_lt (Nat.mul_le_mul a1 a2) ?_;have e:(2:Nat) ^ 8000=2 ^ 4000*2 ^ 4000:=Nat.pow_add 2 4000 4000;rw [e];exact Nat.mul_lt_mul'' hY hY
theorem e6{k:Nat}{x:Nat->Int}:Z6 (.own ((List.range k).map fun t=> .int (x t)))=true:=by
 show (JO ((List.range k).map fun t=>PyData.int (x t))).isSome=true;have e:((List.range k).map fun t=>PyData.int (x t))=((List.range k).map x).map PyData.int:=by rw [G1];rfl
 rw [e,KD];rfl
theorem i9{n:Nat}{F:List PyData->List PyData->Option Sl}{fa:En->Option (List PyData)}{ρ:En}{ds fd:List PyData}{r:Sl}(h1:fa ρ=some ds)(h2:OL (ρ.drop n)=some fd)(h3:F fd ds=some r)(h4:Z6 r=true):MP n F fa ρ=some r:=by
 unfold MP;rw [h1,Option.bind_some,h2,Option.bind_some,h3,Option.bind_some,if_pos h4]
theorem EY:1000<sizeLine:=by decide
theorem RL{f:En->Option Sl}{ρ:En}{a:Sl}(h:f ρ=some a):mLst (mCons f mNil) ρ=some (.own [a.dat]):=by
 unfold mLst;rw [BD h (show mNil ρ=some [] from rfl)];exact if_pos (e:=none) (show 1<=sizeLine by decide)
theorem I0{a b:Sl}{xs ys:List PyData}(ha:a.dat = .list xs)(hb:b.dat = .list ys)(h:xs.length+ys.length<=sizeLine):dAdd a b=some (.own (xs++ys)):=by
 unfold dAdd;rw [ha,hb];exact if_pos (h)
theorem GH{fg:PyData->En->Option En}{fe:En->Option Sl}{ρ0 ρ1:En}{d:PyData}{r:Sl}(h1:fg d ρ0=some ρ1)(h2:fe ρ1=some r):elM fg mYes fe ρ0 d=some (some r.dat):=by
 unfold elM;rw [h1];simp only [Option.bind_some,mYes,if_true,h2,Option.map_some]
theorem A19{j:Int}(h0:0<j)(h:j<=1000):Bt 9000 j:=by
 unfold Bt;have:2 ^ 10<=2 ^ 9000:=Nat.pow_le_pow_right (by decide) (by decide);have e:(2:Nat) ^ 10=1024:=by decide
 rw [e] at this
 refine AM ?_ this;omega
theorem P8{i j:Int}(h0:0<j)(h:j<=1000):EF (.val (.int i)) (.val (.int j))=some (.val (.int (i.fdiv j))):=PK ⟨by omega,A19 h0 h⟩
theorem RF{α:Type}{f:PyData->Option (Option PyData)}{en g:α->PyData}{b:α->Bool}:∀ {xs:List α},(∀x ∈ xs,f (en x)=some (if b x then some (g x) else none))->L5 f (xs.map en)=some ((xs.filter b).map g)
 | [],_=>rfl
 | x::xs,h=>by
  rw [CT,L5,h x D8,RF fun y hy=>h y (BV _ hy)]
  cases e:b x <;> simp [e]
theorem yJ{fg:PyData->En->Option En}{ft:En->Option Bool}{fe:En->Option Sl}{ρ0 ρ1:En}{d:PyData}{r:Sl}{b:Bool}(h1:fg d ρ0=some ρ1)(h2:ft ρ1=some b)(h3:fe ρ1=some r):elM fg ft fe ρ0 d=some (if b then some r.dat else none):=by
 unfold elM;rw [h1,Option.bind_some,h2,Option.bind_some]
 cases b
 . rfl
 . rw [AN rfl,h3];rfl
theorem KQ{i:Nat}{g:En->Option Out}{ρ:En}:mFrz i g ρ=g (frz1 i ρ):=rfl
theorem OS{f g:En->Option Sl}{ρ:En}{a b:Sl}(h1:f ρ=some a)(h2:g ρ=some b):mTup (mCons f (mCons g mNil)) ρ=some (.val (.tuple [a.dat,b.dat])):=by
 unfold mTup;rw [BD h1 (BD h2 (show mNil ρ=some [] from rfl))];exact if_pos (e:=none) (show 2<=sizeLine by decide)
theorem zJ{f:En->Option Sl}{ρ:En}{a:Sl}(h1:f ρ=some a):mTup (mCons f mNil) ρ=some (.val (.tuple [a.dat])):=by
 unfold mTup;rw [BD h1 (show mNil ρ=some [] from rfl)];exact if_pos (e:=none) (show 1<=sizeLine by decide)
theorem cmL{i j:Int}(h1 : -(2 ^ 64)<i)(h2:i<2 ^ 64):NS i j:= .inl (.inl ⟨h1,h2⟩)
theorem cmR{i j:Int}(h1 : -(2 ^ 64)<j)(h2:j<2 ^ 64):NS i j:= .inl (.inr ⟨h1,h2⟩)
theorem T2(c:Int){k:Int}(h0:0<=k)(h1:k<1000000):∃v,J9 [.int c, .int k]=some (.val (.int v))/\0<=v:=by
 let o1:=((c.fmod 2147483647+40503*k*k+17*k)*48271).fmod 2147483647
 refine ⟨(o1*(o1.fmod 65537+3*k+1)).fmod 2147483629,EI (ρ:= [some (.val (.int c)),some (.val (.int k)),none]) rfl rfl ?_,Int.fmod_nonneg_of_pos _ (by decide)⟩;unfold b_q12;have a1:=Int.fmod_nonneg_of_pos ((c.fmod 2147483647+40503*k*k+17*k)*48271) (show (0:Int)<2147483647 by decide);have a2:=Int.fmod_lt_of_pos ((c.fmod 2147483647+40503*k*k+17*k)*48271) (show (0:Int)<2147483647 by decide);refine BN (r:= .val (.int o1)) ?_ (DL (r:= .val (.int ((o1*(o1.fmod 65537+3*k+1)).fmod 2147483629))) ?_ rfl)
 . refine (AF (op:=FJ) ((AF (op:=dRep) ((AF (op:=dAdd) ((AF (op:=dAdd) ((AF (op:=FJ) rfl rfl).trans (M6 (by decide))) ((AF (op:=dRep) ((AF (op:=dRep) rfl rfl).trans (FM (cmL (by decide) (by decide)))) rfl).trans (FM (cmR (by omega) (by omega))))).trans rfl) ((AF (op:=dRep) rfl rfl).trans (FM (cmL (by decide) (by decide))))).trans rfl) rfl).trans (FM (cmR (by decide) (by decide)))) rfl).trans (M6 (by decide))
 . refine (AF (op:=FJ) ((AF (op:=dRep) (a:= .val (.int o1)) rfl ((AF (op:=dAdd) ((AF (op:=dAdd) ((AF (op:=FJ) rfl rfl).trans (M6 (by decide))) ((AF (op:=dRep) rfl rfl).trans (FM (cmL (by decide) (by decide))))).trans rfl) rfl).trans rfl)).trans (FM (cmL (by show _<o1;omega) (by show o1<_;omega)))) rfl).trans (M6 (by decide))
theorem QN{args:En->Option (List PyData)}{ρ:En}{c j:Int}(ha:args ρ=some [.int c, .int j])(h0:0<=j)(h1:j<1000000):∃v:Nat,mCall J9 args ρ=some (.val (.int v)):=by
 obtain ⟨v,hv,v0⟩:=T2 c h0 h1;exact ⟨v.toNat,by rw [G9 v0];exact BF ha hv⟩
theorem LH{fa fb:En->Option Sl}{ρ:En}{i m:Int}(ha:fa ρ=some (.val (.int i)))(hb:fb ρ=some (.val (.int m)))(hp:0<m):∃v:Nat,mBin FJ fa fb ρ=some (.val (.int v))/\(v:Int)<m:=by
 refine ⟨(i.fmod m).toNat,?_,?_⟩
 . rw [G9 (EC _ hp)];exact (AF (op:=FJ) ha hb).trans (M6 (by omega))
 . rw [G9 (EC _ hp)];exact IF _ hp
abbrev enN:Nat->PyData:=fun n=> .int (n:Int)
def tupN(t:List Nat):PyData:= .tuple (nl t)
theorem II{ρ:En}:mLst mNil ρ=some (.own []):=by
 exact AN (e:=none) (show 0<=sizeLine by decide)
theorem lG{L:List Nat}(hL:∀c ∈ L,c<=1000):XE [.list (nl L)]=some (.val (.int (Tr.prodN L:Nat))):=by
 refine EI (ρ:= [some (.val (.list (nl L))),none,none]) rfl rfl ?_;unfold b_q32;refine BN (r:= .val (.int 1)) rfl ?_;refine EJ (P:=fun ρ=>∃z,ρ = [some (.val (.list (nl L))),some (.val (.int (Tr.prodN L:Nat))),z]) ?_ ?_
 . refine FD (en:=enN) (xs:=L) (fun k ρ=>∃z,ρ = [some (.val (.list (nl L))),some (.val (.int (Tr.prodN (L.take k):Nat))),z]) rfl ⟨_,rfl⟩ ?_ ?_
   . rintro k s ρ hs ⟨z,rfl⟩;have hs1:=hL s (AJ hs);refine ⟨_,rfl,FK (r:= .val (.int ((Tr.prodN (L.take k):Int)*(s:Int)))) ((AF (op:=dRep) rfl rfl).trans (FM (cmR (by omega) (by omega)))) ⟨some (.val (.int s)),?_⟩⟩;rw [CN,hs];show _=([some (.val (.list (nl L))),some (.val (.int (Tr.prodN (L.take k ++ [s]):Nat))),some (.val (.int s))]:En);rw [Tr.prodN_app,show Tr.prodN [s]=s by simp [Tr.prodN],IE];rfl
   . rintro ρ ⟨z,rfl⟩;rw [BS (AA _)];exact ⟨z,rfl⟩
 . rintro ρ ⟨z,rfl⟩;exact DL rfl rfl
theorem fI{c:Nat}(h:c<=1000):Bt 9000 (c:Int):=by
 unfold Bt;have:2 ^ 10<=2 ^ 9000:=Nat.pow_le_pow_right (by decide) (by decide);have e:(2:Nat) ^ 10=1024:=by decide
 rw [e] at this
 refine AM ?_ this;omega
theorem dO{L:List Nat}(hL:∀c ∈ L,0<c/\c<=1000)(hl:L.length<=900)(x:Nat):X7 [.list (nl L), .int x]=some (.val (tupN (Tr.tri L x))):=by
 have sl:=EY;refine EI (ρ:= [some (.val (.list (nl L))),some (.val (.int x)),none,none]) rfl rfl ?_;unfold b_q41;refine BN II ?_;refine EJ (P:=fun ρ=>∃z1 z3,ρ = [some (.val (.list (nl L))),z1,some (.own (nl (Tr.dg L.reverse x))),z3]) ?_ ?_
 . refine FD (en:=enN) (xs:=L.reverse) (fun k ρ=>∃(A:List Nat) (y:Nat) (z:Option Sl),ρ = [some (.val (.list (nl L))),some (.val (.int y)),some (.own (nl A)),z]/\A.length=k/\A++Tr.dg (L.reverse.drop k) y=Tr.dg L.reverse x) ?_ ⟨[],x,none,rfl,rfl,rfl⟩ ?_ ?_
   . show some (nl L).reverse=_;rw [nl,List.map_reverse]
   . rintro k c ρ hc ⟨A,y,z,rfl,hA,he⟩;have hc1:=hL c (List.mem_reverse.mp (AJ hc));obtain ⟨hk,ek⟩:=B6.mp hc;have hk':k<L.length:=by simpa using hk
     rw [EZ hk,ek] at he
     refine ⟨_,rfl,?_⟩;have nz:(c:Int)≠0:=by omega
     refine FE (K1 (r:= .val (.int ((y % c:Nat):Int))) (ds:=nl A) ((AF (op:=FJ) (a:= .val (.int y)) (b:= .val (.int c)) rfl rfl).trans ((M6 nz).trans ?_)) rfl (by rw [MS];omega)) ?_
     . rw [Int.fmod_eq_emod_of_nonneg _ (by omega)];rfl
     refine FK (r:= .val (.int ((y / c:Nat):Int))) ((AF (op:=EF) (a:= .val (.int y)) (b:= .val (.int c)) rfl rfl).trans ((PK ⟨nz,fI hc1.2⟩).trans ?_)) ⟨A ++ [y % c],y / c,some (.val (.int c)),?_,by simp [hA],?_⟩
     . rw [KO _ (by omega)];rfl
     . rw [U8];rfl
     . rw [<-he,M7];rfl
   . rintro ρ ⟨A,y,z,rfl,hA,he⟩;rw [EB (AA _)] at he
     simp only [Tr.dg,DV] at he
     subst he;exact ⟨_,_,rfl⟩
 . rintro ρ ⟨z1,z3,rfl⟩;refine DL (r:= .val (tupN (Tr.tri L x))) (EN (ss:= [.own (nl (Tr.dg L.reverse x))]) rfl ?_) rfl;show some (Sl.val (.tuple (nl (Tr.dg L.reverse x)).reverse))=_;rw [nl, <-List.map_reverse];rfl
theorem pD{L:List Nat}(hL:∀c ∈ L,0<c/\c<=1000)(hl:L.length<=900)(hp:Tr.prodN L<=900):WV [.list (nl L)]=some (.own ((Tr.allT L).map tupN)):=by
 have sl:=EY;refine EI (ρ:= [some (.val (.list (nl L)))]) rfl rfl ?_;unfold b_q18;refine DL (EX (ds:=G8 0 (Tr.prodN L)) ?_ ?_ ?_) rfl
 . exact IJ (j:=Tr.prodN L) (EE (as:= []) (BF (ds:= [.list (nl L)]) rfl (lG fun c hc=>(hL c hc).2)) rfl) (by omega)
 . rw [show (G8 0 (Tr.prodN L)).length=Tr.prodN L by simp [G8]];omega
 . refine (IB (g:=fun i=>tupN (Tr.tri L i)) fun i hi=>GH (r:= .val (tupN (Tr.tri L i))) rfl (BF (ds:= [.list (nl L), .int (i:Nat)]) ?_ (dO hL hl i))).trans ?_
   . show some [PyData.list (nl L), .int (0+(i:Nat))]=_;rw [KJ]
   . rw [Tr.allT,G1];rfl
theorem pM{n l Y:Nat}{x:Int}(h1:1<=n)(hn:n<=32)(hl:l<=n)(hY1:1<=Y)(hx:x.natAbs<=l*((n*Y) ^ l*Y)):x.natAbs<=(32*Y) ^ n*(32*Y) ^ n:=by
 have a1:(n*Y) ^ l<=(32*Y) ^ n:=BG (A00 (F5 Y hn) l) (BW (by omega) hl)
 have a2:l*Y<=(32*Y) ^ n:=BG (F5 Y (by omega:l<=32)) (by
  calc 32*Y=(32*Y) ^ 1:=(Z3 _).symm
   _<=_:=BW (by omega) h1)
 have a3:l*((n*Y) ^ l*Y)=(n*Y) ^ l*(l*Y):=by
  rw [A33]
 refine BG hx ?_;rw [a3];exact GA a1 a2
theorem xH{g:En->Option Out}{ρ:En}{r:Sl}(h:Wp g ρ (Rt r)):Rts g ρ r:=by
 obtain ⟨o,h1,h2⟩:=h
 cases o with
 | rt r' ρ'=>cases h2;exact ⟨_,h1⟩
 | _=>exact h2.elim
theorem x9{n s:Nat}{fo:En->Option En}{g:En->Option Out}{ρ φ:En}{r:Sl}(hl:ρ.length=n)(h:fo ρ=some φ)(k:Wp g (ρ.set s none++φ) (Rt r)):Wp (XW n s fo g) ρ (Rt r):=by
 obtain ⟨ρ',k⟩:=vF hl h (xH k);exact ⟨_,k,rfl⟩
theorem yD{l m:Nat}{L:Nat->Nat}:inD false (.int (m:Int)) (ldD l L)=some (.val (.bool (decide (∃s,s<l/\L s=m)))):=by
 unfold inD;rw [if_pos ⟨rfl,by simp [ldD,PyData.canLay0],by simp [PyData.depth]⟩];refine congrArg (fun b=>some (Sl.val (.bool b))) ?_;simp only [ldD,List.any_map,Bool.false_eq_true,if_false];rw [Bool.eq_iff_iff];simp only [List.any_eq_true,Function.comp,List.mem_range,decide_eq_true_eq,PyData.eqv]
 constructor
 . rintro ⟨x,hx,h⟩;refine ⟨x,hx,?_⟩;simp at h
   omega
 . rintro ⟨x,hx,h⟩;refine ⟨x,hx,?_⟩;simp [h]
def aug(m:Nat)(t:Tb)(c:Nat->Int×Int):Tb:=fun i j=>if j<m then t i j else c i
def fnd(L:Nat->Nat)(f:Nat->Int×Int):Nat->Nat->Int×Int
 | 0,_=>(0,1)
 | s+1,j=>if j=L s then f s else fnd L f s j
theorem WU{L:Nat->Nat}{f:Nat->Int×Int}:∀ {l j:Nat},(∀s,s<l->L s≠j)->fnd L f l j=(0,1)
 | 0,_,_=>rfl
 | l+1,j,h=>by
  rw [fnd,AR (fun e=>h l (by omega) e.symm)];exact WU fun s hs=>h s (by omega)
theorem jL{L:Nat->Nat}{f:Nat->Int×Int}:∀ {l s:Nat},(∀s t,s<t->t<l->L s<L t)->s<l->fnd L f l (L s)=f s
 | 0,_,_,h=>absurd h (by omega)
 | l+1,s,hi,h=>by
  rw [fnd]
  by_cases e:s=l
  . subst e;rw [AN rfl]
  . have:=hi s l (by omega) (by omega);rw [AR (by omega)];exact jL (fun s t h1 h2=>hi s t h1 (by omega)) (by omega)
theorem mV{m i:Nat}{t:Tb}{c:Nat->Int×Int}:((List.range m).map fun j=>BL (t i j)) ++ [BL (c i)]=(List.range (m+1)).map fun j=>BL (aug m t c i j):=by
 rw [FY,BJ];congr 1
 . exact List.map_congr_left fun j hj=>by unfold aug;rw [if_pos (List.mem_range.mp hj)]
 . show [BL (c i)] = [BL (aug m t c i m)];unfold aug;rw [if_neg (by omega)]
theorem oM {n m : Nat} {t : Tb} {c : Nat -> Int × Int} {ρ : En} (h0 : (ρ[0]?).join = some (.val (FQ n m t))) (h1 : (ρ[1]?).join = some (.val (frD n c))) (hn : n <= 200) (hm : m <= 200) :
 (mLC (D3 [none,none]) (N5 (mCons (mVar 0) (mCons (mVar 1) mNil))) (gTupD [(gVar 0),(gVar 1)]) mYes (mBin dAdd (mPk 0) (mLst (mCons (mVar 1) mNil)))) ρ=some (.own ((List.range n).map fun i=>frD (m+1) (aug m t c i))):=by
 have hs:=EY;have v0:mVar 0 ρ=some (.val (FQ n m t)):=by unfold mVar;rw [h0]
 have v1:mVar 1 ρ=some (.val (frD n c)):=by unfold mVar;rw [h1]
 refine EX (ds:=(List.range n).map fun i=> .tuple [frD m (t i),BL (c i)]) ?_ (by rw [A4,AE];omega) (CA fun i hi=> ?_)
 . unfold N5;rw [BD v0 (BD v1 rfl)];show some (IX ((List.range n).map fun i=>frD m (t i)) ((List.range n).map fun i=>BL (c i)))=_;rw [HY]
 . show elM _ _ _ [none,none] _=_;refine (GH (r:= .own ((List.range (m+1)).map fun j=>BL (aug m t c i j))) (ρ1:= [some (.val (frD m (t i))),some (.val (BL (c i)))]) rfl ?_);refine (AF (op:=dAdd) (a:= .val (frD m (t i))) (b:= .own [BL (c i)]) rfl (RL (a:= .val (BL (c i))) rfl)).trans ?_;refine (I0 (xs:=(List.range m).map fun j=>BL (t i j)) (ys:= [BL (c i)]) rfl rfl ?_).trans ?_
   . rw [A4,AE];show m+1<=_;omega
   . rw [mV]
theorem qN {n m D T : Nat} {t : Tb} {c : Nat -> Int × Int} (k : TabOk n (m + 1) D T (aug m t c)) (hm1 : 1 <= m) (hm : m <= 199) : ∃ R l L last B, Ba.BI n (m + 1) (W (m + 1) (aug m t c)) R l L last (m + 1) B /\ last.natAbs <= (32 * (T * D ^ (m + 1))) ^ n /\ (∀ s, s < l -> (Ba.redx B l L m s).natAbs <= (32 * (T * D ^ (m + 1))) ^ n * (32 * (T * D ^ (m + 1))) ^ n) /\
 ((∃s,s<l/\L s=m)->KG [FQ n m t,frD n c]=some (.val .none)) /\
 ((∀s,s<l->L s≠m)->KG [FQ n m t,frD n c]=some (.own ((List.range m).map fun j=>BL (fnd L (fun s=>fr (Ba.redx B l L m s) last) l j)))):=by
 obtain ⟨R,l,L,last,B,I,hs⟩:=uO k (by omega);have hY1:1<=T*D ^ (m+1):=xX k.T1 (HF k.D1);have bd:=I.bound k.n32 hY1 k.Wb;have hl:l<=n:=I.kn;have n32:=k.n32;have n1:=k.n1;have hlast:Bt 4000 last:=bU bd.2 k.size;have hR:∀i,i<n->∀j,j<m+1->Bt 4000 (R i j):=fun i hi j hj=>bU (bd.1 i hi j hj) k.size;have hx:∀s,s<l->Bt 8000 (Ba.redx B l L m s):=fun s _=>tD k.n1 k.n32 I.kn hY1 k.size (I.red_abs hY1 k.Wb (by omega) s);have hsz:=EY;refine ⟨R,l,L,last,B,I,bd.2,fun s _=>pM k.n1 k.n32 I.kn hY1 (I.red_abs hY1 k.Wb (by omega) s),?_⟩
 have w:∀ {r:Sl},Wp (mSeq (mIf (mTest (mBin (SA false) (mPk 2) (mPk 9))) (mRet (mK .none)) mNext)
  (mSeq (mFrz 2 (mAsg 4 (mCall P9 (mCons (MP 8 Y5 (mCons (mVar 2) mNil)) (mCons (mVar 10) mNil)))))
  (mSeq (mAsg 5 (mBin dRep (mLst (mCons (mK c_NOUGHT) mNil)) (mPk 2)))
  (mSeq (mFrz 9 (mFrz 4 (GB (N5 (mCons (mVar 9) (mCons (mVar 4) mNil))) (gTupD [(gVar 6),(gVar 7)]) (mSet 5 (mPk 6) (mVar 7)))))
  (mRet (mPk 5)))))) [some (.val (FQ n m t)),some (.val (frD n c)),some (.val (.int m)),none,none,none,none,none,some (.own (CU n (m+1) R)),some (.own (ldD l L)),some (.val (.int last))] (Rt r)->KG [FQ n m t,frD n c]=some r:=fun {r} h=>by
  refine EI (ρ:= [some (.val (FQ n m t)),some (.val (frD n c)),none,none,none,none,none,none]) rfl rfl ?_;unfold b_q33;refine BN (r:= .val (.int m)) ?_ ?_
  . have e : dix (.val (FQ n m t)) (.val (.int 0)) = some (.val (frD m (t 0))) := by
     unfold dix FQ;simp only [Sl.dat];rw [show (0:Int)=((0:Nat):Int) from rfl,GY (show 0<n by omega)];rfl
    refine EN (EE (AF (a:= .val (FQ n m t)) (b:= .val (.int 0)) rfl rfl |>.trans e) rfl) ?_;simp only [dLen,Sl.dat,frD,A4,AE]
  . refine x9 (φ:=MN n (m+1) R l L last) rfl ?_ h;show QJ RD _ [some (.val (FQ n m t)),some (.val (frD n c)),some (.val (.int m)),none,none,none,none,none]=_;unfold QJ;rw [BD (oM (n:=n) (m:=m) (t:=t) (c:=c) rfl rfl (by omega) (by omega)) (show mNil _=some [] from rfl)];exact hs
 have tst:(mTest (mBin (SA false) (mPk 2) (mPk 9))) [some (.val (FQ n m t)),some (.val (frD n c)),some (.val (.int m)),none,none,none,none,none,some (.own (CU n (m+1) R)),some (.own (ldD l L)),some (.val (.int last))]=some (decide (∃s,s<l/\L s=m)) :=
  KB ((AF (op:=SA false) (a:= .val (.int m)) (b:= .own (ldD l L)) rfl rfl).trans yD)
 refine ⟨fun h=>w ?_,fun h=>w ?_⟩
 . refine LR (OB (tst.trans (by rw [ET h])) (DL rfl rfl))
 . refine NL (tst.trans (by rw [CC (by rintro ⟨s,h1,h2⟩;exact h s h1 h2)])) ?_;have rc:=uY I (j:=m) (by omega) k.n32 k.m1000 hR hlast hx;refine FE (ρ':= [some (.val (FQ n m t)),some (.val (frD n c)),some (.val (.int m)),none,some (.own ((List.range l).map fun s=>BL (fr (Ba.redx B l L m s) last))),none,none,none,some (.own (CU n (m+1) R)),some (.own (ldD l L)),some (.val (.int last))]) ?_ ?_
   . rw [KQ];refine EL (BF (ds:= [.list ((List.range l).map fun t=> .int (Ba.redx B l L m t)), .int last]) ?_ (j6 (BG hl (BG n32 (by decide))) I.nz (hlast.mono (by decide))))
     have e:(MP 8 Y5 (mCons (mVar 2) mNil)) [some (.val (FQ n m t)),some (.val (frD n c)),some (.val (.int m)),none,none,none,none,none,some (.own (CU n (m+1) R)),some (.own (ldD l L)),some (.val (.int last))]=some (.own ((List.range l).map fun t=> .int (Ba.redx B l L m t))) :=
      i9 (ds:= [.int (m:Int)]) (fd:= [.list (CU n (m+1) R), .list (ldD l L), .int last]) rfl rfl rc e6
     exact BD e (BD (a:= .val (.int last)) (as:= []) rfl rfl)
   . refine BN (r:= .own ((List.range m).map fun _=>c_NOUGHT)) ((AF (a:= .own [c_NOUGHT]) (b:= .val (.int ((m:Nat):Int))) (RL (a:= .val c_NOUGHT) rfl) rfl).trans (YJ (by omega))) ?_;show Wp _ [some (.val (FQ n m t)),some (.val (frD n c)),some (.val (.int m)),none,some (.own ((List.range l).map fun s=>BL (fr (Ba.redx B l L m s) last))),some (.own ((List.range m).map fun _=>c_NOUGHT)),none,none,some (.own (CU n (m+1) R)),some (.own (ldD l L)),some (.val (.int last))] _;refine EJ (P:=fun ρ=>∃z6 z7,ρ = [some (.val (FQ n m t)),some (.val (frD n c)),some (.val (.int m)),none,some (.val (.list ((List.range l).map fun s=>BL (fr (Ba.redx B l L m s) last)))),some (.own ((List.range m).map fun j=>BL (fnd L (fun s=>fr (Ba.redx B l L m s) last) l j))),z6,z7,some (.own (CU n (m+1) R)),some (.val (.list (ldD l L))),some (.val (.int last))]) (ED (ED ?_)) ?_
     . refine V9 (ds:=(List.range l).map fun s=> .tuple [.int (L s),BL (fr (Ba.redx B l L m s) last)]) (fun s ρ=>∃z6 z7,ρ = [some (.val (FQ n m t)),some (.val (frD n c)),some (.val (.int m)),none,some (.val (.list ((List.range l).map fun s=>BL (fr (Ba.redx B l L m s) last)))),some (.own ((List.range m).map fun j=>BL (fnd L (fun s=>fr (Ba.redx B l L m s) last) s j))),z6,z7,some (.own (CU n (m+1) R)),some (.val (.list (ldD l L))),some (.val (.int last))]) ?_ ⟨_,_,rfl⟩ ?_ ?_
       . unfold N5;rw [BD (a:= .val (.list (ldD l L))) rfl (BD (a:= .val (.list ((List.range l).map fun s=>BL (fr (Ba.redx B l L m s) last)))) rfl rfl)];show some (IX ((List.range l).map fun s=> .int (L s)) ((List.range l).map fun s=>BL (fr (Ba.redx B l L m s) last)))=_;rw [HY]
       . rintro s d ρ hd ⟨z6,z7,rfl⟩
         have hs:s<l:=by
          have:=(B6.mp hd).1;simpa using this
         rw [AS,BO hs] at hd
         cases hd
         refine ⟨_,rfl,?_⟩
         have hLm:L s<m:=by
          have h1:=I.Lc s hs;have h2:=h s hs;omega
         refine R3 (XT (r:= .val (BL (fr (Ba.redx B l L m s) last))) (k:=((L s:Nat):Int)) (j:=L s) rfl rfl rfl (by rw [A4,AE];exact PP hLm)) ?_;refine ⟨some (.val (.int (L s))),some (.val (BL (fr (Ba.redx B l L m s) last))),?_⟩;show [some (Sl.val (FQ n m t)),some (.val (frD n c)),some (.val (.int m)),none,some (.val (.list ((List.range l).map fun s=>BL (fr (Ba.redx B l L m s) last)))),some (.own (((List.range m).map fun j=>BL (fnd L (fun s=>fr (Ba.redx B l L m s) last) s j)).set (L s) (BL (fr (Ba.redx B l L m s) last)))),some (.val (.int (L s))),some (.val (BL (fr (Ba.redx B l L m s) last))),some (.own (CU n (m+1) R)),some (.val (.list (ldD l L))),some (.val (.int last))]=_;rw [OI]
         have e:((List.range m).map fun i=>if i=L s then BL (fr (Ba.redx B l L m s) last) else BL (fnd L (fun s=>fr (Ba.redx B l L m s) last) s i))=(List.range m).map fun j=>BL (fnd L (fun s=>fr (Ba.redx B l L m s) last) (s+1) j):=BC fun j _=>by
          rw [fnd]
          by_cases hj:j=L s
          . rw [AN hj,AN hj]
          . rw [AR hj,AR hj]
         rw [e]
       . rintro ρ ⟨z6,z7,rfl⟩;rw [A4,AE];exact ⟨_,_,rfl⟩
     . rintro ρ ⟨z6,z7,rfl⟩;exact DL rfl rfl
theorem R0{a b c d:Int}(hb:0<b)(hd:0<d)(g1:Int.gcd a b=1)(g2:Int.gcd c d=1)(e:a*d=c*b):(a,b)=(c,d):=by
 have d1:b ∣ d:=by
  have:b ∣ a*d:=⟨c,by rw [e];ac_rfl⟩;refine CP.mp (XJ (m:=a.natAbs) (by rw [Nat.coprime_comm];exact g1) ?_);rw [<-HD];exact CP.mpr this
 have d2:d ∣ b:=by
  have:d ∣ c*b:=⟨a,by rw [<-e];ac_rfl⟩;refine CP.mp (XJ (m:=c.natAbs) (by rw [Nat.coprime_comm];exact g2) ?_);rw [<-HD];exact CP.mpr this
 have ebd:b=d:=Int.dvd_antisymm (by omega) (by omega) d1 d2;subst ebd;have:a=c:=Int.eq_of_mul_eq_mul_right (by omega) e;rw [this]
theorem P1{a b c d:Int}(hb:b≠0)(hd:d≠0)(e:a*d=c*b):fr a b=fr c d:=by
 have h:=R0 (a:=(fr a b).1) (b:=(fr a b).2) (c:=(fr c d).1) (d:=(fr c d).2) (FV hb) (FV hd) (V8 hb) (V8 hd) (by
  have h1:=FS (a:=a) hb;have h2:=FS (a:=c) hd;refine Ba.mul_cancel (a:=b*d) (DH hb hd) ?_
  calc b*d*((fr a b).1*(fr c d).2)=((fr a b).1*b)*(d*(fr c d).2):=by ac_rfl
   _=(a*d)*((fr a b).2*(fr c d).2):=by rw [h1];ac_rfl
   _=(c*(fr c d).2)*(b*(fr a b).2):=by rw [e];ac_rfl
   _=b*d*((fr c d).1*(fr a b).2):=by rw [<-h2];ac_rfl)
 exact h
theorem gQ(a:Int):fr a 1=(a,1):=by
 have h:=FS (a:=a) (b:=1) (by decide);have p:=FV (a:=a) (b:=1) (by decide);have g:=V8 (a:=a) (b:=1) (by decide);have:=R0 (a:=(fr a 1).1) (b:=(fr a 1).2) (c:=a) (d:=1) p (by decide) g (Int.gcd_one_right ..) h;exact this
theorem Q6{e:Int}(he:e≠0):fr 0 e=(0,1):=by
 rw [<-gQ];exact P1 he (by decide) (by rw [EU,EU])
theorem i0{a b a' b':List PyData}(h1:a=a')(h2:b=b'):some (Sl.own (a++b))=some (Sl.own (a'++b')):=by rw [h1,h2]
def tz(A:Ba.Mx):Tb:=fun i j=>(A i j,1)
def lE(m:Nat)(A:Ba.Mx)(c:Nat->Int):Ba.Mx:=fun i j=>if j<m then A i j else c i
theorem iR{m:Nat}{A:Ba.Mx}{c:Nat->Int}:aug m (tz A) (fun i=>(c i,1))=tz (lE m A c):=by
 funext i j;unfold aug tz lE
 by_cases h:j<m
 . rw [AN h,AN h]
 . rw [AR h,AR h]
theorem gR{a:Nat->Int}:∀m,cbN (fun j=>(a j,1)) m=1
 | 0=>rfl
 | m+1=>by
  rw [cbN,gR m];show Int.fdiv 1 ((Int.gcd 1 1:Nat):Int)*1=1;decide
theorem A12{m:Nat}{A:Ba.Mx}:W m (tz A)=A:=by
 funext i j;show A i j*(cbN (fun j=>(A i j,1)) m).fdiv 1=_;rw [gR];show A i j*1=_;rw [GG]
theorem tI{n m Y:Nat}{A:Ba.Mx}(h1:1<=n)(hn:n<=32)(hm:m<=1000)(hY1:1<=Y)(hA:∀i,i<n->∀j,j<m->(A i j).natAbs<=Y)(hY:(32*Y) ^ n<2 ^ 4000):TabOk n m 1 Y (tz A) :=
 ⟨h1,hn,hm,AA _,hY1,fun i hi j hj=>⟨by show (0:Int)<1;decide,by show (1:Int).natAbs<=1;decide⟩,hA,by rw [Nat.one_pow,xW];exact hY⟩
theorem VS {n m Y : Nat} {A : Ba.Mx} {c : Nat -> Int} (h1 : 1 <= n) (hn : n <= 32) (hm1 : 1 <= m) (hm : m <= 199) (hY1 : 1 <= Y) (hA : ∀ i, i < n -> ∀ j, j < m -> (A i j).natAbs <= Y) (hc : ∀ i, i < n -> (c i).natAbs <= Y) (hY : (32 * Y) ^ n < 2 ^ 4000) :
 (∃q:Nat->Int,(∀j,j<m->Ba.sumN n (fun i=>q i*A i j)=0)/\Ba.sumN n (fun i=>q i*c i)≠0/\KG [FQ n m (tz A),frD n (fun i=>(c i,1))]=some (.val .none)) \/
 (∃(X:Nat->Int) (e:Int),e≠0/\e.natAbs<=(32*Y) ^ n/\(∀j,j<m->(X j).natAbs<=(32*Y) ^ n*(32*Y) ^ n)/\(∀i,i<n->Ba.sumN m (fun j=>A i j*X j)=e*c i)/\KG [FQ n m (tz A),frD n (fun i=>(c i,1))]=some (.own ((List.range m).map fun j=>BL (fr (X j) e)))):=by
 have k:TabOk n (m+1) 1 Y (aug m (tz A) (fun i=>(c i,1))):=by
  rw [iR];refine tI h1 hn (by omega) hY1 (fun i hi j _=> ?_) hY;unfold lE
  by_cases h:j<m
  . rw [AN h];exact hA i hi j h
  . rw [AR h];exact hc i hi
 obtain ⟨R,l,L,last,B,I,hlast,hx,s1,s2⟩:=qN k hm1 hm;rw [iR,A12] at I
 rw [Nat.one_pow,xW] at hlast hx
 have lo:∀i j,j<m->lE m A c i j=A i j:=fun i j h=>AN h;have hi:∀i,lE m A c i m=c i:=fun i=>AR (by omega)
 by_cases h:∃s,s<l/\L s=m
 . left;obtain ⟨s,hs,e⟩:=h;obtain ⟨q,q1,q2⟩:=I.never hs e;refine ⟨q,fun j hj=> ?_,?_,s1 ⟨s,hs,e⟩⟩
   . rw [<-q1 j hj];exact Ba.sum_congr fun i _=>by rw [lo i j hj]
   . intro z;apply q2;rw [<-z];exact Ba.sum_congr fun i _=>by rw [hi i]
 . right;have h:∀s,s<l->L s≠m:=fun s hs e=>h ⟨s,hs,e⟩;have at1:∀t,t<l -> - Ba.kv l L (fun t j=>Ba.redx B l L j t) last m (L t)=Ba.redx B l L m t:=fun t ht=>by rw [I.rr.kv_L ht (h t ht),Int.neg_neg]
   have at0:∀j,j<m->(∀t,t<l->L t≠j) -> - Ba.kv l L (fun t j=>Ba.redx B l L j t) last m j=0:=fun j hj hn=>by rw [Ba.kv_else (by omega) hn,Int.neg_zero]
   refine ⟨fun j=> - Ba.kv l L (fun t j=>Ba.redx B l L j t) last m j,last,I.nz,hlast,fun j hj=> ?_,fun i hin=> ?_,?_⟩
   . by_cases hx':∃t,t<l/\L t=j
     . obtain ⟨t,ht,rfl⟩:=hx';show (- Ba.kv l L (fun t j=>Ba.redx B l L j t) last m (L t)).natAbs<=_;rw [at1 t ht];exact hx t ht
     . show (- Ba.kv l L (fun t j=>Ba.redx B l L j t) last m j).natAbs<=_;rw [at0 j hj fun t ht e=>hx' ⟨t,ht,e⟩];exact DZ _
   . have f:=I.found h (X:=fun j=> - Ba.kv l L (fun t j=>Ba.redx B l L j t) last m j) at1 at0 i hin;rw [hi i] at f
     rw [<-f];exact Ba.sum_congr fun j hj=>by rw [lo i j hj]
   . rw [s2 h];congr 2
     refine BC fun j hj=> ?_;have hj:=C5.mp hj
     by_cases hx':∃t,t<l/\L t=j
     . obtain ⟨t,ht,rfl⟩:=hx';show _=BL (fr (- Ba.kv l L (fun t j=>Ba.redx B l L j t) last m (L t)) last);rw [jL I.Li ht,at1 t ht]
     . have hx':∀t,t<l->L t≠j:=fun t ht e=>hx' ⟨t,ht,e⟩;show _=BL (fr (- Ba.kv l L (fun t j=>Ba.redx B l L j t) last m j) last);rw [WU hx',at0 j hj hx',Q6 I.nz]
def O7(m:Nat)(A:Ba.Mx)(c:Nat->Int):Ba.Mx:=fun j i=>if j<m then A i j else c i
theorem i6 {n m : Nat} {A : Ba.Mx} {c : Nat -> Int} {r : Sl} (h1 : 1 <= n) (hn : n <= 32) (hm : m <= 32)
 (h:KG [FQ (m+1) n (tz (O7 m A c)),frD (m+1) (fun j=>(if j<m then 0 else 1,1))]=some r):W9 [FQ n m (tz A),frD n (fun i=>(c i,1))]=some r:=by
 have hs:=EY;have lo:=YM (n:=m) (m:=n) (f:=fun i j=>BL (tz A i j)) (by omega) h1 (by omega);refine EI (ρ:= [some (.val (FQ n m (tz A))),some (.val (frD n (fun i=>(c i,1)))),none]) rfl rfl ?_;unfold b_q44;refine BN (BF (ds:= [FQ n m (tz A)]) rfl lo) ?_;show Wp _ [some (.val (FQ n m (tz A))),some (.val (frD n (fun i=>(c i,1)))),some (.own ((List.range m).map fun j=> .list ((List.range n).map fun i=>BL (tz A i j))))] _;refine DL (BF (ds:= [FQ (m+1) n (tz (O7 m A c)),frD (m+1) (fun j=>(if j<m then 0 else 1,1))]) ?_ h) rfl;refine BD (a:= .own ((List.range (m+1)).map fun j=>frD n (tz (O7 m A c) j))) ?_ (BD (a:= .own ((List.range (m+1)).map fun j=>BL (if j<m then 0 else 1,1))) ?_ rfl)
 . refine (AF (op:=dAdd) rfl (RL (a:= .own ((List.range n).map fun i=>BL (c i,1))) rfl)).trans ((I0 rfl rfl ?_).trans ?_)
   . rw [A4,AE];show m+1<=_;omega
   . rw [FY,BJ];refine i0 ?_ ?_
     . refine List.map_congr_left fun j hj=> ?_;show PyData.list _=PyData.list _;refine congrArg PyData.list (List.map_congr_left fun i _=> ?_);unfold tz O7;rw [if_pos (List.mem_range.mp hj)]
     . show [PyData.list _] = [PyData.list _];refine congrArg (fun x=> [PyData.list x]) (List.map_congr_left fun i _=> ?_);unfold tz O7;rw [if_neg (by omega)]
 . have e : (mBin dRep (mLst (mCons (mK c_NOUGHT) mNil)) (mCallP dLen (mConsP (mPk 2) mNilP))) [some (.val (FQ n m (tz A))), some (.val (frD n (fun i => (c i, 1)))), some (.own ((List.range m).map fun j => .list ((List.range n).map fun i => BL (tz A i j))))] = some (.own ((List.range m).map fun _ => c_NOUGHT)) := by
    refine (AF (a:= .own [c_NOUGHT]) (b:= .val (.int ((m:Nat):Int))) (RL (a:= .val c_NOUGHT) rfl) ?_).trans (YJ (by omega));exact EN (EE rfl rfl) (by simp only [dLen,Sl.dat,A4,AE])
   refine (AF (op:=dAdd) e (RL (a:= .val c_UNIT) rfl)).trans ((I0 rfl rfl ?_).trans ?_)
   . rw [A4,AE];show m+1<=_;omega
   . rw [FY,BJ];refine i0 ?_ ?_
     . refine BC fun j hj=> ?_;rw [AN (C5.mp hj)];rfl
     . show [c_UNIT] = [BL _];rw [AR (by omega)];rfl
theorem WF {n m Y : Nat} {A : Ba.Mx} {c : Nat -> Int} (h1 : 1 <= n) (hn : n <= 32) (hm1 : 1 <= m) (hm : m <= 31) (hY1 : 1 <= Y) (hA : ∀ i, i < n -> ∀ j, j < m -> (A i j).natAbs <= Y) (hc : ∀ i, i < n -> (c i).natAbs <= Y) (hY : (32 * Y) ^ n < 2 ^ 4000) (hY2 : (32 * Y) ^ (m + 1) < 2 ^ 4000) :
 (∃(q:Nat->Int) (X:Nat->Int) (e:Int),(∀j,j<m->Ba.sumN n (fun i=>q i*A i j)=0)/\Ba.sumN n (fun i=>q i*c i)≠0/\e≠0/\e.natAbs<=(32*Y) ^ (m+1)/\(∀i,i<n->(X i).natAbs<=(32*Y) ^ (m+1)*(32*Y) ^ (m+1))/\(∀j,j<m->Ba.sumN n (fun i=>A i j*X i)=0)/\Ba.sumN n (fun i=>c i*X i)=e /\
  TC [FQ n m (tz A),frD n (fun i=>(c i,1))]=some (.val (.tuple [.str "never", .list ((List.range n).map fun i=>BL (fr (X i) e))]))) \/
 (∃(X:Nat->Int) (e:Int),e≠0/\e.natAbs<=(32*Y) ^ n/\(∀j,j<m->(X j).natAbs<=(32*Y) ^ n*(32*Y) ^ n)/\(∀i,i<n->Ba.sumN m (fun j=>A i j*X j)=e*c i)/\TC [FQ n m (tz A),frD n (fun i=>(c i,1))]=some (.val (.tuple [.str "found", .list ((List.range m).map fun j=>BL (fr (X j) e))]))):=by
 rcases VS h1 hn hm1 (by omega) hY1 hA hc hY with ⟨q,q1,q2,hq⟩ | ⟨X,e,e0,eb,xb,hx,hs⟩
 . left;have lo:∀j i,j<m->O7 m A c j i=A i j:=fun j i h=>AN h;have hi:∀i,O7 m A c m i=c i:=fun i=>AR (by omega)
   rcases VS (n:=m+1) (m:=n) (A:=O7 m A c) (c:=fun j=>if j<m then 0 else 1) (by omega) (by omega) h1 (by omega) hY1 (fun j _ i hi'=>by
    unfold O7
    by_cases h:j<m
    . rw [AN h];exact hA i hi' j h
    . rw [AR h];exact hc i hi') (fun j _=>by
    show ((if j<m then 0 else 1:Int)).natAbs<=Y
    split
    . exact DZ _
    . exact hY1) hY2 with ⟨p,p1,p2,_⟩ | ⟨X,e,e0,eb,xb,hx,hs⟩
   . exfalso
     have p2:p m≠0:=by
      intro z;apply p2;show Ba.sumN m (fun j=>p j*if j<m then 0 else 1)+p m*(if m<m then 0 else 1)=0;rw [z,EU,VG];exact Ba.sum_zero fun j hj=>by rw [AN hj,CL]
     have key:∀i,i<n->Ba.sumN m (fun j=>p j*A i j)+p m*c i=0:=fun i hin=>by
      have:=p1 i hin;have t:Ba.sumN m (fun j=>p j*O7 m A c j i)+p m*O7 m A c m i=0:=this;rw [hi i] at t
      rw [<-t];congr 1
      exact Ba.sum_congr fun j hj=>by rw [lo j i hj]
     have z:Ba.sumN n (fun i=>q i*(Ba.sumN m (fun j=>p j*A i j)+p m*c i))=0:=Ba.sum_zero fun i hin=>by rw [key i hin,CL]
     have s:Ba.sumN n (fun i=>q i*(Ba.sumN m (fun j=>p j*A i j)+p m*c i))=Ba.sumN n (fun i=>Ba.sumN m (fun j=>p j*(q i*A i j)))+p m*Ba.sumN n (fun i=>q i*c i):=by
      rw [<-Ba.sum_mul, <-Ba.sum_add];refine Ba.sum_congr fun i _=> ?_;rw [QD, <-Ba.sum_mul];congr 1
      . exact Ba.sum_congr fun j _=>by ac_rfl
      . ac_rfl
     rw [z,Ba.sum_comm] at s
     have s0:Ba.sumN m (fun j=>Ba.sumN n (fun i=>p j*(q i*A i j)))=0:=Ba.sum_zero fun j hj=>by rw [Ba.sum_mul,q1 j hj,CL]
     rw [s0,KJ] at s
     rcases FX.mp s.symm with h | h
     . exact p2 h
     . exact q2 h
   . refine ⟨q,X,e,q1,q2,e0,eb,xb,fun j hj=> ?_,?_,?_⟩
     . have:=hx j (by omega);have t:Ba.sumN n (fun i=>O7 m A c j i*X i)=e*(if j<m then 0 else 1):=this;rw [AN hj,CL] at t
       rw [<-t];exact Ba.sum_congr fun i _=>by rw [lo j i hj]
     . have:=hx m (by omega);have t:Ba.sumN n (fun i=>O7 m A c m i*X i)=e*(if m<m then 0 else 1):=this;rw [AR (by omega),GG] at t
       rw [<-t];exact Ba.sum_congr fun i _=>by rw [hi i]
     . have w:=i6 (A:=A) (c:=c) h1 hn (by omega) hs;refine EI (ρ:= [some (.val (FQ n m (tz A))),some (.val (frD n (fun i=>(c i,1)))),none]) rfl rfl ?_;unfold b_q34;refine BN (BF (ds:= [FQ n m (tz A),frD n (fun i=>(c i,1))]) rfl hq) ?_;show Wp _ [some (.val (FQ n m (tz A))),some (.val (frD n (fun i=>(c i,1)))),some (.val .none)] _;exact LR (OB rfl (DL (OS (a:= .val (.str "never")) rfl (BF (ds:= [FQ n m (tz A),frD n (fun i=>(c i,1))]) rfl w)) rfl))
 . right;refine ⟨X,e,e0,eb,xb,hx,?_⟩;refine EI (ρ:= [some (.val (FQ n m (tz A))),some (.val (frD n (fun i=>(c i,1)))),none]) rfl rfl ?_;unfold b_q34;refine BN (BF (ds:= [FQ n m (tz A),frD n (fun i=>(c i,1))]) rfl hs) ?_;show Wp _ [some (.val (FQ n m (tz A))),some (.val (frD n (fun i=>(c i,1)))),some (.own ((List.range m).map fun j=>BL (fr (X j) e)))] _;exact NL rfl (ED (DL (OS (a:= .val (.str "found")) (b:= .val (.list ((List.range m).map fun j=>BL (fr (X j) e)))) rfl rfl) rfl))
theorem SS{a b:Int}(hb:0<b)(hB:Bt 9000 b):OW [.int a, .int b]=some (.val (BL (fr a b))):=by
 refine FF (ρ:= [some (.val (.int a)),some (.val (.int b)),none,none]) rfl rfl ?_;unfold b_q10;have hs:=SX (a:=a) (show b≠0 by omega);have hS:=rL (a:=a) (show b≠0 by omega) hB;have e:((Int.gcd a b:Nat):Int)=sg a b:=by unfold sg;rw [if_neg (by omega)]
 have gp:0<((Int.gcd a b:Nat):Int):=by rw [e];unfold sg at *;rw [if_neg (by omega)] at *;omega
 refine FC (ρ':= [some (.val (.int a)),some (.val (.int b)),some (.val (.int a)),some (.val (.int b))]) (by walk_at "ev") ?_
 obtain ⟨ρ',h1,⟨x,y,rfl,hg⟩,h3⟩:=TR (c:=mTest (mBin dne (mPk 3) (mK (.int 0)))) (b:=(mPar 2 3 (mCons (mVar 3) (mCons (mBin FJ (mPk 2) (mPk 3)) mNil))))
  (ρ:= [some (.val (.int a)),some (.val (.int b)),some (.val (.int a)),some (.val (.int b))]) (fun ρ=>∃x y,ρ = [some (.val (.int a)),some (.val (.int b)),some (.val (.int x)),some (.val (.int y))]/\Int.gcd x y=Int.gcd a b)
  (fun ρ=>match ρ with | [_,_,_,some (.val (.int y))]=>y.natAbs | _=>0) ⟨a,b,rfl,rfl⟩ (by
   rintro ρ ⟨x,y,rfl,hg⟩
   by_cases hy:y=0
   . left
     walk_at "ev"
     simp [hy]
   . right;refine ⟨by walk_at "ev";simp [hy],_,by walk_at "ev";rw [M6 hy];walk_at "ev",⟨_,_,rfl,(WS x y).trans hg⟩,aB hy⟩)
 refine FC h1 ?_
 have hy:y=0:=by
  revert h3
  walk_at "ev"
  simp
 subst hy;rw [A06] at hg
 have xb:Bt 9000 x:=by
  refine D9 ?_ (show (sg a b).natAbs<2 ^ 9000 from hS);rw [<-e, <-hg];simp
 refine FC (ρ':= [some (.val (.int a)),some (.val (.int b)),some (.val (.int (sg a b))),some (.val (.int 0))]) ?_ ?_
 . walk_at "ev"
   rw [FM (.inr (IC (n:=9000) (m:=9000) xb hB rfl))]
   walk_at "ev"
   rcases (by omega:x=((Int.gcd a b:Nat):Int)\/x = - ((Int.gcd a b:Nat):Int)) with hx | hx
   . have:¬(x*b<0):=by rw [hx];have:=HH gp hb;omega
     have e2:sg a b=x:=by rw [<-e,hx]
     simp [this,e2]
   . have:x*b<0:=by rw [hx,FZ];have:=HH gp hb;omega
     have e2:sg a b = - x:=by rw [<-e,hx,Int.neg_neg]
     simp [this,e2]
 . refine GF ?_
   walk_at "ev"
   rw [PK ⟨hs,hS⟩,PK ⟨hs,hS⟩]
   walk_at "ev"
   rfl
theorem bt_sum{n p:Nat}{f:Nat->Int}(hn:n<=16)(h:∀i,i<n->Bt p (f i)):Bt (p+4) (Ba.sumN n f):=by
 have key:∀k,k<=n->(Ba.sumN k f).natAbs<=k*(2 ^ p - 1):=fun k=>by
  induction k with
  | zero=>exact fun _=>by simp [Ba.sumN]
  | succ k ih=>
   intro hk;show (Ba.sumN k f+f k).natAbs<=_;have h1:=ih (by omega);have h2:(f k).natAbs<2 ^ p:=h k (by omega);have h3:=VD (Ba.sumN k f) (f k);rw [Nat.add_mul,Nat.one_mul];omega
 have p1:0<2 ^ p:=HF (by decide);have:=key n (AA _);have h2:n*(2 ^ p - 1)<=16*(2 ^ p - 1):=F5 _ hn;show (Ba.sumN n f).natAbs<2 ^ (p+4);rw [xT];omega
theorem rP{p:Nat}{x:Int}(h:x.natAbs<=2 ^ p):Bt (p+1) x:=by
 show x.natAbs<2 ^ (p+1);have p1:0<2 ^ p:=HF (by decide);rw [O0];omega
theorem gS{c b:Int}(hc:0<c)(hb:0<b):c.fdiv (Int.gcd c b)*b=(Int.lcm c b:Nat):=by
 have hg:0<Int.gcd c b:=OV.mpr (.inl (by omega));have gl:=Int.gcd_mul_lcm c b;obtain ⟨x,hx⟩:=A38 c b;have gp:((Int.gcd c b:Nat):Int)≠0:=by omega
 have ex:c.fdiv (Int.gcd c b)=x:=by
  have:c.fdiv (Int.gcd c b)=(((Int.gcd c b:Nat):Int)*x).fdiv (Int.gcd c b):=by rw [<-hx]
  rw [this,G7 _ gp]
 rw [ex];refine M4 gp ?_;have cb:((c*b).natAbs:Int)=c*b:=QF (HU (HH hc hb))
 calc ((Int.gcd c b:Nat):Int)*(x*b)=c*b:=by rw [<-CD, <-hx]
  _=((Int.gcd c b*Int.lcm c b:Nat):Int):=by rw [gl,IE,QF (HU hc),QF (HU hb)]
  _=_:=by rw [IE]
theorem jY{a b c:Int}(h1:a ∣ c)(h2:b ∣ c):((Int.lcm a b:Nat):Int) ∣ c:=CP.mp (by rw [Int.natAbs_natCast];exact Nat.lcm_dvd (CP.mpr h1) (CP.mpr h2))
theorem PU{n:Nat}{a b:Nat->Int}(hn:n<=200)(ha:∀k,k<n->Bt 4000 (a k))(hb:∀k,k<n->Bt 4000 (b k)):IZ [CJ n a,CJ n b]=some (.val (.int (Ba.sumN n fun k=>a k*b k))):=by
 have hs:=EY;refine EI (ρ:= [some (.val (CJ n a)),some (.val (CJ n b))]) rfl rfl ?_;unfold b_q38;refine DL (EN (EE (a:= .own ((List.range n).map fun k=> .int (a k*b k))) (EX (ds:=(List.range n).map fun k=> .tuple [.int (a k), .int (b k)]) ?_ (by rw [List.length_map,List.length_range];omega) (CA fun k hk=> ?_)) rfl) OE) rfl
 . unfold N5;rw [BD (a:= .val (CJ n a)) rfl (BD (a:= .val (CJ n b)) rfl rfl)];show some (IX ((List.range n).map fun k=> .int (a k)) ((List.range n).map fun k=> .int (b k)))=_;rw [HY]
 . have hk:=C5.mp hk;show elM _ _ _ [none,none] _=_;exact GH (ρ1:= [some (.val (.int (a k))),some (.val (.int (b k)))]) (r:= .val (.int (a k*b k))) rfl ((AF (op:=dRep) (a:= .val (.int (a k))) (b:= .val (.int (b k))) rfl rfl).trans (FM (.inr (IC (n:=4000) (m:=4000) (ha k hk) (hb k hk) rfl))))
theorem V3{n:Nat}{a:Nat->Int}(hn:n<=200):P6 [CJ n a]=some (.own ((List.range n).map fun j=>BL (a j,1))):=by
 have hs:=EY;refine EI (ρ:= [some (.val (CJ n a))]) rfl rfl ?_;unfold b_q19;refine DL (EX (ds:=(List.range n).map fun j=> .int (a j)) rfl (by rw [List.length_map,List.length_range];omega) (CA fun j _=> ?_)) rfl;show elM _ _ _ [none] _=_;exact GH (ρ1:= [some (.val (.int (a j)))]) (r:= .val (BL (a j,1))) rfl (OS (a:= .val (.int (a j))) (b:= .val (.int 1)) rfl rfl)
theorem w6{N m:Nat}{R:Ba.Mx}(h1:1<=N)(hN:N<=200)(hm:m<=200)(hR:∀k,k<N->∀j,j<m->Bt 4000 (R k j)):W8 [.list (CU N m R)]=some (.own ((List.range m).map fun i=>frD m (tz (Ba.gram N R) i))):=by
 have hs:=EY;have lo:=YM (n:=m) (m:=N) (f:=fun k j=> .int (R k j)) hm h1 (by omega);refine EI (ρ:= [some (.val (.list (CU N m R))),none]) rfl rfl ?_;unfold b_q21;refine BN (BF (ds:= [.list (CU N m R)]) rfl lo) (ED ?_)
 let C1:Option Sl:=some (.val (.list ((List.range m).map fun j=> .list ((List.range N).map fun k=> .int (R k j)))))
 show Wp _ [some (.val (.list (CU N m R))),C1] _;refine DL (EX (ds:=(List.range m).map fun j=>CJ N fun k=>R k j) rfl (by rw [A4,AE];omega) (CA fun i hi=> ?_)) rfl;have hi:=C5.mp hi;show elM _ _ _ [C1,none] _=_;refine GH (ρ1:= [C1,some (.val (CJ N fun k=>R k i))]) (r:= .own ((List.range m).map fun j=>BL (Ba.gram N R i j,1))) rfl ?_;refine BF (ds:= [CJ m (Ba.gram N R i)]) (BD (a:= .own ((List.range m).map fun j=> .int (Ba.gram N R i j))) ?_ rfl) (V3 hm);refine EX (ds:=(List.range m).map fun j=>CJ N fun k=>R k j) rfl (by rw [A4,AE];omega) (CA fun j hj=> ?_);have hj:=C5.mp hj;show elM _ _ _ [some (.val (CJ N fun k=>R k i)),none] _=_;exact GH (ρ1:= [some (.val (CJ N fun k=>R k i)),some (.val (CJ N fun k=>R k j))]) (r:= .val (.int (Ba.gram N R i j))) rfl (BF (ds:= [CJ N fun k=>R k i,CJ N fun k=>R k j]) rfl (PU hN (fun k hk=>hR k hk i hi) (fun k hk=>hR k hk j hj)))
theorem iO{a b:Int}(hb:b≠0):(fr a b).2 ∣ b:=⟨sg a b,(UG a b hb).2.symm⟩
theorem MU{n:Nat}{a E:Int}(hE:E≠0)(h:a ∣ E)(B:Bt n E):Bt n a:=D9 (MJ (by omega) (CP.mpr h)) B
theorem RM{r:Nat->Int×Int}{E:Int}(hE:E≠0):∀ {m:Nat},(∀j,j<m->0<(r j).2/\(r j).2 ∣ E)->0<cbN r m/\cbN r m ∣ E/\∀j,j<m->(r j).2 ∣ cbN r m:=fun {m} h=>by
 have hb:∀j,j<m->0<(r j).2/\(r j).2.natAbs<=E.natAbs:=fun j hj=>⟨(h j hj).1,MJ (by omega) (CP.mpr (h j hj).2)⟩;obtain ⟨h1,c_,h3⟩:=OG (r:=r) (m:=m) hb;refine ⟨h1,?_,h3⟩;clear h1 h3 c_
 induction m with
 | zero=>exact Int.one_dvd E
 | succ m ih=>
  have i:=ih (fun j hj=>h j (by omega)) (fun j hj=>hb j (by omega));obtain ⟨p,_,_⟩:=OG (r:=r) (m:=m) fun j hj=>hb j (by omega);have q:=h m (by omega);show (cbN r m).fdiv (Int.gcd (cbN r m) (r m).2)*(r m).2 ∣ E;rw [gS p q.1];exact jY i q.2
theorem UT{m:Nat}{r:Nat->Int×Int}{E:Int}(hE:E≠0)(BE:Bt 4000 E)(h:∀j,j<m->0<(r j).2/\(r j).2 ∣ E):MH [frD m r]=some (.val (.int (cbN r m))):=by
 obtain ⟨ρ',hf,z,rfl⟩:=LW (fg:=gVar 2) (gb:=(mFrz 1 (mAsg 1 (mBin dRep (mBin EF (mPk 1) (mCall NG (mCons (mVar 1) (mCons (mBin dix (mPk 2) (mK (.int 1))) mNil)))) (mBin dix (mPk 2) (mK (.int 1)))))))
  (ds:=(List.range m).map fun j=>BL (r j)) (ρ:= [some (.val (frD m r)),some (.val (.int 1)),none]) (fun i ρ=>∃z,ρ = [some (.val (frD m r)),some (.val (.int (cbN r i))),z]) ⟨none,rfl⟩ (by
   rintro i d ρ hd ⟨z,rfl⟩;rw [AS] at hd
   by_cases hi:i<m
   . rw [BO hi] at hd
     cases hd
     obtain ⟨c1,c2,c3⟩:=RM (r:=r) hE (m:=i) fun j hj=>h j (by omega);obtain ⟨h4,h5⟩:=h i hi;have b1:Bt 4000 (cbN r i):=MU hE c2 BE;have b2:Bt 4000 (r i).2:=MU hE h5 BE;have hg:0<Int.gcd (cbN r i) (r i).2:=OV.mpr (.inl (by omega))
     have b3:Bt 4000 ((Int.gcd (cbN r i) (r i).2:Nat):Int):=by
      refine b2.of_le ?_;have:=CP.mpr (M9 (cbN r i) (r i).2);exact MJ (by omega) (by simpa using this)
     refine ⟨_,rfl,[some (.val (frD m r)),some (.val (.int (cbN r (i+1)))),some (.val (BL (r i)))], .inl ?_,_,rfl⟩;simp only [mFrz,frz1,mAsg,mBin,mPk,mVar,mK,mCall,mCons,mNil,GL,GJ,CM,BX,DY,BQ,MT,Sl.dat,Y8];rw [PK ⟨by omega,b3.mono (by decide)⟩];simp only [BQ];rw [FM (.inr (IC (n:=4000) (m:=4000) b1.fdiv b2 rfl))];rfl
   . rw [BZ (l:=List.range m) (by simpa using hi)] at hd;cases hd)
 rw [A4,AE] at hf
 refine FF (ρ:= [some (.val (frD m r)),none,none]) rfl rfl ?_;unfold b_q23;refine FC (EL (r:= .val (.int 1)) rfl) (FC (MW (ds:=(List.range m).map fun j=>BL (r j)) rfl hf) (GF rfl))
theorem aQ{m:Nat}{r:Nat->Int×Int}{E:Int}(hE:E≠0)(BE:Bt 4000 E)(h:∀j,j<m->0<(r j).2/\(r j).2 ∣ E)(hT:∀j,j<m->Bt 4000 (r j).1)(hm:m<=1000):KU [frD m r]=some (.own ((List.range m).map fun j=> .int (whN m r j))):=by
 obtain ⟨c1,c2,c3⟩:=RM (r:=r) hE (m:=m) h;refine FF (ρ:= [some (.val (frD m r)),none]) rfl rfl ?_;unfold b_q43;refine FC (EL (BF (ds:= [frD m r]) rfl (UT hE BE h))) (GF (EX (ds:=(List.range m).map fun j=>BL (r j)) rfl ?_ ?_))
 . rw [A4,AE];have:1000<sizeLine:=by decide
   omega
 . refine CA fun j hj=> ?_;have hj:=List.mem_range.mp hj;show elM _ _ _ [some (.val (.int (cbN r m))),none] _=_;unfold elM;obtain ⟨h4,h5⟩:=h j hj;have b1:Bt 4000 (cbN r m):=MU hE c2 BE;have b2:Bt 4000 (r j).2:=MU hE h5 BE;simp only [gVar,mYes,mBin,mPk,mK,List.set_cons_succ,List.set_cons_zero,List.getElem?_cons_zero,List.getElem?_cons_succ,Option.join_some,Option.bind_some,R7,MT];rw [PK ⟨by omega,b2.mono (by decide)⟩];simp only [Option.bind_some];rw [FM (.inr (IC (n:=4000) (m:=4000) (hT j hj) b1.fdiv rfl))];rfl
theorem nK {N m : Nat} {R : Ba.Mx} {x : Nat -> Int × Int} {E : Int} (hN : N <= 200) (hm : m <= 200) (hR : ∀ k, k < N -> ∀ j, j < m -> Bt 4000 (R k j)) (hE : E ≠ 0) (BE : Bt 4000 E) (h : ∀ j, j < m -> 0 < (x j).2 /\ (x j).2 ∣ E) (hT : ∀ j, j < m -> Bt 4000 (x j).1) (hw : ∀ j, j < m -> Bt 4000 (whN m x j)) :
 X2 [.list (CU N m R),frD m x]=some (.own ((List.range N).map fun k=>BL (fr (Ba.sumN m fun j=>R k j*whN m x j) (cbN x m)))):=by
 have hs:=EY;obtain ⟨c1,c2,c3⟩:=RM (r:=x) hE (m:=m) h;refine EI (ρ:= [some (.val (.list (CU N m R))),some (.val (frD m x)),none,none]) rfl rfl ?_;unfold b_q39;refine BN (BF (ds:= [frD m x]) rfl (UT hE BE h)) ?_;refine BN (BF (ds:= [frD m x]) rfl (aQ hE BE h hT (by omega))) (ED (ED ?_))
 let W3:Option Sl:=some (.val (CJ m (whN m x)))
 show Wp _ [some (.val (.list (CU N m R))),some (.val (frD m x)),some (.val (.int (cbN x m))),W3] _
 have e:(mLC (D3 [some 3,none]) (mItems (mVar 0)) (gVar 1) mYes (mCall IZ (mCons (mVar 1) (mCons (mVar 0) mNil)))) [some (.val (.list (CU N m R))),some (.val (frD m x)),some (.val (.int (cbN x m))),W3]=some (.own ((List.range N).map fun k=> .int (Ba.sumN m fun j=>R k j*whN m x j))):=by
  refine EX (ds:=CU N m R) rfl (by rw [Q7];omega) (CA fun k hk=> ?_);have hk:=C5.mp hk;show elM _ _ _ [W3,none] _=_;exact GH (ρ1:= [W3,some (.val (CJ m (R k)))]) (r:= .val (.int (Ba.sumN m fun j=>R k j*whN m x j))) rfl (BF (ds:= [CJ m (R k),CJ m (whN m x)]) rfl (PU hm (hR k hk) hw))
 exact DL (BF (ds:= [.list ((List.range N).map fun k=> .int (Ba.sumN m fun j=>R k j*whN m x j)), .int (cbN x m)]) (BD e (BD (a:= .val (.int (cbN x m))) rfl rfl)) (j6 hN (by omega) ((MU hE c2 BE).mono (by decide)))) rfl
theorem fM(n:Nat):(32*2 ^ 58) ^ n=2 ^ (63*n):=by
 rw [show 32*2 ^ 58=2 ^ 63 by decide, <-Nat.pow_mul]
theorem y7{n:Nat}(h:n<=7):(32*2 ^ 58) ^ n<2 ^ 4000:=by
 rw [fM];exact Nat.pow_lt_pow_right (by decide) (by omega)
theorem A20{n d:Nat}(h:n<=d):(32*2 ^ 58) ^ n<=2 ^ (63*d):=by
 rw [fM];exact BW (by decide) (by omega)
theorem A22{n d:Nat}(h:n<=d):(32*2 ^ 58) ^ n*(32*2 ^ 58) ^ n<=2 ^ (126*d):=by
 rw [fM, <-xT];exact BW (by decide) (by omega)
theorem xY{N m:Nat}{R:Ba.Mx}(hN:N<=16)(hR:∀k,k<N->∀j,j<m->Bt 12 (R k j)){i j:Nat}(hi:i<m)(hj:j<m):(Ba.gram N R i j).natAbs<=2 ^ 58:=by
 have h:Bt (12+12+4) (Ba.gram N R i j):=bt_sum hN fun k hk=>(hR k hk i hi).mul (hR k hk j hj);exact HP (h.mono (m:=58) (by decide))
theorem OO{a b:Int×Int}(ha:0<a.2)(hb:0<b.2)(B1:Bt 4000 a.1)(B2:Bt 4000 b.1)(B3:Bt 4000 a.2)(B4:Bt 4000 b.2):P3 [BL a,BL b]=some (.val (BL (fr (a.1*b.2 - b.1*a.2) (a.2*b.2)))):=by
 have M:∀ {i j:Int},Bt 4000 i->Bt 4000 j->NS i j:=fun h k=> .inr (IC h k rfl);have a0:∀ {f:En->Option Sl} {ρ:En} {q:Int×Int},f ρ=some (.val (BL q))->mBin dix f (mK (.int 0)) ρ=some (.val (.int q.1)):=fun h=>(AF (b:= .val (.int 0)) h rfl).trans (R7 _);have a1:∀ {f:En->Option Sl} {ρ:En} {q:Int×Int},f ρ=some (.val (BL q))->mBin dix f (mK (.int 1)) ρ=some (.val (.int q.2)):=fun h=>(AF (b:= .val (.int 1)) h rfl).trans (MT _);have p:=Int.mul_pos ha hb;refine FF (ρ:= [some (.val (BL a)),some (.val (BL b))]) rfl rfl ?_;unfold b_q31;refine GF (BF (ds:= [.int (a.1*b.2 - b.1*a.2), .int (a.2*b.2)]) ?_ (RW (by omega) ((B3.mul B4).mono (by decide))));refine (BD (a:= .val (.int (a.1*b.2 - b.1*a.2))) (as:= [.int (a.2*b.2)]) ?_ (BD (a:= .val (.int (a.2*b.2))) ?_ rfl)).trans rfl
 . refine (AF (a:= .val (.int (a.1*b.2))) (b:= .val (.int (b.1*a.2))) ?_ ?_).trans rfl
   . exact (AF (a0 (q:=a) rfl) (a1 (q:=b) rfl)).trans (FM (M B1 B4))
   . exact (AF (a0 (q:=b) rfl) (a1 (q:=a) rfl)).trans (FM (M B2 B3))
 . exact (AF (a1 (q:=a) rfl) (a1 (q:=b) rfl)).trans (FM (M B3 B4))
theorem oH {N m : Nat} {R : Ba.Mx} {s : Nat -> Int} (h1 : 1 <= N) (hN : N <= 16) (hm1 : 1 <= m) (hm : m <= 6) (hR : ∀ k, k < N -> ∀ j, j < m -> Bt 12 (R k j)) (hS : ∀ k, k < N -> Bt 42 (s k)) :
 ∃(X:Nat->Int) (e:Int) (v:Nat->Int) (E:Int),e≠0/\Bt 379 e/\(∀i,i<m->Bt 757 (X i))/\0<E/\Bt 379 E/\(∀j,j<m->Bt 1136 (v j))/\(∀j,j<m->v j*e=X j*E)/\(∀j,j<m->Ba.sumN m (fun i=>Ba.gram N R j i*X i)=e*Ba.sumN N (fun k=>R k j*s k)) /\
   N3 [.list (CU N m R),CJ N s]=some (.val (.tuple [frD m (fun j=>fr (X j) e),frD N (fun k=>fr (Ba.sumN m fun j=>R k j*v j) E),frD N (fun k=>fr (s k*E - Ba.sumN m fun j=>R k j*v j) E)])):=by
 have hs:=EY;have R4:∀k,k<N->∀j,j<m->Bt 4000 (R k j):=fun k hk j hj=>(hR k hk j hj).mono (by decide)
 let c:Nat->Int:=fun j=>Ba.sumN N fun k=>R k j*s k
 have cB:∀j,j<m->(c j).natAbs<=2 ^ 58:=fun j hj=>by
  have h:Bt (12+42+4) (c j):=bt_sum hN fun k hk=>(hR k hk j hj).mul (hS k hk);exact HP (h.mono (m:=58) (by decide))
 have af:=V3 (n:=m) (a:=c) (by omega);have cp:=w6 (R:=R) (m:=m) h1 (by omega) (by omega) R4;have as':=V3 (n:=N) (a:=s) (by omega);have lo:=YM (n:=m) (m:=N) (f:=fun k j=> .int (R k j)) (by omega) h1 (by omega);rcases WF (n:=m) (m:=m) (Y:=2 ^ 58) (A:=Ba.gram N R) (c:=c) hm1 (by omega) hm1 (by omega) (HF (by decide)) (fun i hi j hj=>xY hN hR hi hj) cB (y7 (by omega)) (y7 (by omega)) with ⟨q,_,_,q1,q2,_⟩ | ⟨X,e,e0,eb,xb,hx,hsol⟩
 . exfalso;apply q2
   have z:∀k,k<N->Ba.sumN m (fun j=>R k j*q j)=0:=Ba.gram_zero fun j hj=>by
    rw [<-q1 j hj];exact Ba.sum_congr fun i _=>by rw [Ba.gram_sym,C4]
   have s1:Ba.sumN m (fun i=>q i*c i)=Ba.sumN m (fun i=>Ba.sumN N (fun k=>s k*(R k i*q i))):=Ba.sum_congr fun i _=>by
    show q i*Ba.sumN N (fun k=>R k i*s k)=_;rw [<-Ba.sum_mul];exact Ba.sum_congr fun k _=>by ac_rfl
   rw [s1,Ba.sum_comm];exact Ba.sum_zero fun k hk=>by rw [Ba.sum_mul,z k hk,CL]
 . have eb:Bt 379 e:=(rP (BG eb (A20 (d:=6) (by omega)))).mono (by decide);have xb:∀i,i<m->Bt 757 (X i):=fun i hi=>(rP (BG (xb i hi) (A22 (d:=6) (by omega)))).mono (by decide)
   let x:Nat->Int×Int:=fun j=>fr (X j) e
   have hb:∀j,j<m->0<(x j).2/\(x j).2 ∣ e:=fun j hj=>⟨FV e0,iO e0⟩;have hT:∀j,j<m->Bt 757 (x j).1:=fun j hj=>(xb j hj).fdiv;obtain ⟨c1,c2,c3⟩:=RM (r:=x) e0 (m:=m) hb;have Eb:Bt 379 (cbN x m):=MU e0 c2 eb
   have wb:∀j,j<m->Bt 1136 (whN m x j):=fun j hj=>by
    show Bt 1136 ((x j).1*(cbN x m).fdiv (x j).2);exact ((hT j hj).mul Eb.fdiv)
   have sw:=nK (N:=N) (m:=m) (R:=R) (x:=x) (by omega) (by omega) R4 e0 (eb.mono (by decide)) hb (fun j hj=>(hT j hj).mono (by decide)) (fun j hj=>(wb j hj).mono (by decide));have E0:cbN x m≠0:=by omega
   have ab:∀k,k<N->Bt 1160 (Ba.sumN m fun j=>R k j*whN m x j):=fun k hk=>(bt_sum (p:=1150) (by omega) fun j hj=>((hR k hk j hj).mul (wb j hj)).mono (by decide)).mono (by decide);refine ⟨X,e,whN m x,cbN x m,e0,eb,xb,by omega,Eb,wb,fun i hi=> ?_,hx,?_⟩
   . show (x i).1*(cbN x m).fdiv (x i).2*e=_;have q1:(x i).1*e=X i*(x i).2:=FS e0
     have q2:(x i).2*(cbN x m).fdiv (x i).2=cbN x m:=by
      obtain ⟨v,hv⟩:=c3 i hi;rw [hv,G7 _ (by have:=(hb i hi).1;omega)]
     calc (x i).1*(cbN x m).fdiv (x i).2*e=((x i).1*e)*(cbN x m).fdiv (x i).2:=by ac_rfl
      _=X i*((x i).2*(cbN x m).fdiv (x i).2):=by rw [q1,CD]
      _=_:=by rw [q2]
   . let Rv:Option Sl:=some (.val (.list (CU N m R)))
     let Sv:Option Sl:=some (.val (CJ N s))
     let C3:Option Sl:=some (.val (CJ m c))
     let W4:Option Sl:=some (.val (frD m x))
     let F:Nat->PyData:=fun k=>BL (fr (Ba.sumN m fun j=>R k j*whN m x j) (cbN x m))
     let L:Nat->PyData:=fun k=>BL (fr (s k*cbN x m - Ba.sumN m fun j=>R k j*whN m x j) (cbN x m))
     refine EI (ρ:= [Rv,Sv,none,none,none,none]) rfl rfl ?_;unfold b_fit;refine BN (r:= .own ((List.range m).map fun j=> .int (c j))) (EX (ds:=(List.range m).map fun j=>CJ N fun k=>R k j) ?_ (by rw [List.length_map,List.length_range];omega) (CA fun j hj=> ?_)) ?_
     . unfold mItems;rw [BF (ds:= [.list (CU N m R)]) rfl lo];rfl
     . have hj:=C5.mp hj;show elM _ _ _ [Sv,none] _=_;exact GH (ρ1:= [Sv,some (.val (CJ N fun k=>R k j))]) (r:= .val (.int (c j))) rfl (BF (ds:= [CJ N fun k=>R k j,CJ N s]) rfl (PU (by omega) (fun k hk=>R4 k hk j hj) (fun k hk=>(hS k hk).mono (by decide))))
     refine FE (ρ':= [Rv,Sv,C3,W4,none,none]) ?_ ?_
     . rw [KQ];exact EL ((AF (op:=dix) (a:= .val (.tuple [.str "found",frD m x])) (b:= .val (.int ((1:Nat):Int))) (BF (ds:= [FQ m m (tz (Ba.gram N R)),frD m (fun i=>(c i,1))]) (BD (BF (ds:= [.list (CU N m R)]) rfl cp) (BD (BF (ds:= [CJ m c]) rfl af) rfl)) hsol) rfl).trans (GR (.inr rfl) rfl))
     refine FE (ρ':= [Rv,Sv,C3,W4,some (.own ((List.range N).map F)),none]) ?_ ?_
     . rw [KQ];exact EL (BF (ds:= [.list (CU N m R),frD m x]) rfl sw)
     refine FE (ρ':= [Rv,Sv,C3,W4,some (.val (.list ((List.range N).map F))),some (.own ((List.range N).map L))]) ?_ ?_
     . rw [KQ];refine EL (EX (ds:=(List.range N).map fun k=> .tuple [BL (s k,1),F k]) ?_ (by rw [A4,AE];omega) (CA fun k hk=> ?_))
       . unfold N5;rw [BD (a:= .own ((List.range N).map fun k=>BL (s k,1))) (BF (ds:= [CJ N s]) rfl as') (BD (a:= .val (.list ((List.range N).map F))) rfl rfl)];show some (IX ((List.range N).map fun k=>BL (s k,1)) ((List.range N).map F))=_;rw [HY]
       . have hk:=C5.mp hk;show elM _ _ _ [none,none] _=_;have f1:=zF (n:=4000) ((ab k hk).mono (by decide)) (Eb.mono (by decide));have mi:=OO (a:=(s k,1)) (b:=fr (Ba.sumN m fun j=>R k j*whN m x j) (cbN x m)) (by show (0:Int)<1;decide) (FV E0) ((hS k hk).mono (by decide)) f1.1 (by show (1:Int).natAbs<2 ^ 4000;exact AM (show 1<2 ^ 1 by decide) (BW (by decide) (by decide))) f1.2
         have e1:fr ((s k,(1:Int)).1*(fr (Ba.sumN m fun j=>R k j*whN m x j) (cbN x m)).2 - (fr (Ba.sumN m fun j=>R k j*whN m x j) (cbN x m)).1*(s k,(1:Int)).2) ((s k,(1:Int)).2*(fr (Ba.sumN m fun j=>R k j*whN m x j) (cbN x m)).2)=fr (s k*cbN x m - Ba.sumN m fun j=>R k j*whN m x j) (cbN x m):=by
          have p1:=FV (a:=Ba.sumN m fun j=>R k j*whN m x j) E0;have q1:=FS (a:=Ba.sumN m fun j=>R k j*whN m x j) E0;show fr (s k*_ - _*1) (1*_)=_;generalize (Ba.sumN m fun j=>R k j*whN m x j)=a at *
          generalize fr a (cbN x m)=p at *
          generalize cbN x m=E at *
          refine P1 (by omega) E0 ?_
          calc (s k*p.2 - p.1*1)*E=s k*p.2*E - p.1*E:=by rw [GG,xV]
           _=s k*p.2*E - a*p.2:=by rw [q1]
           _=(s k*E - a)*(1*p.2):=by rw [QE,xV];congr 1;ac_rfl
         rw [e1] at mi
         exact GH (ρ1:= [some (.val (BL (s k,1))),some (.val (F k))]) (r:= .val (L k)) rfl (BF (ds:= [BL (s k,1),F k]) rfl mi)
     refine ED (ED (ED (DL (r:= .val (.tuple [frD m x, .list ((List.range N).map F), .list ((List.range N).map L)])) ?_ rfl)));unfold mTup;rw [BD (a:= .val (frD m x)) rfl (BD (a:= .val (.list ((List.range N).map F))) rfl (BD (a:= .val (.list ((List.range N).map L))) rfl (show mNil _=some [] from rfl)))];exact if_pos (e:=none) (show 3<=sizeLine by decide)
theorem j3 {N m : Nat} {R : Ba.Mx} {s : Nat -> Int} (h1 : 1 <= N) (hN : N <= 16) (hm1 : 1 <= m) (hm : m <= 6) (hR : ∀ k, k < N -> ∀ j, j < m -> Bt 12 (R k j)) (hS : ∀ k, k < N -> Bt 42 (s k)) :
 ∃(v:Nat->Int) (E:Int) (d0 d2:PyData),0<E/\Bt 379 E/\(∀k,k<N->Bt 1160 (Ba.sumN m fun j=>R k j*v j))/\(∀j,j<m->Ba.sumN N (fun k=>R k j*(s k*E - Ba.sumN m fun j=>R k j*v j))=0) /\
   N3 [.list (CU N m R),CJ N s]=some (.val (.tuple [d0,frD N (fun k=>fr (Ba.sumN m fun j=>R k j*v j) E),d2])):=by
 obtain ⟨X,e,v,E,e0,eb,Xb,Ep,Eb,vb,hv,hX,hf⟩:=oH h1 hN hm1 hm hR hS;refine ⟨v,E,_,_,Ep,Eb,fun k hk=>(bt_sum (p:=1150) (by omega) fun j hj=>((hR k hk j hj).mul (vb j hj)).mono (by decide)).mono (by decide),fun j hj=> ?_,hf⟩
 let f:Nat->Int:=fun k=>Ba.sumN m fun j=>R k j*v j
 have fe:∀k,f k*e=(Ba.sumN m fun j=>R k j*X j)*E:=fun k=>by
  show (Ba.sumN m fun j=>R k j*v j)*e=_;rw [<-Ba.sum_mul_right, <-Ba.sum_mul_right];exact Ba.sum_congr fun j hj=>by rw [CD,hv j hj,CD]
 refine Ba.mul_cancel e0 ?_;rw [CL, <-Ba.sum_mul]
 have e1:Ba.sumN N (fun k=>e*(R k j*(s k*E - f k)))=Ba.sumN N (fun k=>(R k j*s k)*(e*E)+(R k j*Ba.sumN m (fun i=>R k i*X i))*(-E)):=Ba.sum_congr fun k _=>by
  have:=fe k
  grind
 show Ba.sumN N (fun k=>e*(R k j*(s k*E - f k)))=0;rw [e1,Ba.sum_add,Ba.sum_mul_right,Ba.sum_mul_right, <-Ba.gram_mul,hX j hj]
 grind
theorem hV{n:Nat}{a b:Nat->Int}(hn:n<=200)(ha:∀k,k<n->Bt 5000 (a k))(hb:∀k,k<n->Bt 5000 (b k)):IZ [CJ n a,CJ n b]=some (.val (.int (Ba.sumN n fun k=>a k*b k))):=by
 have hs:=EY;refine EI (ρ:= [some (.val (CJ n a)),some (.val (CJ n b))]) rfl rfl ?_;unfold b_q38;refine DL (EN (EE (a:= .own ((List.range n).map fun k=> .int (a k*b k))) (EX (ds:=(List.range n).map fun k=> .tuple [.int (a k), .int (b k)]) ?_ (by rw [List.length_map,List.length_range];omega) (CA fun k hk=> ?_)) rfl) OE) rfl
 . unfold N5;rw [BD (a:= .val (CJ n a)) rfl (BD (a:= .val (CJ n b)) rfl rfl)];show some (IX ((List.range n).map fun k=> .int (a k)) ((List.range n).map fun k=> .int (b k)))=_;rw [HY]
 . have hk:=C5.mp hk;show elM _ _ _ [none,none] _=_;exact GH (ρ1:= [some (.val (.int (a k))),some (.val (.int (b k)))]) (r:= .val (.int (a k*b k))) rfl ((AF (op:=dRep) (a:= .val (.int (a k))) (b:= .val (.int (b k))) rfl rfl).trans (FM (.inr (IC (n:=5000) (m:=5000) (ha k hk) (hb k hk) rfl))))
theorem WG{N:Nat}{a:Nat->Int}{E:Int}(hN:N<=16)(hE:E≠0)(BE:Bt 379 E)(ha:∀k,k<N->Bt 1160 (a k)):VL [frD N (fun k=>fr (a k) E)]=some (.val (BL (fr (Ba.sumN N fun k=>a k*a k) (E*E)))):=by
 let w:Nat->Int×Int:=fun k=>fr (a k) E
 have hb:∀j,j<N->0<(w j).2/\(w j).2 ∣ E:=fun j hj=>⟨FV hE,iO hE⟩;have hT:∀j,j<N->Bt 1160 (w j).1:=fun j hj=>(ha j hj).fdiv;obtain ⟨c1,c2,c3⟩:=RM (r:=w) hE (m:=N) hb;have Eb:Bt 379 (cbN w N):=MU hE c2 BE
 have wb:∀j,j<N->Bt 1539 (whN N w j):=fun j hj=>by
  show Bt 1539 ((w j).1*(cbN w N).fdiv (w j).2);exact (hT j hj).mul Eb.fdiv
 have b0:cbN w N≠0:=by omega
 have wx:∀i,i<N->whN N w i*E=a i*cbN w N:=fun i hi=>by
  show (w i).1*(cbN w N).fdiv (w i).2*E=_;have q1:(w i).1*E=a i*(w i).2:=FS hE
  have q2:(w i).2*(cbN w N).fdiv (w i).2=cbN w N:=by
   obtain ⟨v,hv⟩:=c3 i hi;rw [hv,G7 _ (by have:=(hb i hi).1;omega)]
  calc (w i).1*(cbN w N).fdiv (w i).2*E=((w i).1*E)*(cbN w N).fdiv (w i).2:=by ac_rfl
   _=a i*((w i).2*(cbN w N).fdiv (w i).2):=by rw [q1,CD]
   _=_:=by rw [q2]
 have eq:fr (Ba.sumN N fun k=>whN N w k*whN N w k) (cbN w N*cbN w N)=fr (Ba.sumN N fun k=>a k*a k) (E*E):=by
  refine P1 (DH b0 b0) (DH hE hE) ?_;rw [<-Ba.sum_mul_right, <-Ba.sum_mul_right];refine Ba.sum_congr fun k hk=> ?_
  calc whN N w k*whN N w k*(E*E)=(whN N w k*E)*(whN N w k*E):=by ac_rfl
   _=(a k*cbN w N)*(a k*cbN w N):=by rw [wx k hk]
   _=_:=by ac_rfl
 rw [<-eq];refine EI (ρ:= [some (.val (frD N w)),none,none]) rfl rfl ?_;unfold b_q35;refine BN (BF (ds:= [frD N w]) rfl (UT hE (BE.mono (by decide)) hb)) ?_;refine BN (BF (ds:= [frD N w]) rfl (aQ hE (BE.mono (by decide)) hb (fun j hj=>(hT j hj).mono (by decide)) (by omega))) (ED ?_);show Wp _ [some (.val (frD N w)),some (.val (.int (cbN w N))),some (.val (CJ N (whN N w)))] _;have s1:=hV (n:=N) (a:=whN N w) (b:=whN N w) (by omega) (fun k hk=>(wb k hk).mono (by decide)) (fun k hk=>(wb k hk).mono (by decide));refine DL (BF (ds:= [.int (Ba.sumN N fun k=>whN N w k*whN N w k), .int (cbN w N*cbN w N)]) (BD (BF (ds:= [CJ N (whN N w),CJ N (whN N w)]) rfl s1) (BD (a:= .val (.int (cbN w N*cbN w N))) ((AF (op:=dRep) (a:= .val (.int (cbN w N))) (b:= .val (.int (cbN w N))) rfl rfl).trans (FM (.inr (IC (n:=379) (m:=379) Eb Eb rfl)))) rfl)) (RW (Int.mul_ne_zero b0 b0) ((Eb.mul Eb).mono (by decide)))) rfl
theorem t7(c:Int){most:Nat}(hm:most<=900):∃L:List Nat,VR [.int c, .int most]=some (.own (nl L))/\(∀s ∈ L,2<=s/\s<=7)/\L.length<=4/\Tr.prodN L<=max 1 most:=by
 have sl:=EY
 let C:Option Sl:=some (.val (.int c))
 let M:Option Sl:=some (.val (.int most))
 have key:Wp b_q11 [C,M,none,none,none,none,none,none,none] (fun o=>∃(L:List Nat) (ρ':En),o = .rt (.own (nl L)) ρ'/\(∀s ∈ L,2<=s/\s<=7)/\L.length<=4/\Tr.prodN L<=max 1 most):=by
  unfold b_q11;obtain ⟨v,ev,bv⟩:=LH (fa:=mPk 0) (fb:=mK (.int 4)) (ρ:= [C,M,none,none,none,none,none,none,none]) rfl rfl (by decide);refine BN (r:= .val (.int ((v+1:Nat):Int))) ((AF (op:=dAdd) (fa:=mK (.int 1)) rfl ev).trans ?_) (BN II (BN (r:= .val (.int (c.fdiv 8))) ((AF (op:=EF) rfl rfl).trans (P8 (by decide) (by decide))) ?_))
  . show some (Sl.val (.int (1+(v:Int))))=_;rw [show 1+(v:Int)=((v+1:Nat):Int) by omega]
  let N2:Option Sl:=some (.val (.int ((v+1:Nat):Int)))
  refine EJ (P:=fun ρ=>∃(L:List Nat) (l:Int) (z5 z6 z7 z8:Option Sl),ρ = [C,M,N2,some (.own (nl L)),some (.val (.int l)),z5,z6,z7,z8]/\(∀s ∈ L,2<=s/\s<=7)/\L.length<=4/\Tr.prodN L<=max 1 most) ?_ ?_
  . refine NP (n:=v+1) (fun k ρ=>∃(L:List Nat) (l:Int) (z5 z6 z7 z8:Option Sl),ρ = [C,M,N2,some (.own (nl L)),some (.val (.int l)),z5,z6,z7,z8]/\(∀s ∈ L,2<=s/\s<=7)/\L.length<=k/\Tr.prodN L<=max 1 most) (IJ (j:=v+1) rfl (by omega)) ⟨[],_,_,_,_,_,rfl,by simp,by simp,by simp [Tr.prodN];omega⟩ ?_ ?_
    . rintro k ρ hk ⟨L,l,z5,z6,z7,z8,rfl,h1,h2,h3⟩;refine ⟨_,rfl,?_⟩
      let K5:Option Sl:=some (.val (.int (k:Nat)))
      let LO:Option Sl:=some (.own (nl L))
      show Wp _ [C,M,N2,LO,some (.val (.int l)),K5,z6,z7,z8] _;obtain ⟨w,ew⟩:=QN (args:=(mCons (mVar 0) (mCons (mBin dAdd (mK (.int 200)) (mPk 5)) mNil))) (ρ:= [C,M,N2,LO,some (.val (.int l)),K5,z6,z7,z8]) (c:=c) (j:=200+(k:Nat)) rfl (by omega) (by omega);obtain ⟨x,ex,bx⟩:=LH ew (fb:=mK (.int 3)) rfl (by decide);refine BN (r:= .val (.int (2+(x:Int)))) ((AF (op:=dAdd) (fa:=mK (.int 2)) rfl ex).trans rfl) ?_;refine EJ (P:=fun ρ=>∃y:Nat,ρ = [C,M,N2,LO,some (.val (.int l)),K5,some (.val (.int ((y+2:Nat):Int))),z7,z8]/\y<=5) ?_ ?_
      . obtain ⟨w2,ew2⟩:=QN (args:=(mCons (mVar 0) (mCons (mK (.int 220)) mNil))) (ρ:= [C,M,N2,LO,some (.val (.int l)),K5,some (.val (.int (2+(x:Int)))),z7,z8]) (c:=c) (j:=220) rfl (by decide) (by decide);obtain ⟨x2,ex2,_⟩:=LH ew2 (fb:=mK (.int 3)) rfl (by decide);refine MC (IW ex2 rfl) ?_
        cases decide ((x2:Int)=0)
        . refine HM ⟨x,?_,by omega⟩;rw [show ((x+2:Nat):Int)=2+(x:Int) by omega];rfl
        . exact FK (r:= .val (.int 2)) rfl ⟨0,rfl,by decide⟩
      rintro ρ ⟨y,rfl,hy⟩;refine EJ (P:=fun ρ=>∃(y:Nat) (l:Int),ρ = [C,M,N2,LO,some (.val (.int l)),K5,some (.val (.int ((y+2:Nat):Int))),z7,z8]/\y<=5) ?_ ?_
      . obtain ⟨x2,ex2,_⟩:=LH (fa:=mBin EF (mPk 0) (mK (.int 4))) (fb:=mK (.int 2)) (ρ:= [C,M,N2,LO,some (.val (.int l)),K5,some (.val (.int ((y+2:Nat):Int))),z7,z8]) ((AF (op:=EF) rfl rfl).trans (P8 (by decide) (by decide))) rfl (by decide);refine MC (IW ex2 rfl) ?_
        cases decide ((x2:Int)=1)
        . exact HM ⟨y,l,rfl,hy⟩
        . obtain ⟨x3,ex3,bx3⟩:=LH (fa:=mPk 4) (fb:=mK (.int 6)) (ρ:= [C,M,N2,LO,some (.val (.int l)),K5,some (.val (.int ((y+2:Nat):Int))),z7,z8]) rfl rfl (by decide);refine BN (r:= .val (.int ((x3+2:Nat):Int))) ((AF (op:=dAdd) (fa:=mK (.int 2)) rfl ex3).trans ?_) (FK (r:= .val (.int (l.fdiv 6))) ((AF (op:=EF) rfl rfl).trans (P8 (by decide) (by decide))) ⟨x3,_,rfl,by omega⟩);show some (Sl.val (.int (2+(x3:Int))))=_;rw [show 2+(x3:Int)=((x3+2:Nat):Int) by omega]
      rintro ρ ⟨y,l,rfl,hy⟩;refine BN (r:= .val (.int 1)) rfl ?_;refine EJ (P:=fun ρ=>∃z8,ρ = [C,M,N2,LO,some (.val (.int l)),K5,some (.val (.int ((y+2:Nat):Int))),some (.val (.int (Tr.prodN L:Nat))),z8]) ?_ ?_
      . refine pX (en:=enN) (xs:=L) (fun i ρ=>∃z8,ρ = [C,M,N2,LO,some (.val (.int l)),K5,some (.val (.int ((y+2:Nat):Int))),some (.val (.int (Tr.prodN (L.take i):Nat))),z8]) rfl ⟨_,rfl⟩ ?_ ?_
        . rintro i s ρ hs ⟨z8,rfl⟩;have hs1:=h1 s (AJ hs);refine ⟨_,rfl,FK (r:= .val (.int ((Tr.prodN (L.take i):Int)*(s:Int)))) ((AF (op:=dRep) rfl rfl).trans (FM (cmR (by omega) (by omega)))) ⟨some (.val (.int s)),?_⟩⟩;rw [CN,hs];show _=([C,M,N2,LO,some (.val (.int l)),K5,some (.val (.int ((y+2:Nat):Int))),some (.val (.int (Tr.prodN (L.take i ++ [s]):Nat))),some (.val (.int s))]:En);rw [Tr.prodN_app,show Tr.prodN [s]=s by simp [Tr.prodN],IE];rfl
        . rintro ρ ⟨z8,rfl⟩;rw [BS (AA _)];exact ⟨z8,rfl⟩
      rintro ρ ⟨q8,rfl⟩
      let PL:Option Sl:=some (.val (.int (Tr.prodN L:Nat)))
      have mu:∀y:Nat,y<=5->(mBin dRep (mPk 7) (mPk 6)) [C,M,N2,LO,some (.val (.int l)),K5,some (.val (.int ((y+2:Nat):Int))),PL,q8]=some (.val (.int ((Tr.prodN (L ++ [y+2]):Nat):Int))):=by
       intro y hy;refine ((AF (op:=dRep) rfl rfl).trans (FM (cmR (by omega) (by omega)))).trans ?_;rw [Tr.prodN_app,show Tr.prodN [y+2]=y+2 by simp [Tr.prodN],IE]
      refine EJ (P:=fun ρ=>∃y:Nat,ρ = [C,M,N2,LO,some (.val (.int l)),K5,some (.val (.int ((y+2:Nat):Int))),PL,q8]/\y<=5) ?_ ?_
      . refine MC (b:=decide (((Tr.prodN (L ++ [y+2]):Nat):Int)>(most:Int))) (KB ((AF (op:=dGt) (mu y hy) rfl).trans rfl)) ?_
        cases decide (((Tr.prodN (L ++ [y+2]):Nat):Int)>(most:Int))
        . exact HM ⟨y,rfl,hy⟩
        . exact FK (r:= .val (.int 2)) rfl ⟨0,rfl,by decide⟩
      rintro ρ ⟨y,rfl,hy⟩;refine MC (b:=decide (((Tr.prodN (L ++ [y+2]):Nat):Int)<=(most:Int))) (KB ((AF (op:=dLe) (mu y hy) rfl).trans rfl)) ?_
      by_cases hle:((Tr.prodN (L ++ [y+2]):Nat):Int)<=(most:Int)
      . rw [ET hle];refine ED (R3 (K1 (r:= .val (.int ((y+2:Nat):Int))) (ds:=nl L) rfl rfl (by rw [MS];omega)) ⟨L ++ [y+2],l,K5,some (.val (.int ((y+2:Nat):Int))),PL,q8,?_,?_,by simp;omega,by omega⟩)
        . rw [U8];rfl
        . intro t ht;rcases DU.mp ht with ht | ht
          . exact h1 t ht
          . cases B9.mp ht
            omega
      . rw [CC hle];exact HM ⟨L,_,_,_,_,_,rfl,h1,by omega,h3⟩
    . rintro ρ ⟨L,l,z5,z6,z7,z8,rfl,h1,h2,h3⟩;exact ⟨L,l,z5,z6,z7,z8,rfl,h1,by omega,h3⟩
  . rintro ρ ⟨L,l,z5,z6,z7,z8,rfl,h1,h2,h3⟩;exact DL rfl ⟨L,_,rfl,h1,h2,h3⟩
 obtain ⟨o,h1,L,ρ',rfl,h2⟩:=key;exact ⟨L,FF (ρ:= [C,M,none,none,none,none,none,none,none]) rfl rfl ⟨ρ',h1⟩,h2⟩
def lv1(L:List Nat)(t:Nat):Nat:=L.getD t 0 - 1
theorem j7:∀a b:List Nat,PyData.eqvAll (nl a) (nl b)=decide (a=b)
 | [],[]=>by simp [nl,PyData.eqvAll]
 | [],_::_=>by simp [nl,PyData.eqvAll]
 | _::_,[]=>by simp [nl,PyData.eqvAll]
 | x::a,y::b=>by
  have:=j7 a b;simp only [nl] at this
  simp only [nl,CT,PyData.eqvAll,this,PyData.eqv]
  by_cases h:x=y
  . subst h;simp
  . have:¬((x:Int)=(y:Int)):=by omega
    simp [h,this]
theorem lW(a b:List Nat):PyData.eqv (tupN a) (tupN b)=decide (a=b):=by
 unfold tupN;simp only [PyData.eqv];exact j7 a b
theorem UN(l:List Nat):(tupN l).canLay0=true:=WT (en:=fun n:Nat=>PyData.int (n:Int)) (fun _=>rfl) l
theorem aH(l:List Nat):(tupN l).depth<=3:=by
 have:=VJ (en:=fun n:Nat=>PyData.int (n:Int)) (k:=1) (fun x=>by simp [PyData.depth]) l;simp only [tupN,PyData.depth,nl];omega
theorem cX(e:List Nat)(M:List (List Nat)):inD true (tupN e) (M.map tupN)=some (.val (.bool (decide (e ∉ M)))):=by
 have dt:=aH e;unfold inD;rw [if_pos ⟨UN e,by simp [UN],by omega⟩];congr 3
 simp only [HS,List.any_map]
 have:(M.any ((fun d=>PyData.eqv d (tupN e)) ∘ tupN))=decide (e ∈ M):=by
  induction M with
  | nil=>simp
  | cons m M ih=>
   rw [lS,ih];show (PyData.eqv (tupN m) (tupN e) || _)=_;rw [lW]
   by_cases h:m=e
   . subst h;simp
   . have h':e≠m:=fun z=>h z.symm;simp [h,h']
 rw [this];simp
def G3(L:List Nat)(most:Nat)(e:List Nat):Prop:=e.Pairwise (· < ·)/\(∀t ∈ e,t<L.length)/\Tr.prodN (e.map (lv1 L))<=most
theorem wF{L:List Nat}{t:Nat}(h:t<L.length):(nl L)[t]? = some (.int ((lv1 L t+1:Nat):Int))\/L.getD t 0=0:=by
 by_cases h0:L.getD t 0=0
 . exact .inr h0
 . left;unfold nl;rw [List.getElem?_map,List.getElem?_eq_getElem h];have e:L.getD t 0=L[t]:=by simp [List.getD,List.getElem?_eq_getElem h]
   rw [e] at h0
   have:lv1 L t+1=L[t]:=by unfold lv1;rw [e];omega
   rw [this];rfl
theorem OY{L:List Nat}(hL:∀s ∈ L,2<=s/\s<=7){t:Nat}(h:t<L.length):(nl L)[t]? = some (.int ((lv1 L t+1:Nat):Int))/\1<=lv1 L t/\lv1 L t<=6:=by
 have e:L.getD t 0=L[t]:=by simp [List.getD,A8 h]
 have hs:=hL L[t] (List.getElem_mem h);refine ⟨?_,by unfold lv1;rw [e];omega,by unfold lv1;rw [e];omega⟩;rcases wF h with h1 | h1
 . exact h1
 . rw [e] at h1
   omega
def tot(L:List Nat)(M:List (List Nat)):Nat:=(M.map fun e=>Tr.prodN (e.map (lv1 L))).sum
theorem iY(L:List Nat)(M:List (List Nat))(e:List Nat):tot L (M ++ [e])=tot L M+Tr.prodN (e.map (lv1 L)):=by simp [tot]
theorem lY (c : Int) {L : List Nat} (hL : ∀ s ∈ L, 2 <= s /\ s <= 7) (hl : L.length <= 4) {most : Nat} (m1 : 1 <= most) (hm : most <= 100) :
 ∃M:List (List Nat),jH [.int c, .list (nl L), .int most]=some (.own (M.map tupN))/\(∀e ∈ M,G3 L most e)/\M.Nodup/\M.length<=7/\tot L M<=most/\1<=M.length:=by
 have sl:=EY
 let C:Option Sl:=some (.val (.int c))
 let LV:Option Sl:=some (.val (.list (nl L)))
 let MO:Option Sl:=some (.val (.int most))
 have key:Wp b_q9 [C,LV,MO,none,none,none,none,none,none,none,none] (fun o=>∃(M:List (List Nat)) (ρ':En),o = .rt (.own (M.map tupN)) ρ'/\(∀e ∈ M,G3 L most e)/\M.Nodup/\M.length<=7/\tot L M<=most/\1<=M.length):=by
  unfold b_q9;refine BN II (BN (r:= .val (.int 0)) rfl (BN (r:= .val (.int (c.fdiv 162))) ((AF (op:=EF) rfl rfl).trans (P8 (by decide) (by decide))) ?_));refine EJ (P:=fun ρ=>∃(M:List (List Nat)) (sz:Nat) (lf:Int) (z6 z7 z8 z9 z10:Option Sl),ρ = [C,LV,MO,some (.own (M.map tupN)),some (.val (.int sz)),some (.val (.int lf)),z6,z7,z8,z9,z10]/\(∀e ∈ M,G3 L most e)/\M.Nodup/\M.length<=6/\sz=tot L M/\sz<=most) ?_ ?_
  . refine NP (n:=6) (fun k ρ=>∃(M:List (List Nat)) (sz:Nat) (lf:Int) (z6 z7 z8 z9 z10:Option Sl),ρ = [C,LV,MO,some (.own (M.map tupN)),some (.val (.int sz)),some (.val (.int lf)),z6,z7,z8,z9,z10]/\(∀e ∈ M,G3 L most e)/\M.Nodup/\M.length<=k/\sz=tot L M/\sz<=most) (IJ (j:=6) rfl (by decide)) ⟨[],0,_,_,_,_,_,_,rfl,by simp,by simp,by simp,rfl,by omega⟩ ?_ (fun ρ h=>h);rintro k ρ hk ⟨M,sz,lf,z6,z7,z8,z9,z10,rfl,h1,h2,h3⟩;refine ⟨_,rfl,?_⟩
    let MM:Option Sl:=some (.own (M.map tupN))
    let SZ:Option Sl:=some (.val (.int sz))
    let K6:Option Sl:=some (.val (.int (k:Nat)))
    show Wp _ [C,LV,MO,MM,SZ,some (.val (.int lf)),K6,z7,z8,z9,z10] _;obtain ⟨w,ew⟩:=QN (args:=(mCons (mVar 0) (mCons (mBin dAdd (mK (.int 230)) (mPk 6)) mNil))) (ρ:= [C,LV,MO,MM,SZ,some (.val (.int lf)),K6,z7,z8,z9,z10]) (c:=c) (j:=230+(k:Nat)) rfl (by omega) (by omega);refine BN ew ?_
    let W7:Option Sl:=some (.val (.int w))
    have rl:∀z8 z9 lf,(J0 (mConsP (mCallP dLen (mConsP (mPk 1) mNilP)) mNilP)) [C,LV,MO,MM,SZ,some (.val (.int lf)),K6,W7,z8,z9,z10]=some ((List.range L.length).map fun i=> .int (0+(i:Nat))):=fun z8 z9 lf=>IJ (j:=L.length) (EE (a:= .val (.int ((L.length:Nat):Int))) (as:= []) (EN (ss:= [.val (.list (nl L))]) rfl (by show some (Sl.val (.int ((nl L).length:Nat)))=_;rw [MS])) rfl) (by omega)
    have cmp:∀(ft:En->Option Bool) (s0:Sl) (b:Nat->Bool),(∀i,i<L.length->ft [some s0,some (.val (.int (0+(i:Nat))))]=some (b i))->L5 (elM (gVar 1) ft (mVar 1) [some s0,none]) ((List.range L.length).map fun i=> .int (0+(i:Nat)))=some (nl ((List.range L.length).filter b)):=by
     intro ft s0 b hb;refine (RF (b:=b) (g:=enN) fun i hi=>yJ (r:= .val (.int (i:Nat))) rfl (hb i (C5.mp hi)) ?_).trans rfl;show some (Sl.val (.int (0+(i:Nat))))=_;rw [KJ]
    let b1:Nat->Bool:=fun i=>decide (((w:Int).fdiv (2+(0+(i:Nat)))).fmod 3=0)
    refine BN (r:= .val (tupN ((List.range L.length).filter b1))) (EN (EE (as:= []) (EX (rl _ _ _) (by simp;omega) (cmp _ _ b1 fun i hi=> ?_)) rfl) rfl) ?_
    . exact IW ((AF (op:=FJ) ((AF (op:=EF) rfl ((AF (op:=dAdd) rfl rfl).trans rfl)).trans (P8 (by omega) (by omega))) rfl).trans (M6 (by decide))) rfl
    refine EJ (P:=fun ρ=>∃(b:Nat->Bool) (lf:Int),ρ = [C,LV,MO,MM,SZ,some (.val (.int lf)),K6,W7,some (.val (tupN ((List.range L.length).filter b))),z9,z10]) ?_ ?_
    . obtain ⟨x2,ex2,_⟩:=LH (fa:=mPk 0) (fb:=mK (.int 2)) (ρ:= [C,LV,MO,MM,SZ,some (.val (.int lf)),K6,W7,some (.val (tupN ((List.range L.length).filter b1))),z9,z10]) rfl rfl (by decide);refine MC (IW ex2 rfl) ?_
      cases decide ((x2:Int)=1)
      . exact HM ⟨b1,lf,rfl⟩
      . let b2:Nat->Bool:=fun i=>decide ((lf.fdiv (2 ^ i:Nat)).fmod 2=1)
        refine BN (r:= .val (tupN ((List.range L.length).filter b2))) (EN (EE (as:= []) (EX (rl _ _ _) (by simp;omega) (cmp _ _ b2 fun i hi=> ?_)) rfl) rfl) (FK (r:= .val (.int (lf.fdiv 16))) ((AF (op:=EF) rfl rfl).trans (P8 (by decide) (by decide))) ⟨b2,_,rfl⟩)
        have l4:∀ρ:En,(mLst (mCons (mK (.int 1)) (mCons (mK (.int 2)) (mCons (mK (.int 4)) (mCons (mK (.int 8)) mNil))))) ρ=some (.own [.int 1, .int 2, .int 4, .int 8]):=fun ρ=>by
         exact AN (e:=none) (show 4<=sizeLine by omega)
        have x4 : [PyData.int 1, .int 2, .int 4, .int 8][i]? = some (.int ((2 ^ i:Nat):Int)):=by
         match i,(show i<4 by omega) with
         | 0,_=>rfl
         | 1,_=>rfl
         | 2,_=>rfl
         | 3,_=>rfl
        have p4:2 ^ i<=8:=by
         match i,(show i<4 by omega) with
         | 0,_=>decide
         | 1,_=>decide
         | 2,_=>decide
         | 3,_=>decide
        have p0:0<2 ^ i:=HF (by decide);refine IW ((AF (op:=FJ) ((AF (op:=EF) (a:= .val (.int lf)) rfl ((AF (op:=dix) (l4 _) (b:= .val (.int (i:Nat))) ?_).trans (GR (.inl rfl) x4))).trans (P8 (by omega) (by omega))) rfl).trans (M6 (by decide))) rfl;show some (Sl.val (.int (0+(i:Nat))))=_;rw [KJ]
    rintro ρ ⟨b,lf,rfl⟩
    let e:=(List.range L.length).filter b
    have he:∀t ∈ e,t<L.length:=fun t ht=>C5.mp (cD.mp ht).1;have hp:e.Pairwise (· < ·):=List.Pairwise.filter _ List.pairwise_lt_range
    let E8:Option Sl:=some (.val (tupN e))
    refine BN (r:= .val (.int 1)) rfl ?_;refine EJ (P:=fun ρ=>∃z10,ρ = [C,LV,MO,MM,SZ,some (.val (.int lf)),K6,W7,E8,some (.val (.int (Tr.prodN (e.map (lv1 L)):Nat))),z10]) ?_ ?_
    . refine ED (FD (en:=enN) (xs:=e) (fun i ρ=>∃z10,ρ = [C,LV,MO,MM,SZ,some (.val (.int lf)),K6,W7,E8,some (.val (.int (Tr.prodN ((e.take i).map (lv1 L)):Nat))),z10]) rfl ⟨_,rfl⟩ ?_ ?_)
      . rintro i t ρ ht ⟨z10,rfl⟩;obtain ⟨g1,g2,g3⟩:=OY hL (he t (AJ ht));refine ⟨_,rfl,FK (r:= .val (.int ((Tr.prodN ((e.take i).map (lv1 L)):Int)*(lv1 L t:Nat)))) ((AF (op:=dRep) (a:= .val (.int ((Tr.prodN ((e.take i).map (lv1 L)):Nat):Int))) rfl (b:= .val (.int (lv1 L t:Nat))) ((AF (op:=dSub) ((AF (op:=dix) (a:= .val (.list (nl L))) (b:= .val (.int (t:Nat))) rfl rfl).trans (GR (.inl rfl) g1)) rfl).trans ?_)).trans (FM (cmR (by omega) (by omega)))) ⟨some (.val (.int t)),?_⟩⟩
        . show some (Sl.val (.int (((lv1 L t+1:Nat):Int) - 1)))=_;rw [show ((lv1 L t+1:Nat):Int) - 1=(lv1 L t:Nat) by omega]
        . rw [CN,ht];show _=([C,LV,MO,MM,SZ,some (.val (.int lf)),K6,W7,E8,some (.val (.int (Tr.prodN ((e.take i ++ [t]).map (lv1 L)):Nat))),some (.val (.int t))]:En);rw [BJ,Tr.prodN_app,show Tr.prodN ([t].map (lv1 L))=lv1 L t by simp [Tr.prodN],IE];rfl
      . rintro ρ ⟨z10,rfl⟩;rw [BS (AA _)];exact ⟨z10,rfl⟩
    rintro ρ ⟨y,rfl⟩;have tn:(mTest (mBin (SA true) (mPk 8) (mPk 3))) [C,LV,MO,MM,SZ,some (.val (.int lf)),K6,W7,E8,some (.val (.int (Tr.prodN (e.map (lv1 L)):Nat))),y]=some (decide (e ∉ M)):=KB ((AF (op:=SA true) (a:= .val (tupN e)) (b:= .own (M.map tupN)) rfl rfl).trans (cX e M));refine MC (u9 tn (KB (b:=decide ((sz:Int)+(Tr.prodN (e.map (lv1 L)):Nat)<=(most:Int))) rfl)) ?_
    by_cases hc:e ∉ M/\(sz:Int)+(Tr.prodN (e.map (lv1 L)):Nat)<=(most:Int)
    . rw [ET hc.1,ET hc.2];refine FE (f:=mFrz 8 _) (K1 (ρ:= [C,LV,MO,MM,SZ,some (.val (.int lf)),K6,W7,E8,some (.val (.int (Tr.prodN (e.map (lv1 L)):Nat))),y]) (r:= .val (tupN e)) (ds:=M.map tupN) rfl rfl (by rw [A4];omega)) (FK (r:= .val (.int ((sz+Tr.prodN (e.map (lv1 L)):Nat):Int))) ?_ ⟨M ++ [e],sz+Tr.prodN (e.map (lv1 L)),lf,K6,W7,E8,some (.val (.int (Tr.prodN (e.map (lv1 L)):Nat))),y,?_,?_,?_,by simp;omega,by rw [iY, <-h3.2.1],by have:=hc.2;omega⟩)
      . show some (Sl.val (.int ((sz:Int)+(Tr.prodN (e.map (lv1 L)):Nat))))=_;rw [<-Int.natCast_add]
      . rw [BJ];rfl
      . intro t ht;rcases DU.mp ht with ht | ht
        . exact h1 t ht
        . cases B9.mp ht
          exact ⟨hp,he,by have:=hc.2;omega⟩
      . rw [A34];refine ⟨h2,by simp,fun a ha b hb=> ?_⟩
        cases B9.mp hb
        intro z;subst z;exact hc.1 ha
    . have : (decide (e ∉ M) && decide ((sz : Int) + (Tr.prodN (e.map (lv1 L)) : Nat) <= (most : Int))) = false := by
       by_cases h:e ∉ M
       . rw [CC (p:=(sz:Int)+(Tr.prodN (e.map (lv1 L)):Nat)<=(most:Int)) fun z=>hc ⟨h,z⟩,Bool.and_false]
       . rw [CC h,Bool.false_and]
      rw [this];exact HM ⟨M,sz,lf,_,_,_,_,_,rfl,h1,h2,by omega,h3.2.1,h3.2.2⟩
  . rintro ρ ⟨M,sz,lf,z6,z7,z8,z9,z10,rfl,h1,h2,h3⟩;refine EJ (P:=fun ρ=>∃(M:List (List Nat)) (sz:Nat) (lf:Int) (z6 z7 z8 z9 z10:Option Sl),ρ = [C,LV,MO,some (.own (M.map tupN)),some (.val (.int sz)),some (.val (.int lf)),z6,z7,z8,z9,z10]/\(∀e ∈ M,G3 L most e)/\M.Nodup/\M.length<=7/\tot L M<=most/\1<=M.length) ?_ ?_
    . cases M with
      | nil=>
       refine OB ((IW (i:=0) (j:=0) rfl rfl).trans (by simp)) (R3 (K1 (r:= .val (tupN [])) (ds:= []) ?_ rfl (by show 0<sizeLine;omega)) ⟨[[]],sz,lf,z6,z7,z8,z9,z10,rfl,?_,by simp,by simp,by simpa [tot,Tr.prodN] using m1,by simp⟩)
       . exact AN (e:=none) (show 0<=sizeLine by decide)
       . intro e he
         cases B9.mp he
         exact ⟨.nil,by simp,by simpa [Tr.prodN] using m1⟩
      | cons m M=>
       refine YH ((IW (i:=((List.map tupN (m::M)).length:Nat)) (j:=0) rfl rfl).trans ?_) (HM ⟨m::M,sz,lf,_,_,_,_,_,rfl,h1,h2,by omega,by omega,by simp⟩);rw [CC (by simp;omega)]
    . rintro ρ ⟨M,sz,lf,z6,z7,z8,z9,z10,rfl,h1,h2,h3⟩;exact DL rfl ⟨M,_,rfl,h1,h2,h3⟩
 obtain ⟨o,h1,M,ρ',rfl,h2⟩:=key;exact ⟨M,FF (ρ:= [C,LV,MO,none,none,none,none,none,none,none,none]) rfl rfl ⟨ρ',h1⟩,h2⟩
def OJ(e t:List Nat):PyData:= .tuple [tupN e,tupN t]
def bk(L e:List Nat):List (List Nat):=(Tr.allT (e.map (lv1 L))).map fun t=>t.map (· + 1)
def G2(L:List Nat)(M:List (List Nat)):List PyData:=M.flatMap fun e=>(bk L e).map (OJ e)
theorem UH(L e:List Nat):(bk L e).length=Tr.prodN (e.map (lv1 L)):=by simp [bk,Tr.allT]
theorem q9(L e:List Nat)(t:Nat)(h:0<lv1 L t):bk L (e ++ [t])=(bk L e).flatMap fun u=>(List.range (lv1 L t)).map fun s=>u ++ [s+1]:=by
 unfold bk;rw [List.map_append];show (Tr.allT (e.map (lv1 L) ++ [lv1 L t])).map _=_;rw [Tr.allT_snoc _ _ h,List.map_flatMap,List.flatMap_map];congr 1
 funext u;rw [G1];refine BC fun s _=> ?_;simp
theorem kQ{L e u:List Nat}(h:u ∈ bk L e):u.length=e.length:=by
 unfold bk Tr.allT at h
 rw [G1] at h
 obtain ⟨x,_,rfl⟩:=CW.mp h;simp [Tr.tri_len]
theorem j5{L e:List Nat}(hL:∀s ∈ L,2<=s/\s<=7)(he:G3 L 900 e)(hl:e.length<=900):VN [.list (nl L),tupN e]=some (.own ((bk L e).map (OJ e))):=by
 have sl:=EY
 let LV:Option Sl:=some (.val (.list (nl L)))
 let EV:Option Sl:=some (.val (tupN e))
 refine EI (ρ:= [LV,EV,none]) rfl rfl ?_;unfold b_q25
 have hpos:∀c ∈ e.map (lv1 L),0<c/\c<=1000:=fun c hc=>by
  obtain ⟨t,ht,rfl⟩:=CW.mp hc;have:=OY hL (he.2.1 t ht);omega
 refine BN (BF (ds:= [.list (nl (e.map (lv1 L)))]) (BD (as:= []) (EX (ds:=nl e) (es:=nl (e.map (lv1 L))) rfl (by rw [MS];omega) ?_) rfl) (pD hpos (by simpa using hl) he.2.2)) ?_
 . refine (CA (en:=enN) (g:=fun t=> .int (lv1 L t:Nat)) (xs:=e) fun t ht=>GH (r:= .val (.int (lv1 L t:Nat))) rfl ?_).trans (by simp [nl]);obtain ⟨g1,g2,g3⟩:=OY hL (he.2.1 t ht);refine (AF (op:=dSub) ((AF (op:=dix) (a:= .val (.list (nl L))) (b:= .val (.int (t:Nat))) rfl rfl).trans (GR (.inl rfl) g1)) rfl).trans ?_;show some (Sl.val (.int (((lv1 L t+1:Nat):Int) - 1)))=_;rw [show ((lv1 L t+1:Nat):Int) - 1=(lv1 L t:Nat) by omega]
 . have al : (Tr.allT (e.map (lv1 L))).length <= 900 := by
    have:=he.2.2;simpa [Tr.allT] using this
   refine ED (DL (EX (ds:=(Tr.allT (e.map (lv1 L))).map tupN) rfl (by rw [A4];omega) ?_) rfl);refine (CA (en:=tupN) (g:=fun t=>OJ e (t.map (· + 1))) (xs:=Tr.allT (e.map (lv1 L))) fun t ht=>GH (r:= .val (OJ e (t.map (· + 1)))) rfl ?_).trans ?_
   . have tl : t.length <= 900 := by
      unfold Tr.allT at ht
      obtain ⟨x,_,rfl⟩:=CW.mp ht;rw [Tr.tri_len,A4];exact hl
     refine (OS (a:= .val (tupN e)) (b:= .val (tupN (t.map (· + 1)))) rfl (EN (EE (a:= .own (nl (t.map (· + 1)))) (as:= []) (EX (ds:=nl t) rfl (by rw [MS];omega) ?_) rfl) rfl)).trans rfl;refine (CA (en:=enN) (g:=fun s=> .int ((s:Int)+1)) (xs:=t) fun s _=>GH (r:= .val (.int ((s:Int)+1))) rfl rfl).trans ?_;simp [nl]
   . unfold bk;rw [List.map_map];rfl
theorem JV{L:List Nat}{most:Nat}:∀ {M:List (List Nat)},(∀e ∈ M,G3 L most e)->(G2 L M).length<=M.length*most
 | [],_=>by simp [G2]
 | e::M,h=>by
  have ih:=JV (M:=M) fun e he=>h e (List.mem_cons_of_mem _ he);have h1:=(h e List.mem_cons_self).2.2;unfold G2 at ih ⊢
  rw [MB,AT,A4,UH,C8,NZ];omega
theorem K9(L:List Nat)(M:List (List Nat))(e:List Nat):G2 L (M ++ [e])=G2 L M++(bk L e).map (OJ e):=by
 unfold G2;rw [List.flatMap_append];simp
theorem gY{L:List Nat}(hL:∀s ∈ L,2<=s/\s<=7){M:List (List Nat)}{most:Nat}(hM:∀e ∈ M,G3 L most e)(hm:most<=100)(hl:M.length<=7)(h4:L.length<=4):WC [.list (nl L), .list (M.map tupN)]=some (.own (G2 L M)):=by
 have sl:=EY
 let LV:Option Sl:=some (.val (.list (nl L)))
 let MV:Option Sl:=some (.val (.list (M.map tupN)))
 refine EI (ρ:= [LV,MV,none,none]) rfl rfl ?_;unfold b_q22;refine BN II ?_;refine EJ (P:=fun ρ=>∃z,ρ = [LV,MV,some (.own (G2 L M)),z]) ?_ (by rintro ρ ⟨z,rfl⟩;exact DL rfl rfl);refine FD (en:=tupN) (xs:=M) (fun i ρ=>∃z,ρ = [LV,MV,some (.own (G2 L (M.take i))),z]) rfl ⟨_,rfl⟩ ?_ ?_
 . rintro i e ρ hi ⟨z,rfl⟩;have me:=AJ hi;obtain ⟨e1,e2,e3⟩:=hM e me;refine ⟨_,rfl,?_⟩;have tk:M.take (i+1)=M.take i ++ [e]:=by rw [CN,hi];rfl
   have le:e.length<=900:=by
    have:e.length<=(List.range L.length).length:=by
     refine XM ?_ fun t ht=>C5.mpr (e2 t ht);exact e1.imp fun h=>D4 h
    rw [AE] at this
    omega
   have cl:=JV (L:=L) (most:=most) (M:=M.take (i+1)) fun e he=>hM e (E9 he);have tl:(M.take (i+1)).length<=7:=by rw [CV];omega
   have c2:(G2 L (M.take (i+1))).length<=7*100:=BG cl (GA tl hm);rw [tk,K9,AT] at c2
   refine R3 (tP (BF (ds:= [.list (nl L),tupN e]) rfl (j5 hL ⟨e1,e2,by omega⟩ le)) rfl (by omega)) ⟨some (.val (tupN e)),?_⟩;rw [tk,K9];rfl
 . rintro ρ ⟨z,rfl⟩;rw [BS (AA _)];exact ⟨z,rfl⟩
theorem mJ(k s:Nat):VV [.int k, .int s]=some (.val (.int (Tr.con k s))):=by
 refine EI (ρ:= [some (.val (.int k)),some (.val (.int s))]) rfl rfl ?_;unfold b_q24 Tr.con
 by_cases h1:s<k
 . rw [AN h1];exact LR (OB (by show some (decide ((s:Int)<(k:Int)))=_;rw [ET (by omega)]) (DL rfl rfl))
 . rw [AR h1];refine NL (by show some (decide ((s:Int)<(k:Int)))=_;rw [CC (by omega)]) ?_
   by_cases h2:s=k
   . rw [AN h2];exact LR (OB (by rw [IW (i:=s) (j:=k) rfl rfl,ET (by omega)]) (DL rfl rfl))
   . rw [AR h2];exact NL (by rw [IW (i:=s) (j:=k) rfl rfl,CC (by omega)]) (DL rfl rfl)
def enP(q:Nat×Nat):PyData:= .tuple [.int (q.1:Int), .int (q.2:Int)]
theorem UC:∀a b:List Nat,IX (nl a) (nl b)=(List.zip a b).map enP
 | [],_=>by simp [IX,nl]
 | _::_,[]=>by simp [IX,nl]
 | x::a,y::b=>by
  have:=UC a b;unfold IX nl at this ⊢
  simp only [CT,List.zipWith_cons_cons,List.zip_cons_cons,this];rfl
theorem XI{a b:List Nat}{j t k:Nat}(h:(List.zip a b)[j]? = some (t,k)):a.drop j=t::a.drop (j+1)/\b.drop j=k::b.drop (j+1)/\t ∈ a/\k ∈ b:=by
 rw [List.getElem?_zip_eq_some] at h
 obtain ⟨h1,e1⟩:=B6.mp h.1;obtain ⟨h2,e2⟩:=B6.mp h.2;refine ⟨?_,?_,AJ h.1,AJ h.2⟩
 . rw [EZ h1,e1]
 . rw [EZ h2,e2]
theorem lX{e u x:List Nat}(hu:∀k ∈ u,k<=7)(he:∀t ∈ e,t<x.length)(hl:e.length=u.length):TB [OJ e u,tupN x]=some (.val (.int (Tr.valAt e u x))):=by
 let CO:Option Sl:=some (.val (OJ e u))
 let TX:Option Sl:=some (.val (tupN x))
 refine EI (ρ:= [CO,TX,none,none,none]) rfl rfl ?_;unfold b_q42;refine BN (r:= .val (.int 1)) rfl ?_;refine EJ (P:=fun ρ=>∃z3 z4,ρ = [CO,TX,some (.val (.int (Tr.valAt e u x))),z3,z4]) ?_ (by rintro ρ ⟨z3,z4,rfl⟩;exact DL rfl rfl);refine FD (en:=enP) (xs:=List.zip e u) (fun j ρ=>∃(p:Int) (z3 z4:Option Sl),ρ = [CO,TX,some (.val (.int p)),z3,z4]/\p*Tr.valAt (e.drop j) (u.drop j) x=Tr.valAt e u x) ?_ ⟨1,_,_,rfl,by simp⟩ ?_ ?_
 . show some (IX (nl e) (nl u))=_;rw [UC]
 . rintro j ⟨t,k⟩ ρ hj ⟨p,z3,z4,rfl,hp⟩;obtain ⟨d1,d2,m1,m2⟩:=XI hj;have hk:=hu k m2;have ht:=he t m1;refine ⟨[CO,TX,some (.val (.int p)),some (.val (.int (t:Nat))),some (.val (.int (k:Nat)))],rfl,?_⟩;have hc:=Tr.con_abs (k:=k) (s:=x.getD t 0) hk
   have gx:(nl x)[t]? = some (.int ((x.getD t 0:Nat):Int)):=by
    unfold nl;rw [List.getElem?_map,List.getElem?_eq_getElem ht];simp [List.getD,List.getElem?_eq_getElem ht]
   refine FK (r:= .val (.int (p*Tr.con k (x.getD t 0)))) ((AF (op:=dRep) (a:= .val (.int p)) rfl (BF (ds:= [.int (k:Nat), .int ((x.getD t 0:Nat):Int)]) (BD (a:= .val (.int (k:Nat))) rfl (BD (as:= []) ((AF (op:=dix) (a:= .val (tupN x)) (b:= .val (.int (t:Nat))) rfl rfl).trans (GR (.inr rfl) gx)) rfl)) (mJ k _))).trans (FM (cmR (by omega) (by omega)))) ⟨_,_,_,rfl,?_⟩;rw [<-hp,d1,d2,Tr.valAt,CD]
 . rintro ρ ⟨p,z3,z4,rfl,hp⟩
   have e0:Tr.valAt (e.drop (List.zip e u).length) (u.drop (List.zip e u).length) x=1:=by
    rw [cH,hl,Nat.min_self,EB (by omega)];rfl
   rw [e0,GG] at hp
   subst hp;exact ⟨z3,z4,rfl⟩
def AQ(L:List Nat)(M:List (List Nat)):List (List Nat×List Nat):=M.flatMap fun e=>(bk L e).map fun u=>(e,u)
theorem NA(L:List Nat)(M:List (List Nat)):G2 L M=(AQ L M).map fun c=>OJ c.1 c.2:=by
 unfold G2 AQ;rw [List.map_flatMap];congr 1
 funext e;rw [G1];rfl
theorem IM{L:List Nat}{M:List (List Nat)}{c:List Nat×List Nat}(h:c ∈ AQ L M):c.1 ∈ M/\c.2 ∈ bk L c.1:=by
 obtain ⟨e,he,h⟩:=List.mem_flatMap.mp h;obtain ⟨u,hu,rfl⟩:=CW.mp h;exact ⟨he,hu⟩
theorem LZ{L e u:List Nat}(hL:∀s ∈ L,2<=s/\s<=7)(he:∀t ∈ e,t<L.length)(hu:u ∈ bk L e):Tr.Fits L e u/\(∀k ∈ u,k<=7)/\e.length=u.length:=by
 have hlen:=kQ hu;unfold bk Tr.allT at hu
 rw [G1] at hu
 obtain ⟨x,hx,hux⟩:=CW.mp hu;have hux:(Tr.tri (e.map (lv1 L)) x).map (· + 1)=u:=hux
 have hpos:∀c ∈ e.map (lv1 L),0<c:=fun c hc=>by
  obtain ⟨t,ht,rfl⟩:=CW.mp hc;have:=OY hL (he t ht);omega
 have at_:∀i,i<e.length->u.getD i 0=(Tr.tri (e.map (lv1 L)) x).getD i 0+1/\(Tr.tri (e.map (lv1 L)) x).getD i 0<lv1 L (e.getD i 0):=fun i hi=>by
  have hl:i<(Tr.tri (e.map (lv1 L)) x).length:=by rw [Tr.tri_len];simpa using hi
  refine ⟨by rw [<-hux];simp [List.getD,AS,A8 hl],?_⟩;have:=Tr.tri_lt (L:=e.map (lv1 L)) (x:=x) (i:=i) hpos (by simpa using hi);have e2:(e.map (lv1 L)).getD i 0=lv1 L (e.getD i 0):=by simp [List.getD,AS,A8 hi]
  rw [e2] at this
  exact this
 have ge:∀i,i<e.length->e.getD i 0 ∈ e:=fun i hi=>by simp [List.getD,A8 hi]
 refine ⟨Tr.fits_of hlen.symm fun i hi=> ?_,fun k hk=> ?_,hlen.symm⟩
 . obtain ⟨a1,a2⟩:=at_ i hi;have e0:lv1 L (e.getD i 0)=L.getD (e.getD i 0) 0 - 1:=rfl;rw [a1];omega
 . obtain ⟨i,hi,rfl⟩:=List.mem_iff_getElem.mp hk;have hi':i<e.length:=by rw [<-hlen];exact hi
   obtain ⟨a1,a2⟩:=at_ i hi';have:=OY hL (he _ (ge i hi'));have e3:u.getD i 0=u[i]:=by simp [List.getD,A8 hi]
   rw [<-e3,a1];omega
def UE(P:List (List Nat×List Nat))(x:List Nat):PyData:= .list (il (P.map fun c=>Tr.valAt c.1 c.2 x))
theorem pE {L : List Nat} (hL : ∀ s ∈ L, 2 <= s /\ s <= 7) {M : List (List Nat)} {most : Nat} (hM : ∀ e ∈ M, G3 L most e) (hm : most <= 100) (hl : M.length <= 7) (h4 : L.length <= 4) {X : List (List Nat)} (hX : X.length <= 900) (hx : ∀ x ∈ X, x.length = L.length) :
 WJ [.list (nl L), .list (X.map tupN), .list (M.map tupN)]=some (.own (X.map (UE (AQ L M)))):=by
 have sl:=EY
 let LV:Option Sl:=some (.val (.list (nl L)))
 let XV:Option Sl:=some (.val (.list (X.map tupN)))
 let MV:Option Sl:=some (.val (.list (M.map tupN)))
 refine EI (ρ:= [LV,XV,MV,none]) rfl rfl ?_;unfold b_q40;have cl:=JV (L:=L) (most:=most) (M:=M) hM;have cl2:(G2 L M).length<=7*100:=Nat.le_trans cl (Nat.mul_le_mul hl hm);rw [NA,List.length_map] at cl2
 refine BN (BF (ds:= [.list (nl L), .list (M.map tupN)]) rfl (gY hL hM hm hl h4)) ?_;refine ED (DL (EX (ds:=X.map tupN) (es:=X.map (UE (AQ L M))) rfl (by rw [A4];omega) (CA fun x hx1=> ?_)) rfl)
 have inner:(mLC (D3 [some 1,none]) (D5 (mVar 0)) (gVar 1) mYes (mCall TB (mCons (mVar 1) (mCons (mVar 0) mNil)))) [some (.val (.list (G2 L M))),some (.val (tupN x))]=some (.own (il ((AQ L M).map fun c=>Tr.valAt c.1 c.2 x))):=by
  refine EX (ds:=G2 L M) rfl (by rw [NA,A4];omega) ?_;rw [NA];refine (CA (en:=fun c:List Nat×List Nat=>OJ c.1 c.2) (g:=fun c=> .int (Tr.valAt c.1 c.2 x)) fun c hc=> ?_).trans (by simp [il]);obtain ⟨c1,c2⟩:=IM hc;obtain ⟨f1,f2,f3⟩:=LZ hL (hM _ c1).2.1 c2;exact GH (r:= .val (.int (Tr.valAt c.1 c.2 x))) rfl (BF (ds:= [OJ c.1 c.2,tupN x]) rfl (lX f2 (fun t ht=>by rw [hx x hx1];exact (hM _ c1).2.1 t ht) f3))
 exact GH (fg:=gVar 1) (ρ0:= [some (.val (.list (G2 L M))),none]) (d:=tupN x) rfl inner
theorem IP{α β:Type}(f:α->β)(d:α)(l:List α):l.map f=(List.range l.length).map fun i=>f (l.getD i d):=by
 refine List.ext_getElem (by simp) fun i h1 h2=> ?_;have h:i<l.length:=by simpa using h1
 simp [List.getD,A8 h]
def L9(P:List (List Nat×List Nat))(X:List (List Nat)):Ba.Mx:=fun k j=>Tr.valAt (P.getD j ([],[])).1 (P.getD j ([],[])).2 (X.getD k [])
theorem nY(P:List (List Nat×List Nat))(X:List (List Nat)):X.map (UE P)=CU X.length P.length (L9 P X):=by
 unfold CU;rw [IP (UE P) [] X];refine List.map_congr_left fun k _=> ?_;show PyData.list (il (P.map fun c=>Tr.valAt c.1 c.2 (X.getD k []))) = .list ((List.range P.length).map fun j=> .int (L9 P X k j));rw [IP (fun c:List Nat×List Nat=>Tr.valAt c.1 c.2 (X.getD k [])) ([],[]) P];unfold il;rw [List.map_map];rfl
theorem kC{n:Nat}:∀(e:List Nat) (lo:Nat),e.Pairwise (· < ·)->(∀t ∈ e,lo<=t/\t<n)->e.length<=n - lo
 | [],_,_,_=>by simp
 | t::r,lo,hp,h=>by
  have ht:=h t (by simp);have ih:=kC r (t+1) (A07.mp hp).2 fun s hs=>⟨(A07.mp hp).1 s hs,(h s (by simp [hs])).2⟩;rw [C8];omega
theorem IA(L:List Nat)(M:List (List Nat)):(AQ L M).length=tot L M:=by
 simp [AQ,tot,List.length_flatMap,UH]
theorem mZ{L:List Nat}(hL:∀s ∈ L,2<=s/\s<=7){M:List (List Nat)}{most:Nat}(hM:∀e ∈ M,G3 L most e)(h:1<=M.length):1<=tot L M:=by
 cases M with
 | nil=>simp at h
 | cons e M=>
  have:=Tr.prodN_pos (e.map (lv1 L)) fun c hc=>by
   obtain ⟨t,ht,rfl⟩:=CW.mp hc;have:=(OY hL ((hM e (by simp)).2.1 t ht)).2.1;omega
  simp only [tot,CT,List.sum_cons];omega
theorem Y0{L:List Nat}(hL:∀s ∈ L,2<=s/\s<=7)(h4:L.length<=4){M:List (List Nat)}{most:Nat}(hM:∀e ∈ M,G3 L most e)(X:List (List Nat))(k:Nat){j:Nat}(hj:j<(AQ L M).length):Bt 12 (L9 (AQ L M) X k j):=by
 unfold L9;have e:(AQ L M).getD j ([],[])=(AQ L M)[j]:=by simp [List.getD,List.getElem?_eq_getElem hj]
 rw [e];obtain ⟨c1,c2⟩:=IM (JL hj);obtain ⟨_,u7,_⟩:=LZ hL (hM _ c1).2.1 c2;have v:=Tr.val_abs (x:=X.getD k []) (e:=(AQ L M)[j].1) u7;have l:=kC (n:=L.length) _ 0 (hM _ c1).1 fun t ht=>⟨DZ _,(hM _ c1).2.1 t ht⟩;have p:7 ^ (AQ L M)[j].1.length<=7 ^ 4:=BW (by decide) (by omega);show _<2 ^ 12;have:7 ^ 4<2 ^ 12:=by decide
 omega
theorem OT{l:List Nat}(h:∀c ∈ l,0<c)(i:Nat):Tr.prodN (l.take i)<=Tr.prodN l:=by
 have e:Tr.prodN l=Tr.prodN (l.take i)*Tr.prodN (l.drop i):=by rw [<-Tr.prodN_app,GU]
 rw [e];exact qU _ (Tr.prodN_pos _ fun c hc=>h c (List.mem_of_mem_drop hc))
theorem QW{α β:Type}(g:α->Nat->β)(c:Nat):∀xs:List α,(xs.flatMap fun u=>(List.range c).map (g u)).length=xs.length*c
 | []=>by simp
 | x::xs=>by rw [MB,AT,QW g c xs];simp [NZ,Nat.add_comm]
theorem dP{L:List Nat}(hL:∀s ∈ L,2<=s/\s<=7){M:List (List Nat)}{most:Nat}(hM:∀e ∈ M,G3 L most e)(hm:most<=100)(hl:M.length<=7)(h4:L.length<=4):eY [.list (nl L), .list (M.map tupN)]=some (.own (G2 L M)):=by
 have sl:=EY
 let LV:Option Sl:=some (.val (.list (nl L)))
 let MV:Option Sl:=some (.val (.list (M.map tupN)))
 refine EI (ρ:= [LV,MV,none,none,none,none,none,none]) rfl rfl ?_;unfold b_q6;refine BN II ?_;refine EJ (P:=fun ρ=>∃z3 z4 z5 z6 z7,ρ = [LV,MV,some (.own (G2 L M)),z3,z4,z5,z6,z7]) ?_ (by rintro ρ ⟨z3,z4,z5,z6,z7,rfl⟩;exact DL rfl rfl);refine FD (en:=tupN) (xs:=M) (fun i ρ=>∃z3 z4 z5 z6 z7,ρ = [LV,MV,some (.own (G2 L (M.take i))),z3,z4,z5,z6,z7]) rfl ⟨_,_,_,_,_,rfl⟩ ?_ ?_
 . rintro i e ρ hi ⟨z3,z4,z5,z6,z7,rfl⟩;obtain ⟨e1,e2,e3⟩:=hM e (AJ hi)
   have hpos:∀c ∈ e.map (lv1 L),0<c:=fun c hc=>by
    obtain ⟨t,ht,rfl⟩:=CW.mp hc;have:=OY hL (e2 t ht);omega
   have le4:e.length<=4:=by
    have:e.length<=(List.range L.length).length:=by
     refine XM ?_ fun t ht=>C5.mpr (e2 t ht);exact e1.imp fun h=>D4 h
    rw [AE] at this
    omega
   have pl:∀j,Tr.prodN ((e.take j).map (lv1 L))<=100:=fun j=>by
    have:=OT hpos j;rw [<-List.map_take] at this
    omega
   refine ⟨_,rfl,?_⟩
   let TO:Option Sl:=some (.own (G2 L (M.take i)))
   let EV:Option Sl:=some (.val (tupN e))
   refine BN (r:= .own [tupN []]) (RL (a:= .val (tupN [])) ?_) ?_
   . exact AN (e:=none) (show 0<=sizeLine by decide)
   show Wp _ [LV,MV,TO,EV,some (.own [tupN []]),z5,z6,z7] _;refine EJ (P:=fun ρ=>∃(s4:Sl) (z5 z6 z7:Option Sl),s4.dat = .list ((bk L e).map tupN)/\ρ = [LV,MV,TO,EV,some s4,z5,z6,z7]) ?_ ?_
   . refine FD (en:=enN) (xs:=e) (fun j ρ=>∃(s4:Sl) (z5 z6 z7:Option Sl),s4.dat = .list ((bk L (e.take j)).map tupN)/\ρ = [LV,MV,TO,EV,some s4,z5,z6,z7]) rfl ⟨_,_,_,_,rfl,rfl⟩ ?_ ?_
     . rintro j t ρ hj ⟨s4,z5,z6,z7,hs4,rfl⟩;obtain ⟨g1,g2,g3⟩:=OY hL (e2 t (AJ hj));have tk:e.take (j+1)=e.take j ++ [t]:=by rw [CN,hj];rfl
       refine ⟨_,rfl,?_⟩;refine BN II ?_
       let T5:Option Sl:=some (.val (.int (t:Nat)))
       have fz:frz1 4 [LV,MV,TO,EV,some s4,T5,some (.own []),z7] = [LV,MV,TO,EV,some (.val (.list ((bk L (e.take j)).map tupN))),T5,some (.own []),z7]:=by
        cases s4 with
        | val d=>cases hs4;rfl
        | own ds=>cases hs4;rfl
        | dct ds=>cases hs4
       let B:=bk L (e.take j)
       let S4:Option Sl:=some (.val (.list (B.map tupN)))
       let g:List Nat->Nat->List Nat:=fun u s=>u ++ [s+1]
       refine EJ (P:=fun ρ=>∃z7,ρ = [LV,MV,TO,EV,S4,T5,some (.own ((bk L (e.take (j+1))).map tupN)),z7]) ?_ ?_
       . refine ED ?_;show Wp _ (frz1 4 [LV,MV,TO,EV,some s4,T5,some (.own []),z7]) _;rw [fz];refine FD (en:=tupN) (xs:=B) (fun k ρ=>∃z7,ρ = [LV,MV,TO,EV,S4,T5,some (.own (((B.take k).flatMap fun u=>(List.range (lv1 L t)).map (g u)).map tupN)),z7]) rfl ⟨_,rfl⟩ ?_ ?_
         . rintro k u ρ hk ⟨z7,rfl⟩;have tk2:B.take (k+1)=B.take k ++ [u]:=by rw [CN,hk];rfl
           have lu:u.length<=4:=by
            rw [kQ (AJ hk),CV];omega
           refine ⟨_,rfl,FK (r:= .own (((B.take (k+1)).flatMap fun u=>(List.range (lv1 L t)).map (g u)).map tupN)) ?_ ⟨_,rfl⟩⟩;refine (AF (op:=dAdd) (a:= .own (((B.take k).flatMap fun u=>(List.range (lv1 L t)).map (g u)).map tupN)) rfl (EX (ds:=G8 1 (lv1 L t)) (es:=((List.range (lv1 L t)).map (g u)).map tupN) ?_ ?_ ?_)).trans ?_
           . have:=V7 (i:=1) (j:=lv1 L t+1) (f:=(mConsP (mK (.int 1)) (mConsP (mBin dix (mPk 0) (mPk 5)) mNilP))) (ρ:= [LV,MV,TO,EV,S4,T5,some (.own (((B.take k).flatMap fun u=>(List.range (lv1 L t)).map (g u)).map tupN)),some (.val (tupN u))]) (EE (a:= .val (.int 1)) rfl (EE (as:= []) ((AF (op:=dix) (a:= .val (.list (nl L))) (b:= .val (.int (t:Nat))) rfl rfl).trans (GR (.inl rfl) g1)) rfl)) (by decide) (by omega);exact this
           . rw [show (G8 1 (lv1 L t)).length=lv1 L t by simp [G8]];omega
           . refine (IB (g:=fun s=>tupN (u ++ [s+1])) fun s hs=>GH (r:= .val (tupN (u ++ [s+1]))) rfl ?_).trans (by rw [G1];rfl);refine (AF (op:=dAdd) (a:= .val (tupN u)) rfl (zJ (a:= .val (.int (1+(s:Nat)))) rfl)).trans ?_;show (if (nl u).length+1<=sizeLine then some (Sl.val (.tuple (nl u ++ [.int (1+(s:Nat))]))) else none)=_;rw [AN (by rw [MS];omega),tupN,U8,show 1+(s:Int)=((s+1:Nat):Int) by omega];rfl
           . refine (I0 rfl rfl ?_).trans ?_
             . rw [<-AT, <-BJ,A4];have e1:((B.take k).flatMap fun u=>(List.range (lv1 L t)).map (g u))++(List.range (lv1 L t)).map (g u)=(B.take (k+1)).flatMap fun u=>(List.range (lv1 L t)).map (g u):=by rw [tk2,HX];simp
               rw [e1,QW,CV];have:=pl (j+1);rw [tk,BJ,Tr.prodN_app,show Tr.prodN ([t].map (lv1 L))=lv1 L t by simp [Tr.prodN], <-UH] at this
               have:min (k+1) B.length*lv1 L t<=B.length*lv1 L t:=F5 _ (XL _ _);have h3:B.length*lv1 L t<=100:=by assumption
               omega
             . rw [tk2,HX,BJ];simp
         . rintro ρ ⟨z7,rfl⟩;refine ⟨z7,?_⟩;rw [BS (AA _),tk,q9 L _ t (by omega)]
       . rintro ρ ⟨z7,rfl⟩;exact ED (FK (r:= .val (.list ((bk L (e.take (j+1))).map tupN))) rfl ⟨_,_,_,_,rfl,rfl⟩)
     . rintro ρ ⟨s4,z5,z6,z7,hs4,rfl⟩;rw [BS (AA _)] at hs4
       exact ⟨s4,z5,z6,z7,hs4,rfl⟩
   . rintro ρ ⟨s4,z5,z6,z7,hs4,rfl⟩
     have fz:frz1 4 [LV,MV,TO,EV,some s4,z5,z6,z7] = [LV,MV,TO,EV,some (.val (.list ((bk L e).map tupN))),z5,z6,z7]:=by
      cases s4 with
      | val d=>cases hs4;rfl
      | own ds=>cases hs4;rfl
      | dct ds=>cases hs4
     refine ED ?_;rw [fz];have tk:M.take (i+1)=M.take i ++ [e]:=by rw [CN,hi];rfl
     have cl:=JV (L:=L) (most:=most) (M:=M.take (i+1)) fun e he=>hM e (E9 he);have tl:(M.take (i+1)).length<=7:=by rw [CV];omega
     have c2:(G2 L (M.take (i+1))).length<=7*100:=BG cl (GA tl hm);rw [tk,K9,AT] at c2
     have bl:(bk L e).length<=100:=by rw [UH];omega
     refine FK (r:= .own (G2 L (M.take (i+1)))) ?_ ⟨_,_,_,_,_,rfl⟩;refine (AF (op:=dAdd) (a:= .own (G2 L (M.take i))) rfl (EX (ds:=(bk L e).map tupN) (es:=(bk L e).map (OJ e)) rfl (by rw [A4];omega) (CA fun u _=>GH (r:= .val (OJ e u)) rfl (OS (a:= .val (tupN e)) (b:= .val (tupN u)) rfl rfl)))).trans ?_;refine (I0 rfl rfl (by omega)).trans ?_;rw [tk,K9]
 . rintro ρ ⟨z3,z4,z5,z6,z7,rfl⟩;rw [BS (AA _)];exact ⟨_,_,_,_,_,rfl⟩
theorem aL:∀ {xs:List PyData},(∀d ∈ xs,d.canLay0=true)->PyData.canLayAll0 xs=true
 | [],_=>rfl
 | x::xs,h=>by rw [PyData.canLayAll0,h x D8,aL fun d hd=>h d (BV _ hd)];rfl
theorem ZR{k:Nat}:∀ {xs:List PyData},(∀d ∈ xs,d.depth<=k)->PyData.depthAll xs<=k
 | [],_=>DZ _
 | x::xs,h=>by rw [PyData.depthAll];exact Nat.max_le.mpr ⟨h x D8,ZR fun d hd=>h d (BV _ hd)⟩
def HA(P:List (List Nat×List Nat))(x:List Nat):List PyData:=il (P.map fun c=>Tr.valAt c.1 c.2 x)
theorem iQ(k s:Nat)(hk:k<=7):kK [.int k, .int s]=some (.val (.int (Tr.con k s))):=by
 refine EI (ρ:= [some (.val (.int k)),some (.val (.int s))]) rfl rfl ?_;unfold b_q7 Tr.con
 by_cases h1:s<k
 . rw [AN h1];exact LR (OB (by show some (decide ((s:Int)<(k:Int)))=_;rw [ET (by omega)]) (DL rfl rfl))
 . rw [AR h1];refine NL (by show some (decide ((s:Int)<(k:Int)))=_;rw [CC (by omega)]) ?_;have ei:(mCallP dInt (mConsP (mBin deq (mPk 1) (mPk 0)) mNilP)) [some (.val (.int k)),some (.val (.int s))]=some (.val (.int (if decide ((s:Int)=(k:Int)) then 1 else 0))):=EN (ss:= [.val (.bool (decide ((s:Int)=(k:Int))))]) (EE (as:= []) ((AF (op:=deq) (a:= .val (.int s)) (b:= .val (.int k)) rfl rfl).trans (nF _ _)) rfl) rfl;refine DL (r:= .val (.int (if s=k then -(k:Int) else 0))) ?_ rfl;refine (AF (op:=dRep) (a:= .val (.int (0 - (k:Int)))) rfl ei).trans ((FM (cmL (by omega) (by omega))).trans ?_)
   by_cases h2:s=k
   . rw [AN h2,ET (by omega)];simp
   . rw [AR h2,CC (by omega)];simp
def enC(c:List Nat×List Nat):PyData:=OJ c.1 c.2
theorem iU {L : List Nat} (hL : ∀ s ∈ L, 2 <= s /\ s <= 7) {M : List (List Nat)} {most : Nat} (hM : ∀ e ∈ M, G3 L most e) (hm : most <= 100) (hl : M.length <= 7) (h4 : L.length <= 4) {X : List (List Nat)} (hX : X.length <= 900) (hx : ∀ x ∈ X, x.length = L.length) :
 WQ [.list (nl L), .list (X.map tupN), .list (M.map tupN)]=some (.own (X.map fun x=> .list (HA (AQ L M) x))):=by
 have sl:=EY
 let LV:Option Sl:=some (.val (.list (nl L)))
 let XV:Option Sl:=some (.val (.list (X.map tupN)))
 let MV:Option Sl:=some (.val (.list (M.map tupN)))
 let P:=AQ L M
 have cl:=JV (L:=L) (most:=most) (M:=M) hM;have cl2:(G2 L M).length<=7*100:=BG cl (GA hl hm);rw [NA,A4] at cl2
 have pl:P.length<=700:=cl2;refine EI (ρ:= [LV,XV,MV,none,none,none,none,none,none,none,none]) rfl rfl ?_;unfold b_q17;refine BN II ?_;refine EJ (P:=fun ρ=>∃z4 z5 z6 z7 z8 z9 z10,ρ = [LV,XV,MV,some (.own (X.map fun x=> .list (HA P x))),z4,z5,z6,z7,z8,z9,z10]) ?_ (by rintro ρ ⟨z4,z5,z6,z7,z8,z9,z10,rfl⟩;exact DL rfl rfl);refine FD (en:=tupN) (xs:=X) (fun i ρ=>∃z4 z5 z6 z7 z8 z9 z10,ρ = [LV,XV,MV,some (.own ((X.take i).map fun x=> .list (HA P x))),z4,z5,z6,z7,z8,z9,z10]) rfl ⟨_,_,_,_,_,_,_,rfl⟩ ?_ ?_
 . rintro i x ρ hi ⟨z4,z5,z6,z7,z8,z9,z10,rfl⟩;obtain ⟨hil,_⟩:=B6.mp hi;have hxl:=hx x (AJ hi)
   let TO:Option Sl:=some (.own ((X.take i).map fun x=> .list (HA P x)))
   let X4:Option Sl:=some (.val (tupN x))
   refine ⟨_,rfl,BN II ?_⟩;show Wp _ [LV,XV,MV,TO,X4,some (.own []),z6,z7,z8,z9,z10] _;refine EJ (P:=fun ρ=>∃z6 z7 z8 z9 z10,ρ = [LV,XV,MV,TO,X4,some (.own (HA P x)),z6,z7,z8,z9,z10]) ?_ ?_
   . refine FD (en:=enC) (xs:=P) (fun j ρ=>∃z6 z7 z8 z9 z10,ρ = [LV,XV,MV,TO,X4,some (.own (HA (P.take j) x)),z6,z7,z8,z9,z10]) ?_ ⟨_,_,_,_,_,rfl⟩ ?_ ?_
     . unfold D5;rw [BF (F:=eY) (f:=mCons (mVar 0) (mCons (mVar 2) mNil)) (ds:= [.list (nl L), .list (M.map tupN)]) rfl (dP hL hM hm hl h4)];show some (G2 L M)=_;rw [NA];rfl
     . rintro j ⟨e,u⟩ ρ hj ⟨z6,z7,z8,z9,z10,rfl⟩;obtain ⟨hjl,_⟩:=B6.mp hj;obtain ⟨c1,c2⟩:=IM (AJ hj);obtain ⟨f1,u7,eul⟩:=LZ hL (hM _ c1).2.1 c2;have he:∀t ∈ e,t<x.length:=fun t ht=>by rw [hxl];exact (hM _ c1).2.1 t ht
       let RO:Option Sl:=some (.own (HA (P.take j) x))
       let E6:Option Sl:=some (.val (tupN e))
       let U7:Option Sl:=some (.val (tupN u))
       refine ⟨[LV,XV,MV,TO,X4,RO,E6,U7,z8,z9,z10],rfl,BN (r:= .val (.int 1)) rfl ?_⟩;refine EJ (P:=fun ρ=>∃z9 z10,ρ = [LV,XV,MV,TO,X4,RO,E6,U7,some (.val (.int (Tr.valAt e u x))),z9,z10]) ?_ ?_
       . refine FD (en:=enP) (xs:=List.zip e u) (fun l ρ=>∃(p:Int) (z9 z10:Option Sl),ρ = [LV,XV,MV,TO,X4,RO,E6,U7,some (.val (.int p)),z9,z10]/\p*Tr.valAt (e.drop l) (u.drop l) x=Tr.valAt e u x) ?_ ⟨1,_,_,rfl,by simp⟩ ?_ ?_
         . show some (IX (nl e) (nl u))=_;rw [UC]
         . rintro l ⟨t,k⟩ ρ hl2 ⟨p,z9,z10,rfl,hp⟩;obtain ⟨d1,d2,m1,m2⟩:=XI hl2;have hk:=u7 k m2;have ht:=he t m1;refine ⟨[LV,XV,MV,TO,X4,RO,E6,U7,some (.val (.int p)),some (.val (.int (t:Nat))),some (.val (.int (k:Nat)))],rfl,?_⟩;have hc:=Tr.con_abs (k:=k) (s:=x.getD t 0) hk
           have gx:(nl x)[t]? = some (.int ((x.getD t 0:Nat):Int)):=by
            unfold nl;rw [List.getElem?_map,List.getElem?_eq_getElem ht];simp [List.getD,List.getElem?_eq_getElem ht]
           refine FK (r:= .val (.int (p*Tr.con k (x.getD t 0)))) ((AF (op:=dRep) (a:= .val (.int p)) rfl (BF (ds:= [.int (k:Nat), .int ((x.getD t 0:Nat):Int)]) (BD (a:= .val (.int (k:Nat))) rfl (BD (as:= []) ((AF (op:=dix) (a:= .val (tupN x)) (b:= .val (.int (t:Nat))) rfl rfl).trans (GR (.inr rfl) gx)) rfl)) (iQ k _ hk))).trans (FM (cmR (by omega) (by omega)))) ⟨_,_,_,rfl,?_⟩;rw [<-hp,d1,d2,Tr.valAt,CD]
         . rintro ρ ⟨p,z9,z10,rfl,hp⟩
           have e0:Tr.valAt (e.drop (List.zip e u).length) (u.drop (List.zip e u).length) x=1:=by
            rw [cH,show e.length=u.length from eul,Nat.min_self,EB (by rw [show e.length=u.length from eul];omega)];rfl
           rw [e0,GG] at hp
           subst hp;exact ⟨z9,z10,rfl⟩
       . rintro ρ ⟨w9,w10,rfl⟩;have tk:P.take (j+1)=P.take j ++ [(e,u)]:=by rw [CN,hj];rfl
         refine ED (R3 (K1 (r:= .val (.int (Tr.valAt e u x))) (ds:=HA (P.take j) x) rfl rfl ?_) ⟨E6,U7,some (.val (.int (Tr.valAt e u x))),w9,w10,?_⟩)
         . show (HA (P.take j) x).length<sizeLine;rw [HA,QM,A4,CV];omega
         . rw [tk];simp only [HA,BJ,iH];rfl
     . rintro ρ ⟨z6,z7,z8,z9,z10,rfl⟩;rw [BS (AA _)];exact ⟨_,_,_,_,_,rfl⟩
   . rintro ρ ⟨z6,z7,z8,z9,z10,rfl⟩;have tk:X.take (i+1)=X.take i ++ [x]:=by rw [CN,hi];rfl
     refine ED (R3 (K1 (r:= .val (.list (HA P x))) (ds:=(X.take i).map fun x=> .list (HA P x)) rfl rfl ?_) ⟨X4,some (.val (.list (HA P x))),z6,z7,z8,z9,z10,?_⟩)
     . rw [A4,CV];omega
     . rw [tk,BJ];rfl
 . rintro ρ ⟨z4,z5,z6,z7,z8,z9,z10,rfl⟩;rw [BS (AA _)];exact ⟨_,_,_,_,_,_,_,rfl⟩
theorem QI(L:List Nat):(Tr.allT L).length=Tr.prodN L:=by simp [Tr.allT]
theorem gG{L:List Nat}(hL:∀c ∈ L,2<=c/\c<=7)(h4:L.length<=4)(hp:Tr.prodN L<=100):∃s:Sl,iX [.list (nl L)]=some s/\s.dat = .list ((Tr.allT L).map tupN)/\∀k,s ≠ .dct k:=by
 have sl:=EY
 let L0:Option Sl:=some (.val (.list (nl L)))
 have hpos:∀c ∈ L,0<c:=fun c hc=>by have:=hL c hc;omega
 have key:Wp b_q5 [L0,none,none,none,none] (fun o=>∃(s:Sl) (ρ':En),o = .rt s ρ'/\s.dat = .list ((Tr.allT L).map tupN)/\∀k,s ≠ .dct k):=by
  unfold b_q5;refine BN (r:= .own [tupN []]) (RL (a:= .val (tupN [])) (if_pos (e:=none) (show 0<=sizeLine by decide))) ?_;refine EJ (P:=fun ρ=>∃(s1:Sl) (z2 z3 z4:Option Sl),(s1.dat = .list ((Tr.allT L).map tupN)/\∀k,s1 ≠ .dct k)/\ρ = [L0,some s1,z2,z3,z4]) ?_ ?_
  . refine FD (en:=enN) (xs:=L) (fun j ρ=>∃(s1:Sl) (z2 z3 z4:Option Sl),(s1.dat = .list ((Tr.allT (L.take j)).map tupN)/\∀k,s1 ≠ .dct k)/\ρ = [L0,some s1,z2,z3,z4]) rfl ⟨_,_,_,_,⟨rfl,fun _ h=>by cases h⟩,rfl⟩ ?_ (fun ρ h=>by rw [HV] at h;exact h);rintro j p ρ hj ⟨s1,z2,z3,z4,⟨hs,hd⟩,rfl⟩;have hp':=hL p (AJ hj);have tj:L.take (j+1)=L.take j ++ [p]:=by rw [CN,hj];rfl
    refine ⟨_,rfl,?_⟩
    let P2:Option Sl:=some (.val (.int (p:Nat)))
    refine BN II ?_
    let B:=Tr.allT (L.take j)
    let S1:Option Sl:=some (.val (.list (B.map tupN)))
    have fz:frz1 1 [L0,some s1,P2,some (.own []),z4] = [L0,S1,P2,some (.own []),z4]:=by
     cases s1 with
     | val d=>cases hs;rfl
     | own ds=>cases hs;rfl
     | dct ds=>exact absurd rfl (hd ds)
    let g:List Nat->Nat->List Nat:=fun u s=>u ++ [s]
    have bs:Tr.allT (L.take (j+1))=B.flatMap fun u=>(List.range p).map (g u):=by rw [tj,Tr.allT_snoc _ _ (by omega)]
    refine EJ (P:=fun ρ=>∃z4,ρ = [L0,S1,P2,some (.own ((Tr.allT (L.take (j+1))).map tupN)),z4]) ?_ ?_
    . refine ED ?_;show Wp _ (frz1 1 [L0,some s1,P2,some (.own []),z4]) _;rw [fz];refine FD (en:=tupN) (xs:=B) (fun k ρ=>∃z4,ρ = [L0,S1,P2,some (.own (((B.take k).flatMap fun u=>(List.range p).map (g u)).map tupN)),z4]) rfl ⟨_,rfl⟩ ?_ (fun ρ ⟨z4,h⟩=>⟨z4,by rw [h,HV,bs]⟩);rintro k u ρ hk ⟨z4,rfl⟩;have tk2:B.take (k+1)=B.take k ++ [u]:=by rw [CN,hk];rfl
      have lu:u.length<=6:=by
       rw [Tr.allT_mem (AJ hk),CV];omega
      refine ⟨_,rfl,FK (r:= .own (((B.take (k+1)).flatMap fun u=>(List.range p).map (g u)).map tupN)) ?_ ⟨_,rfl⟩⟩;refine (AF (op:=dAdd) (a:= .own (((B.take k).flatMap fun u=>(List.range p).map (g u)).map tupN)) rfl (EX (ds:=G8 0 p) (es:=((List.range p).map (g u)).map tupN) (IJ rfl (by omega)) ?_ ?_)).trans ?_
      . rw [show (G8 0 p).length=p by simp [G8]];omega
      . refine (IB (g:=fun s=>tupN (u ++ [s])) fun s hs=>GH (r:= .val (tupN (u ++ [s]))) rfl ?_).trans (by rw [G1];rfl);refine (AF (op:=dAdd) (a:= .val (tupN u)) rfl (zJ (a:= .val (.int (0+(s:Nat)))) rfl)).trans ?_;show (if (nl u).length+1<=sizeLine then some (Sl.val (.tuple (nl u ++ [.int (0+(s:Nat))]))) else none)=_;rw [AN (by rw [MS];omega),tupN,U8,KJ];rfl
      . refine (I0 rfl rfl ?_).trans ?_
        . rw [<-AT, <-BJ,A4];have e1:((B.take k).flatMap fun u=>(List.range p).map (g u))++(List.range p).map (g u)=(B.take (k+1)).flatMap fun u=>(List.range p).map (g u):=by rw [tk2,HX];simp
          rw [e1,QW,CV];have h1:=OT hpos (j+1);rw [tj,Tr.prodN_app,show Tr.prodN [p]=p by simp [Tr.prodN], <-QI] at h1
          have h2:min (k+1) B.length*p<=B.length*p:=F5 _ (XL _ _);have h3:B.length*p<=100:=BG h1 hp;omega
        . rw [tk2,HX,BJ];simp
    . rintro ρ ⟨z4,rfl⟩;exact ED (FK (r:= .val (.list ((Tr.allT (L.take (j+1))).map tupN))) rfl ⟨_,_,_,_,⟨rfl,fun _ h=>by cases h⟩,rfl⟩)
  . rintro ρ ⟨s1,z2,z3,z4,h,rfl⟩;exact DL rfl ⟨s1,_,rfl,h⟩
 obtain ⟨o,h1,s,ρ',rfl,h2⟩:=key;exact ⟨s,FF (ρ:= [L0,none,none,none,none]) rfl rfl ⟨ρ',h1⟩,h2⟩
theorem KS(L:List Nat)(A B:List (List Nat)):AQ L (A++B)=AQ L A++AQ L B:=by simp [AQ]
theorem cN{N m:Nat}{R R':Ba.Mx}(h:∀k,k<N->∀j,j<m->R k j=R' k j):CU N m R=CU N m R':=by
 unfold CU CJ;refine List.map_congr_left fun k hk=> ?_;refine congrArg PyData.list (List.map_congr_left fun j hj=> ?_);rw [h k (List.mem_range.mp hk) j (List.mem_range.mp hj)]
theorem Z8{L:List Nat}{M:List (List Nat)}{X:List (List Nat)}(s k:Nat){j:Nat}(hj:j<(AQ L (M.take s)).length):L9 (AQ L (M.take s)) X k j=L9 (AQ L M) X k j:=by
 have e:AQ L M=AQ L (M.take s)++AQ L (M.drop s):=by rw [<-KS,GU]
 have g:(AQ L M).getD j ([],[])=(AQ L (M.take s)).getD j ([],[]):=by
  rw [e];simp only [List.getD];rw [A9 hj]
 unfold L9;rw [g]
theorem U4{L:List Nat}{M:List (List Nat)}(s:Nat):(AQ L (M.take s)).length<=tot L M:=by
 have e:AQ L M=AQ L (M.take s)++AQ L (M.drop s):=by rw [<-KS,GU]
 rw [<-IA,e,AT];omega
theorem pP {L : List Nat} (hL : ∀ s ∈ L, 2 <= s /\ s <= 7) (h4 : L.length <= 4) {M : List (List Nat)} {most : Nat} (hM : ∀ e ∈ M, G3 L most e) (ht : tot L M <= 6) {X : List (List Nat)} (hX : X.length <= 16) (hX1 : 1 <= X.length) {S : Nat -> Int} (hS : ∀ k, k < X.length -> Bt 42 (S k)) (s : Nat) :
 ∃(v:Nat->Int) (E:Int) (d0 d2:PyData),s<M.length->0<E/\Bt 379 E/\(∀k,k<X.length->Bt 1160 (Ba.sumN (AQ L (M.take (s+1))).length fun j=>L9 (AQ L M) X k j*v j))/\(∀j,j<(AQ L (M.take (s+1))).length->Ba.sumN X.length (fun k=>L9 (AQ L M) X k j*(S k*E - Ba.sumN (AQ L (M.take (s+1))).length fun j=>L9 (AQ L M) X k j*v j))=0) /\
   N3 [.list (X.map (UE (AQ L (M.take (s+1))))),CJ X.length S]=some (.val (.tuple [d0,frD X.length (fun k=>fr (Ba.sumN (AQ L (M.take (s+1))).length fun j=>L9 (AQ L M) X k j*v j) E),d2])):=by
 by_cases hs:s<M.length
 . have hp:=U4 (L:=L) (M:=M) (s+1);have hM':∀e ∈ M.take (s+1),G3 L most e:=fun e he=>hM e (E9 he)
   have h1:1<=(AQ L (M.take (s+1))).length:=by
    rw [IA];exact mZ hL hM' (by rw [CV];omega)
   have e:X.map (UE (AQ L (M.take (s+1))))=CU X.length (AQ L (M.take (s+1))).length (L9 (AQ L M) X):=by
    rw [nY];exact cN fun k _ j hj=>Z8 (s+1) k hj
   obtain ⟨v,E,d0,d2,a1,a2,a3,a4,a5⟩:=j3 (R:=L9 (AQ L M) X) (s:=S) hX1 hX h1 (by omega) (fun k _ j hj=>by rw [<-Z8 (s+1) k hj];exact Y0 hL h4 hM' X k hj) hS;refine ⟨v,E,d0,d2,fun _=>⟨a1,a2,a3,a4,?_⟩⟩;rw [e];exact a5
 . exact ⟨fun _=>0,0, .none, .none,fun h=>absurd h hs⟩
structure Sqs (L:List Nat) (X M:List (List Nat)) (S:Nat->Int) (q:Nat->Int×Int):Prop where
 q0:q 0=(0,1)
 pos:∀s,s<=M.length->0<(q s).2/\Int.gcd (q s).1 (q s).2=1/\Bt 2324 (q s).1/\Bt 758 (q s).2
 fit : ∀ s, s < M.length -> ∃ (F : Nat -> Int) (E : Int) (d0 d2 : PyData), 0 < E /\ Bt 379 E /\ (∀ k, k < X.length -> Bt 1160 (F k)) /\ q (s + 1) = fr (Ba.sumN X.length fun k => F k * F k) (E * E) /\
  N3 [.list (X.map (UE (AQ L (M.take (s+1))))),CJ X.length S]=some (.val (.tuple [d0,frD X.length (fun k=>fr (F k) E),d2]))
def subF(q:Nat->Int×Int)(s:Nat):Int×Int:=fr ((q (s+1)).1*(q s).2 - (q s).1*(q (s+1)).2) ((q (s+1)).2*(q s).2)
theorem zP(M:List (List Nat))(j:Nat):L4 (M.map tupN) none (some (j:Int))=(M.take j).map tupN:=by
 unfold L4;rw [HT.sIx_none,HT.sIx_nat,List.length_map,List.drop_zero,Nat.sub_zero, <-List.map_take];congr 1
 by_cases h:j<=M.length
 . rw [cI h]
 . rw [XN (by omega),BS (AA _),BS (by omega)]
theorem m9 {L : List Nat} (hL : ∀ s ∈ L, 2 <= s /\ s <= 7) {M : List (List Nat)} {most : Nat} (hM : ∀ e ∈ M, G3 L most e) (hm : most <= 100) (hl : M.length <= 7) (h4 : L.length <= 4) {X : List (List Nat)} (hX : X.length <= 16) (hx : ∀ x ∈ X, x.length = L.length) {S : Nat -> Int} {q : Nat -> Int × Int} (sq : Sqs L X M S q) {s : Nat} (hs : s < M.length) :
 X1 [.list (nl L), .list (X.map tupN), .list ((M.take (s+1)).map tupN),CJ X.length S]=some (.val (BL (q (s+1)))):=by
 obtain ⟨F,E,d0,d2,e1,e2,e3,e4,e5⟩:=sq.fit s hs;have tb:=pE hL (fun e he=>hM e (List.mem_of_mem_take he)) hm (by rw [List.length_take];omega) h4 (X:=X) (M:=M.take (s+1)) (by omega) hx;have sp:=WG (a:=F) hX (by omega) e2 e3;refine EI (ρ:= [some (.val (.list (nl L))),some (.val (.list (X.map tupN))),some (.val (.list ((M.take (s+1)).map tupN))),some (.val (CJ X.length S))]) rfl rfl ?_;unfold b_q26;rw [e4];exact DL (BF (ds:= [frD X.length fun k=>fr (F k) E]) (BD (a:= .val (frD X.length fun k=>fr (F k) E)) ((AF (op:=dix) (a:= .val (.tuple [d0,frD X.length (fun k=>fr (F k) E),d2])) (b:= .val (.int ((1:Nat):Int))) (BF (ds:= [.list (X.map (UE (AQ L (M.take (s+1))))),CJ X.length S]) (BD (BF (ds:= [.list (nl L), .list (X.map tupN), .list ((M.take (s+1)).map tupN)]) rfl tb) rfl) e5) rfl).trans (GR (.inr rfl) rfl)) rfl) sp) rfl
def sqD(M:List (List Nat))(q:Nat->Int×Int)(n:Nat):List PyData:=(List.range n).map fun s=> .tuple [tupN (M.getD s []),BL (subF q s)]
theorem cS{M:List (List Nat)}{j:Nat}{d:PyData}(h:(N7 (M.map tupN))[j]? = some d):j<M.length/\d = .tuple [.int (j:Nat),tupN (M.getD j [])]:=by
 unfold N7 at h
 rw [AS,A4] at h
 by_cases hj:j<M.length
 . rw [BO hj] at h
   refine ⟨hj,?_⟩
   have e:(M.map tupN)[j]? = some (tupN (M.getD j [])):=by
    rw [AS,A8 hj];simp [List.getD,A8 hj]
   simp only [F6,WB e] at h
   exact (AY h).symm
 . rw [BZ (by rw [AE];omega)] at h
   cases h
def UI(W:Int)(p:Int×Int):Int×Int:=fr (W*p.2 - p.1*1) (1*p.2)
theorem X5 {L : List Nat} (hL : ∀ s ∈ L, 2 <= s /\ s <= 7) {M : List (List Nat)} {most : Nat} (hM : ∀ e ∈ M, G3 L most e) (hm : most <= 100) (hl : M.length <= 7) (h4 : L.length <= 4) {X : List (List Nat)} (hX : X.length <= 16) (hx : ∀ x ∈ X, x.length = L.length) {S : Nat -> Int} (hS : ∀ k, k < X.length -> Bt 42 (S k)) {q : Nat -> Int × Int} (sq : Sqs L X M S q) :
 T7 [.list (nl L), .list (X.map tupN), .list (M.map tupN),CJ X.length S]=some (.own (sqD M q M.length ++ [.tuple [.str "left",BL (UI (Ba.sumN X.length fun k=>S k*S k) (q M.length))]])):=by
 have sl:=EY
 let LV:Option Sl:=some (.val (.list (nl L)))
 let XV:Option Sl:=some (.val (.list (X.map tupN)))
 let MV:Option Sl:=some (.val (.list (M.map tupN)))
 let SV:Option Sl:=some (.val (CJ X.length S))
 let W:Int:=Ba.sumN X.length fun k=>S k*S k
 have Wb:Bt 88 W:=bt_sum (p:=42+42) hX fun k hk=>(hS k hk).mul (hS k hk);refine EI (ρ:= [LV,XV,MV,SV,none,none,none,none,none,none]) rfl rfl ?_;unfold b_q36;refine BN II (BN (r:= .val (BL (0,1))) rfl ?_);refine EJ (P:=fun ρ=>∃z6 z7 z8 z9,ρ = [LV,XV,MV,SV,some (.own (sqD M q M.length)),some (.val (BL (q M.length))),z6,z7,z8,z9]) ?_ ?_
 . refine V9 (ds:=N7 (M.map tupN)) (fun i ρ=>∃z6 z7 z8 z9,ρ = [LV,XV,MV,SV,some (.own (sqD M q i)),some (.val (BL (q i))),z6,z7,z8,z9]) rfl ⟨_,_,_,_,by rw [sq.q0];rfl⟩ ?_ ?_
   . rintro i d ρ hd ⟨z6,z7,z8,z9,rfl⟩;obtain ⟨hi,rfl⟩:=cS hd
     let I7:Option Sl:=some (.val (.int (i:Nat)))
     let E8:Option Sl:=some (.val (tupN (M.getD i [])))
     refine ⟨[LV,XV,MV,SV,some (.own (sqD M q i)),some (.val (BL (q i))),z6,I7,E8,z9],rfl,?_⟩
     have c:(mSl (mPk 2) mNoPart (mPart (mBin dAdd (mPk 7) (mK (.int 1))))) [LV,XV,MV,SV,some (.own (sqD M q i)),some (.val (BL (q i))),z6,I7,E8,z9]=some (.own ((M.take (i+1)).map tupN)):=by
      rw [<-zP];rfl
     have p0:=sq.pos i (by omega);have p1:=sq.pos (i+1) (by omega);refine BN (BF (ds:= [.list (nl L), .list (X.map tupN), .list ((M.take (i+1)).map tupN),CJ X.length S]) (BD (a:= .val (.list (nl L))) rfl (BD (a:= .val (.list (X.map tupN))) rfl (BD c rfl))) (m9 hL hM hm hl h4 hX hx sq hi)) ?_
     let Q9:Option Sl:=some (.val (BL (q (i+1))))
     have mi:=OO (a:=q (i+1)) (b:=q i) p1.1 p0.1 (p1.2.2.1.mono (by decide)) (p0.2.2.1.mono (by decide)) (p1.2.2.2.mono (by decide)) (p0.2.2.2.mono (by decide));refine FE (f:=mFrz 9 _) (ρ':= [LV,XV,MV,SV,some (.own (sqD M q (i+1))),some (.val (BL (q i))),z6,I7,E8,Q9]) ((K1 (ρ:= [LV,XV,MV,SV,some (.own (sqD M q i)),some (.val (BL (q i))),z6,I7,E8,Q9]) (r:= .val (.tuple [tupN (M.getD i []),BL (subF q i)])) (ds:=sqD M q i) (OS (a:= .val (tupN (M.getD i []))) (b:= .val (BL (subF q i))) rfl (BF (ds:= [BL (q (i+1)),BL (q i)]) rfl mi)) rfl (by rw [sqD,A4,AE];omega)).trans ?_) ?_
     . show some (Out.nx [LV,XV,MV,SV,some (.own (sqD M q i ++ [.tuple [tupN (M.getD i []),BL (subF q i)]])),some (.val (BL (q i))),z6,I7,E8,Q9])=_;unfold sqD;rw [List.range_succ,List.map_append];rfl
     . exact ED (FK (r:= .val (BL (q (i+1)))) rfl ⟨_,_,_,_,rfl⟩)
   . rintro ρ ⟨z6,z7,z8,z9,rfl⟩;have e:(N7 (M.map tupN)).length=M.length:=by unfold N7;simp
     rw [e];exact ⟨_,_,_,_,rfl⟩
 . rintro ρ ⟨z6,z7,z8,z9,rfl⟩;have p0:=sq.pos M.length (AA _);have so:=PU (n:=X.length) (a:=S) (b:=S) (by omega) (fun k hk=>(hS k hk).mono (by decide)) (fun k hk=>(hS k hk).mono (by decide));refine BN (r:= .val (BL (W,1))) (OS (a:= .val (.int W)) (b:= .val (.int 1)) (BF (ds:= [CJ X.length S,CJ X.length S]) rfl so) rfl) ?_;have mi:=OO (a:=(W,1)) (b:=q M.length) (by show (0:Int)<1;decide) p0.1 (Wb.mono (by decide)) (p0.2.2.1.mono (by decide)) (by show (1:Int).natAbs<2 ^ 4000;exact A08 (by decide)) (p0.2.2.2.mono (by decide));refine DL ((AF (op:=dAdd) (a:= .own (sqD M q M.length)) (b:= .own [.tuple [.str "left",BL (UI W (q M.length))]]) rfl (RL (a:= .val (.tuple [.str "left",BL (UI W (q M.length))])) (OS (a:= .val (.str "left")) (b:= .val (BL (UI W (q M.length)))) rfl (BF (ds:= [BL (W,1),BL (q M.length)]) rfl mi)))).trans (I0 rfl rfl ?_)) rfl;rw [sqD,A4,AE];show _+1<=_;omega
def aN:List (Int×Int)->Int
 | []=>0
 | x::l=>x.1*x.1*bN l+x.2*aN l
where bN:List (Int×Int)->Int
 | []=>1
 | x::l=>x.2*bN l
abbrev bN:=aN.bN
theorem O9:∀l m:List (Int×Int),bN (l++m)=bN l*bN m
 | [],m=>by show bN m=1*bN m;rw [QE]
 | x::l,m=>by
  show x.2*bN (l++m)=x.2*bN l*bN m;rw [O9 l m,CD]
theorem R5:∀l m:List (Int×Int),aN (l++m)=aN l*bN m+bN l*aN m
 | [],m=>by show aN m=0*bN m+1*aN m;omega
 | x::l,m=>by
  show x.1*x.1*bN (l++m)+x.2*aN (l++m)=(x.1*x.1*bN l+x.2*aN l)*bN m+x.2*bN l*aN m;rw [O9 l m,R5 l m]
  grind
theorem iP{l m:List (Int×Int)}(h:l.Perm m):aN l=aN m/\bN l=bN m:=by
 induction h with
 | nil=>exact ⟨rfl,rfl⟩
 | cons x _ ih=>exact ⟨by show _*bN _+_*aN _=_*bN _+_*aN _;rw [ih.1,ih.2],by show _*bN _=_*bN _;rw [ih.2]⟩
 | swap x y l=>
  refine ⟨?_,?_⟩
  . show y.1*y.1*(x.2*bN l)+y.2*(x.1*x.1*bN l+x.2*aN l)=x.1*x.1*(y.2*bN l)+x.2*(y.1*y.1*bN l+y.2*aN l)
    grind
  . show y.2*(x.2*bN l)=x.2*(y.2*bN l)
    grind
 | trans _ _ a b=>exact ⟨a.1.trans b.1,a.2.trans b.2⟩
theorem iF:∀ {l:List (Int×Int)},(∀x ∈ l,0<x.2)->0<bN l
 | [],_=>by show (0:Int)<1;decide
 | x::l,h=>HH (h x (by simp)) (iF fun y hy=>h y (by simp [hy]))
def bC(X:List (List Nat))(S:Nat->Int)(c:List Nat×List Nat):Int:=Ba.sumN X.length fun k=>Tr.valAt c.1 c.2 (X.getD k [])*S k
def dC(X:List (List Nat))(c:List Nat×List Nat):Int:=Ba.sumN X.length fun k=>Tr.valAt c.1 c.2 (X.getD k [])*Tr.valAt c.1 c.2 (X.getD k [])
def bd(X:List (List Nat))(S:Nat->Int)(P:List (List Nat×List Nat)):List (Int×Int):=P.map fun c=>(bC X S c,dC X c)
def qF(L:List Nat)(X:List (List Nat))(S:Nat->Int)(M:List (List Nat)):Int×Int:=fr (aN (bd X S (AQ L M))) (bN (bd X S (AQ L M)))
theorem UZ(X:List (List Nat))(S:Nat->Int)(P Q:List (List Nat×List Nat)):bd X S (P++Q)=bd X S P++bd X S Q:=BJ
theorem MQ{X:List (List Nat)}{S:Nat->Int}{P:List (List Nat×List Nat)}(h:∀c ∈ P,0<dC X c):0<bN (bd X S P):=iF fun x hx=>by
 obtain ⟨c,hc,rfl⟩:=CW.mp hx;exact h c hc
theorem sS {L : List Nat} {X : List (List Nat)} {S : Nat -> Int} {M : List (List Nat)} {e : List Nat} (hp : ∀ c ∈ AQ L (M ++ [e]), 0 < dC X c) :
 fr ((qF L X S (M ++ [e])).1*(qF L X S M).2 - (qF L X S M).1*(qF L X S (M ++ [e])).2) ((qF L X S (M ++ [e])).2*(qF L X S M).2)=qF L X S [e]:=by
 have e1:AQ L (M ++ [e])=AQ L M++AQ L [e]:=KS L M [e];rw [e1] at hp
 have p1:=MQ (S:=S) (X:=X) (P:=AQ L M) fun c hc=>hp c (List.mem_append_left _ hc);have p2:=MQ (S:=S) (X:=X) (P:=AQ L [e]) fun c hc=>hp c (List.mem_append_right _ hc);unfold qF;rw [e1,UZ,R5,O9];generalize aN (bd X S (AQ L M))=a at *
 generalize bN (bd X S (AQ L M))=b at *
 generalize aN (bd X S (AQ L [e]))=a' at *
 generalize bN (bd X S (AQ L [e]))=b' at *
 have b0:b≠0:=by omega
 have b0':b'≠0:=by omega
 have bb:b*b'≠0:=DH b0 b0';have c1:=FS (a:=a*b'+b*a') bb;have c2:=FS (a:=a) b0;have q1:=FV (a:=a*b'+b*a') bb;have q2:=FV (a:=a) b0;refine P1 (DH (by omega) (by omega)) b0' ?_;generalize fr (a*b'+b*a') (b*b')=x at *
 generalize fr a b=y at *
 refine Ba.mul_cancel (show b*b≠0 from DH b0 b0) ?_
 calc b*b*((x.1*y.2 - y.1*x.2)*b')=(x.1*(b*b'))*y.2*b - (y.1*b)*x.2*(b*b'):=by grind
  _=((a*b'+b*a')*x.2)*y.2*b - (a*y.2)*x.2*(b*b'):=by rw [c1,c2]
  _=b*b*(a'*(x.2*y.2)):=by grind
theorem sum_one{m:Nat}{f:Nat->Int}{i:Nat}(hi:i<m)(h:∀j,j<m->j≠i->f j=0):Ba.sumN m f=f i:=by
 induction m with
 | zero=>omega
 | succ m ih=>
  show Ba.sumN m f+f m=f i
  by_cases e:i=m
  . subst e;rw [Ba.sum_zero fun j hj=>h j (by omega) (by omega)];omega
  . rw [ih (by omega) fun j hj hn=>h j (by omega) hn,h m (by omega) (fun z=>e z.symm)];omega
theorem LS{L:List Nat}{M:List (List Nat)}(s:Nat):AQ L (M.take s)=(AQ L M).take (AQ L (M.take s)).length:=by
 have e:AQ L M=AQ L (M.take s)++AQ L (M.drop s):=by rw [<-KS,GU]
 rw [e,List.take_append_of_le_length (AA _)];simp
theorem tT {L : List Nat} (hL : ∀ s ∈ L, 2 <= s /\ s <= 7) (h4 : L.length <= 4) {M : List (List Nat)} {most : Nat} (hM : ∀ e ∈ M, G3 L most e) (ht : tot L M <= 6) {X : List (List Nat)} (hX : X.length <= 16) (hX1 : 1 <= X.length) {S : Nat -> Int} (hS : ∀ k, k < X.length -> Bt 42 (S k))
 (hO:∀i,i<(AQ L M).length->∀j,j<(AQ L M).length->i≠j->Ba.gram X.length (L9 (AQ L M) X) i j=0) (hP:∀c ∈ AQ L M,0<dC X c):Sqs L X M S (fun s=>qF L X S (M.take s)):=by
 let P:=AQ L M
 let R:=L9 P X
 let cj:Nat->Int:=fun j=>Ba.sumN X.length fun k=>R k j*S k
 let dj:Nat->Int:=fun j=>Ba.gram X.length R j j
 have hp:∀s,0<bN (bd X S (AQ L (M.take s))):=fun s=>MQ fun c hc=>hP c (by
  rw [LS] at hc
  exact E9 hc)
 have key : ∀ s, s < M.length -> ∃ (F : Nat -> Int) (E : Int) (d0 d2 : PyData), 0 < E /\ Bt 379 E /\ (∀ k, k < X.length -> Bt 1160 (F k)) /\ qF L X S (M.take (s + 1)) = fr (Ba.sumN X.length fun k => F k * F k) (E * E) /\
  N3 [.list (X.map (UE (AQ L (M.take (s+1))))),CJ X.length S]=some (.val (.tuple [d0,frD X.length (fun k=>fr (F k) E),d2])):=fun s hs=>by
  obtain ⟨v,E,d0,d2,H⟩:=pP hL h4 hM ht hX hX1 hS s;obtain ⟨a1,a2,a3,a4,a5⟩:=H hs
  have hm:(AQ L (M.take (s+1))).length<=P.length:=by
   show _<=(AQ L M).length;rw [IA L M];exact U4 (s+1)
  have ct:=LS (L:=L) (M:=M) (s+1);generalize (AQ L (M.take (s+1))).length=m at *
  let F:Nat->Int:=fun k=>Ba.sumN m fun j=>R k j*v j
  have rf:∀j,j<m->Ba.sumN X.length (fun k=>R k j*F k)=dj j*v j:=fun j hj=>by
   have:=Ba.gram_mul (N:=X.length) (m:=m) (R:=R) (y:=v) j;rw [<-this]
   exact sum_one hj fun i hi hn=>by
    show Ba.gram X.length R j i*v i=0;rw [hO j (AM hj hm) i (AM hi hm) (HQ hn),EU]
  have nv:∀j,j<m->dj j*v j=cj j*E:=fun j hj=>by
   have z:Ba.sumN X.length (fun k=>R k j*(S k*E - F k))=0:=a4 j hj;have e1:Ba.sumN X.length (fun k=>R k j*(S k*E - F k))=Ba.sumN X.length (fun k=>(R k j*S k)*E+(R k j*F k)*(-1)):=Ba.sum_congr fun k _=>by grind
   rw [e1,Ba.sum_add,Ba.sum_mul_right,Ba.sum_mul_right,rf j hj] at z
   show _=(Ba.sumN X.length fun k=>R k j*S k)*E;omega
  have QQ:(Ba.sumN X.length fun k=>F k*F k)=Ba.sumN m fun j=>v j*(dj j*v j):=by
   have e1:(Ba.sumN X.length fun k=>F k*F k)=Ba.sumN X.length fun k=>Ba.sumN m fun j=>v j*(R k j*F k):=Ba.sum_congr fun k _=>by
    show (Ba.sumN m fun j=>R k j*v j)*F k=_;rw [<-Ba.sum_mul_right];exact Ba.sum_congr fun j _=>by ac_rfl
   rw [e1,Ba.sum_comm];exact Ba.sum_congr fun j hj=>by rw [Ba.sum_mul,rf j hj]
  refine ⟨F,E,d0,d2,a1,a2,a3,?_,a5⟩;have E0:E*E≠0:=DH (by omega) (by omega);have B0:=hp (s+1)
  have claim:∀i,i<=m->(Ba.sumN i fun j=>v j*(dj j*v j))*bN (bd X S (P.take i))=aN (bd X S (P.take i))*(E*E):=fun i=>by
   induction i with
   | zero=>
    intro _;rw [QG];show 0*bN []=0*(E*E)
    rw [EU,EU]
   | succ i ih=>
    intro hi;have ih:=ih (by omega);have hiP:i<P.length:=by omega
    have e1:P.take (i+1)=P.take i ++ [P.getD i ([],[])]:=by
     rw [CN,A8 hiP,List.getD,A8 hiP];rfl
    have e2:bd X S [P.getD i ([],[])] = [(cj i,dj i)]:=rfl;rw [e1,UZ,e2,R5,O9];show ((Ba.sumN i fun j=>v j*(dj j*v j))+v i*(dj i*v i))*(bN (bd X S (P.take i))*(dj i*1))=(aN (bd X S (P.take i))*(dj i*1)+bN (bd X S (P.take i))*(cj i*cj i*1+dj i*0))*(E*E);have n:=nv i (by omega);generalize (Ba.sumN i fun j=>v j*(dj j*v j))=T at *
    generalize bN (bd X S (P.take i))=b at *
    generalize aN (bd X S (P.take i))=a at *
    calc (T+v i*(dj i*v i))*(b*(dj i*1))=T*b*dj i+(dj i*v i)*(dj i*v i)*b:=by grind
     _=a*(E*E)*dj i+(cj i*E)*(cj i*E)*b:=by rw [ih,n]
     _=_:=by grind
  have c:=claim m (AA _);show fr (aN (bd X S (AQ L (M.take (s+1))))) (bN (bd X S (AQ L (M.take (s+1)))))=_;rw [ct] at B0 ⊢
  refine P1 (by have:0<bN (bd X S (P.take m)):=B0;show bN (bd X S (P.take m))≠0;omega) E0 ?_;rw [QQ];exact c.symm
 refine ⟨?_,fun s hs=>⟨FV (by have:=hp s;omega),V8 (by have:=hp s;omega),?_⟩,key⟩
 . show fr (aN (bd X S (AQ L (M.take 0)))) (bN (bd X S (AQ L (M.take 0))))=(0,1);rw [QG];exact Q6 (show (1:Int)≠0 by decide)
 . cases s with
   | zero=>
    have e:qF L X S (M.take 0)=(0,1):=by
     rw [QG];exact Q6 (show (1:Int)≠0 by decide)
    show Bt 2324 (qF L X S (M.take 0)).1/\Bt 758 (qF L X S (M.take 0)).2;rw [e]
    exact ⟨by show (0:Int).natAbs<2 ^ 2324;exact HF (by decide),by show (1:Int).natAbs<2 ^ 758;exact A08 (by decide)⟩
   | succ s=>
    obtain ⟨F,E,_,_,a1,a2,a3,a4,_⟩:=key s (by omega);show Bt 2324 (qF L X S (M.take (s+1))).1/\Bt 758 (qF L X S (M.take (s+1))).2;rw [a4];have b1:Bt 2324 (Ba.sumN X.length fun k=>F k*F k):=bt_sum (p:=1160+1160) hX fun k hk=>(a3 k hk).mul (a3 k hk);have b2:Bt 758 (E*E):=a2.mul a2;exact ⟨b1.fdiv,b2.fdiv⟩
theorem kU(L e:List Nat):(bk L e).Nodup:=by
 unfold bk;refine List.pairwise_map.mpr ((Tr.allT_nodup _).imp fun {a b} h z=>h ?_)
 have inj:∀a b:List Nat,a.map (· + 1)=b.map (· + 1)->a=b:=by
  intro a
  induction a with
  | nil=>intro b h;cases b with | nil=>rfl | cons y b=>cases h
  | cons x a ih=>
   intro b h
   cases b with
   | nil=>cases h
   | cons y b=>
    simp only [CT] at h
    obtain ⟨h1,h2⟩:=lT h;rw [ih b h2,Nat.add_right_cancel h1]
 exact inj a b z
theorem WL{L:List Nat}{M:List (List Nat)}(h:M.Nodup):(AQ L M).Nodup:=by
 unfold AQ;refine List.pairwise_flatMap.mpr ⟨fun e _=>List.pairwise_map.mpr ((kU L e).imp fun {a b} hn z=>hn (Prod.mk.inj z).2),h.imp fun {a b} hn x hx y hy z=> ?_⟩;obtain ⟨u,_,rfl⟩:=List.mem_map.mp hx;obtain ⟨v,_,rfl⟩:=List.mem_map.mp hy;exact hn (Prod.mk.inj z).1
theorem iC(f:Nat->Int):∀n,((List.range n).map f).sum=Ba.sumN n f
 | 0=>rfl
 | n+1=>by
  rw [FY,BJ,OU,iC f n];show _+(f n+0)=_+f n;omega
theorem XF(f:List Nat->Int)(l:List (List Nat)):Ba.sumN l.length (fun k=>f (l.getD k []))=(l.map f).sum:=by
 rw [IP f [] l,iC]
theorem ZY{L:List Nat}{M:List (List Nat)}{i:Nat}(hi:i<(AQ L M).length):(AQ L M).getD i ([],[]) ∈ AQ L M:=by
 rw [List.getD,A8 hi];exact JL _
theorem dR{L:List Nat}(hL:∀s ∈ L,2<=s/\s<=7){M:List (List Nat)}{most:Nat}(hM:∀e ∈ M,G3 L most e)(hn:M.Nodup){i j:Nat}(hi:i<(AQ L M).length)(hj:j<(AQ L M).length)(hij:i≠j):Ba.gram (Tr.allT L).length (L9 (AQ L M) (Tr.allT L)) i j=0:=by
 have nd:=WL (L:=L) hn;have ci:=ZY hi;have cj:=ZY hj
 have ne:(AQ L M).getD i ([],[])≠(AQ L M).getD j ([],[]):=fun z=>by
  rw [List.getD,List.getD,A8 hi,A8 hj] at z
  exact hij ((List.getElem_inj nd).mp z)
 show Ba.sumN (Tr.allT L).length (fun k=>Tr.valAt ((AQ L M).getD i ([],[])).1 ((AQ L M).getD i ([],[])).2 ((Tr.allT L).getD k [])*Tr.valAt ((AQ L M).getD j ([],[])).1 ((AQ L M).getD j ([],[])).2 ((Tr.allT L).getD k []))=0;generalize (AQ L M).getD i ([],[])=a at *
 generalize (AQ L M).getD j ([],[])=b at *
 obtain ⟨a1,a2⟩:=IM ci;obtain ⟨b1,b2⟩:=IM cj;obtain ⟨p1,p2,_⟩:=hM _ a1;obtain ⟨q1,q2,_⟩:=hM _ b1;refine (XF (fun x=>Tr.valAt a.1 a.2 x*Tr.valAt b.1 b.2 x) (Tr.allT L)).trans (Tr.orth L (fun c hc=>by have:=hL c hc;omega) p1 p2 q1 q2 (LZ hL p2 a2).1 (LZ hL q2 b2).1 ?_)
 by_cases e:a.1=b.1
 . exact .inr fun z=>ne (Prod.ext e z)
 . exact .inl e
theorem TH{f:Nat->Int}:∀ {n:Nat},(∀i,i<n->0<f i)->0<Tr.prodF f n
 | 0,_=>by show (0:Int)<1;decide
 | n+1,h=>HH (TH fun i hi=>h i (by omega)) (h n (by omega))
theorem bA:∀ {u:List Nat},(∀k ∈ u,1<=k)->0<Tr.sqU u
 | [],_=>by show (0:Int)<1;decide
 | k::u,h=>by
  have hk:=h k (by simp);refine HH ?_ (bA fun x hx=>h x (by simp [hx]));have:(0:Int)<k:=by omega
  have:=HH this this;omega
theorem QR{L:List Nat}(hL:∀s ∈ L,2<=s/\s<=7){M:List (List Nat)}{most:Nat}(hM:∀e ∈ M,G3 L most e):∀c ∈ AQ L M,0<dC (Tr.allT L) c:=fun c hc=>by
 obtain ⟨a1,a2⟩:=IM hc;obtain ⟨p1,p2,_⟩:=hM _ a1;have hp:∀c ∈ L,0<c:=fun c hc=>by have:=hL c hc;omega
 have e:dC (Tr.allT L) c=Tr.outE L c.1 L.length*Tr.sqU c.2:=(XF (fun x=>Tr.valAt c.1 c.2 x*Tr.valAt c.1 c.2 x) (Tr.allT L)).trans (Tr.square L hp p1 p2 (LZ hL p2 a2).1);rw [e];refine HH (TH fun t ht=> ?_) (bA fun k hk=> ?_)
 . show (0:Int)<if t ∈ c.1 then 1 else (L.getD t 0:Int)
   split
   . decide
   . have:0<L.getD t 0:=hp _ (by rw [List.getD,A8 ht];exact JL _);omega
 . unfold bk at a2
   obtain ⟨t,_,z⟩:=CW.mp a2;rw [<-z] at hk
   obtain ⟨y,_,rfl⟩:=CW.mp hk;omega
theorem T9{a b:Int×Int}(ha:0<a.2)(hb:0<b.2)(B1:Bt 4000 a.1)(B2:Bt 4000 b.1)(B3:Bt 4000 a.2)(B4:Bt 4000 b.2):QT [BL a,BL b]=some (.val (BL (fr (a.1*b.2+b.1*a.2) (a.2*b.2)))):=by
 have M:∀ {i j:Int},Bt 4000 i->Bt 4000 j->NS i j:=fun h k=> .inr (IC h k rfl);have a0:∀ {f:En->Option Sl} {ρ:En} {q:Int×Int},f ρ=some (.val (BL q))->mBin dix f (mK (.int 0)) ρ=some (.val (.int q.1)):=fun h=>(AF (b:= .val (.int 0)) h rfl).trans (R7 _);have a1:∀ {f:En->Option Sl} {ρ:En} {q:Int×Int},f ρ=some (.val (BL q))->mBin dix f (mK (.int 1)) ρ=some (.val (.int q.2)):=fun h=>(AF (b:= .val (.int 1)) h rfl).trans (MT _);refine FF (ρ:= [some (.val (BL a)),some (.val (BL b))]) rfl rfl ?_;unfold b_q14;refine GF (BF (ds:= [.int (a.1*b.2+b.1*a.2), .int (a.2*b.2)]) ?_ (SS (Int.mul_pos ha hb) ((B3.mul B4).mono (by decide))));refine (BD (a:= .val (.int (a.1*b.2+b.1*a.2))) (as:= [.int (a.2*b.2)]) ?_ (BD (a:= .val (.int (a.2*b.2))) ?_ rfl)).trans rfl
 . refine (AF (a:= .val (.int (a.1*b.2))) (b:= .val (.int (b.1*a.2))) ?_ ?_).trans rfl
   . exact (AF (a0 (q:=a) rfl) (a1 (q:=b) rfl)).trans (FM (M B1 B4))
   . exact (AF (a0 (q:=b) rfl) (a1 (q:=a) rfl)).trans (FM (M B2 B3))
 . exact (AF (a1 (q:=a) rfl) (a1 (q:=b) rfl)).trans (FM (M B3 B4))
theorem YK(c:Int){k:Int}(h0:0<=k)(h1:k<1000000):∃v,J9 [.int c, .int k]=some (.val (.int v))/\0<=v/\v<2147483629:=by
 let o1:=((c.fmod 2147483647+40503*k*k+17*k)*48271).fmod 2147483647
 refine ⟨(o1*(o1.fmod 65537+3*k+1)).fmod 2147483629,EI (ρ:= [some (.val (.int c)),some (.val (.int k)),none]) rfl rfl ?_,Int.fmod_nonneg_of_pos _ (by decide),Int.fmod_lt_of_pos _ (by decide)⟩;unfold b_q12;have a1:=Int.fmod_nonneg_of_pos ((c.fmod 2147483647+40503*k*k+17*k)*48271) (show (0:Int)<2147483647 by decide);have a2:=Int.fmod_lt_of_pos ((c.fmod 2147483647+40503*k*k+17*k)*48271) (show (0:Int)<2147483647 by decide);refine BN (r:= .val (.int o1)) ?_ (DL (r:= .val (.int ((o1*(o1.fmod 65537+3*k+1)).fmod 2147483629))) ?_ rfl)
 . refine (AF (op:=FJ) ((AF (op:=dRep) ((AF (op:=dAdd) ((AF (op:=dAdd) ((AF (op:=FJ) rfl rfl).trans (M6 (by decide))) ((AF (op:=dRep) ((AF (op:=dRep) rfl rfl).trans (FM (cmL (by decide) (by decide)))) rfl).trans (FM (cmR (by omega) (by omega))))).trans rfl) ((AF (op:=dRep) rfl rfl).trans (FM (cmL (by decide) (by decide))))).trans rfl) rfl).trans (FM (cmR (by decide) (by decide)))) rfl).trans (M6 (by decide))
 . refine (AF (op:=FJ) ((AF (op:=dRep) (a:= .val (.int o1)) rfl ((AF (op:=dAdd) ((AF (op:=dAdd) ((AF (op:=FJ) rfl rfl).trans (M6 (by decide))) ((AF (op:=dRep) rfl rfl).trans (FM (cmL (by decide) (by decide))))).trans rfl) rfl).trans rfl)).trans (FM (cmL (by show _<o1;omega) (by show o1<_;omega)))) rfl).trans (M6 (by decide))
theorem lH{fa fb:En->Option Sl}{ρ:En}{i m:Int}(ha:fa ρ=some (.val (.int i)))(hb:fb ρ=some (.val (.int m)))(hp:0<m):∃v:Nat,mBin FJ fa fb ρ=some (.val (.int v))/\(v:Int)<m/\(v:Int)=i.fmod m:=by
 refine ⟨(i.fmod m).toNat,?_,?_,G9 (EC _ hp)⟩
 . rw [G9 (EC _ hp)];exact (AF (op:=FJ) ha hb).trans (M6 (by omega))
 . rw [G9 (EC _ hp)];exact IF _ hp
theorem gD{fa:En->Option Sl}{ρ:En}{i j:Int}(ha:fa ρ=some (.val (.int i)))(h0:0<j)(h:j<=1000):mBin EF fa (mK (.int j)) ρ=some (.val (.int (i.fdiv j))):=(AF (op:=EF) ha rfl).trans (P8 h0 h)
theorem pG{n k:Nat}{g:En->Option Out}{ρ:En}{ds:List PyData}{Q:Sl->Prop}(hl:ds.length=k)(e:ds.map (fun d=>some (Sl.val d))++List.replicate (n - ds.length) none=ρ)(h:Wp g ρ (fun o=>match o with | .rt r _=>Q r | _=>False)):∃r,F4 n g k ds=some r/\Q r:=by
 obtain ⟨o,h1,h2⟩:=h
 cases o with
 | rt r ρ'=>exact ⟨r,EI hl e ⟨_,h1,rfl⟩,h2⟩
 | _=>exact h2.elim
theorem xE(l:List Int)(k:Nat)(y:Int):(il l).set k (.int y)=il (l.set k y):=by
 unfold il;rw [List.map_set]
theorem W1(c:Int){n:Nat}(hn:n<=100):∃r:List Int,XD [.int c, .int (n:Nat)]=some (.own (il r))/\r.length=n/\∀x ∈ r,Bt 42 x:=by
 have sl:=EY
 let C:Option Sl:=some (.val (.int c))
 let N1:Option Sl:=some (.val (.int (n:Nat)))
 have key:Wp b_q15 [C,N1,none,none,none,none] (fun o=>∃(r:List Int) (ρ':En),o = .rt (.own (il r)) ρ'/\r.length=n/\∀x ∈ r,Bt 42 x):=by
  unfold b_q15;refine BN II (BN (r:= .val (.int (c.fdiv 2))) (gD rfl (by decide) (by decide)) ?_);refine EJ (P:=fun ρ=>∃(r:List Int) (z3 z4 z5:Option Sl),ρ = [C,N1,some (.own (il r)),z3,z4,z5]/\r.length=n/\∀x ∈ r,Bt 42 x) ?_ (by rintro ρ ⟨r,z3,z4,z5,rfl,h1,h2⟩;exact DL rfl ⟨r,_,rfl,h1,h2⟩);refine NP (n:=n) (fun k ρ=>∃(r:List Int) (l:Int) (z4 z5:Option Sl),ρ = [C,N1,some (.own (il r)),some (.val (.int l)),z4,z5]/\r.length=k/\∀x ∈ r,Bt 42 x) (IJ (j:=n) rfl (by omega)) ⟨[],_,_,_,rfl,rfl,by simp⟩ ?_ (by rintro ρ ⟨r,l,z4,z5,rfl,h⟩;exact ⟨r,_,_,_,rfl,h⟩);rintro k ρ hk ⟨r,l,z4,z5,rfl,h1,h2⟩;refine ⟨_,rfl,?_⟩
  let K4:Option Sl:=some (.val (.int (k:Nat)))
  obtain ⟨w,ew,w0,w1⟩:=YK c (k:=300+(k:Nat)) (by omega) (by omega);refine BN (r:= .val (.int w)) (BF (ds:= [.int c, .int (300+(k:Nat))]) rfl ew) ?_
  let W5:Option Sl:=some (.val (.int w))
  show Wp _ [C,N1,some (.own (il r)),some (.val (.int l)),K4,W5] _
  have small:∀x:Int, -20<=x->x<=20->Bt 42 x:=fun x a b=>by
   show x.natAbs<2 ^ 42;have:20<2 ^ 42:=by decide
   omega
  obtain ⟨y,ey,yb,_⟩:=lH (fa:=mBin EF (mPk 5) (mK (.int 7))) (fb:=mK (.int 41)) (ρ:= [C,N1,some (.own (il r)),some (.val (.int l)),K4,W5]) (i:=w.fdiv 7) (gD rfl (by decide) (by decide)) rfl (by decide)
  have ap:mApp 2 (mBin dSub (mBin FJ (mBin EF (mPk 5) (mK (.int 7))) (mK (.int 41))) (mK (.int 20))) [C,N1,some (.own (il r)),some (.val (.int l)),K4,W5]=some (.nx [C,N1,some (.own (il (r ++ [(y:Int) - 20]))),some (.val (.int l)),K4,W5]):=by
   refine (K1 (r:= .val (.int ((y:Int) - 20))) (ds:=il r) ((AF (op:=dSub) ey (b:= .val (.int 20)) rfl).trans rfl) rfl (by rw [QM];omega)).trans ?_;rw [iH];rfl
  refine FE ap ?_
  have st:∀(r':List Int) (l':Int) (x:Int) (fe:En->Option Sl),r'.length=k+1->fe [C,N1,some (.own (il r')),some (.val (.int l')),K4,W5]=some (.val (.int x))->mSet 2 (mPk 4) fe [C,N1,some (.own (il r')),some (.val (.int l')),K4,W5]=some (.nx [C,N1,some (.own (il (r'.set k x))),some (.val (.int l')),K4,W5]):=fun r' l' x fe hl he=>by
   refine (XT (r:= .val (.int x)) (ds:=il r') (j:=k) (k:=(k:Nat)) he rfl rfl ?_).trans ?_
   . unfold ixN;rw [if_pos (by omega),if_pos (by rw [QM];omega)];simp
   . rw [<-xE];rfl
  have keep:∀(r':List Int) (x:Int),(∀z ∈ r',Bt 42 z)->Bt 42 x->∀z ∈ r'.set k x,Bt 42 z:=fun r' x hr hx z hz=>by
   rcases List.mem_or_eq_of_mem_set hz with h | h
   . exact hr z h
   . rw [h];exact hx
  have b0:∀z ∈ r ++ [(y:Int) - 20],Bt 42 z:=fun z hz=>by
   rcases DU.mp hz with h | h
   . exact h2 z h
   . cases B9.mp h
     exact small _ (by omega) (by omega)
  refine EJ (P:=fun ρ=>∃r':List Int,ρ = [C,N1,some (.own (il r')),some (.val (.int l)),K4,W5]/\r'.length=k+1/\∀x ∈ r',Bt 42 x) ?_ ?_
  . obtain ⟨u,eu,ub,_⟩:=lH (fa:=mPk 5) (fb:=mK (.int 7)) (ρ:= [C,N1,some (.own (il (r ++ [(y:Int) - 20]))),some (.val (.int l)),K4,W5]) (i:=w) rfl rfl (by decide);refine MC (IW (i:=u) (j:=0) eu rfl) ?_
    cases decide ((u:Int)=0)
    . exact HM ⟨_,rfl,by simp [h1],b0⟩
    . let E5:En:= [C,N1,some (.own (il (r ++ [(y:Int) - 20]))),some (.val (.int l)),K4,W5]
      have p12:(mBin VT (mK (.int 10)) (mK (.int 12))) E5=some (.val (.int (10 ^ 12))):=(AF (op:=VT) (a:= .val (.int 10)) (b:= .val (.int 12)) rfl rfl).trans (A14 (yI rfl));have p2:(mBin dRep (mK (.int 2)) (mBin VT (mK (.int 10)) (mK (.int 12)))) E5=some (.val (.int (2*10 ^ 12))):=(AF (op:=dRep) (a:= .val (.int 2)) rfl p12).trans (FM (cmL (by decide) (by decide)));have sqw:(mBin dRep (mPk 5) (mPk 5)) E5=some (.val (.int (w*w))):=(AF (op:=dRep) (a:= .val (.int w)) (b:= .val (.int w)) rfl rfl).trans (FM (cmL (by omega) (by omega)));have b1:=EC (w*w) (show (0:Int)<2*10 ^ 12 by decide);have b2:=IF (w*w) (show (0:Int)<2*10 ^ 12 by decide);refine R3 (st _ l ((w*w).fmod (2*10 ^ 12) - 10 ^ 12) _ (by simp [h1]) ((AF (op:=dSub) ((AF (op:=FJ) sqw p2).trans (M6 (by decide))) p12).trans rfl)) ⟨_,rfl,by simp [h1],keep _ _ b0 ?_⟩;show ((w*w).fmod (2*10 ^ 12) - 10 ^ 12).natAbs<2 ^ 42;have:10 ^ 12<2 ^ 42:=by decide
      omega
  rintro ρ ⟨r',rfl,l1,l2⟩;obtain ⟨u,eu,ub,_⟩:=lH (fa:=mPk 0) (fb:=mK (.int 2)) (ρ:= [C,N1,some (.own (il r')),some (.val (.int l)),K4,W5]) (i:=c) rfl rfl (by decide);refine MC (IW (i:=u) (j:=1) eu rfl) ?_
  cases decide ((u:Int)=1)
  . exact HM ⟨r',l,_,_,rfl,l1,l2⟩
  . obtain ⟨x,ex,xb,_⟩:=lH (fa:=mPk 3) (fb:=mK (.int 41)) (ρ:= [C,N1,some (.own (il r')),some (.val (.int l)),K4,W5]) (i:=l) rfl rfl (by decide);exact FE (st r' l ((x:Int) - 20) _ l1 ((AF (op:=dSub) ex (b:= .val (.int 20)) rfl).trans rfl)) (FK (r:= .val (.int (l.fdiv 41))) (gD rfl (by decide) (by decide)) ⟨r'.set k ((x:Int) - 20),_,_,_,rfl,by simp [l1],keep _ _ l2 (small _ (by omega) (by omega))⟩)
 obtain ⟨o,h1,r,ρ',rfl,h2⟩:=key;exact ⟨r,FF (ρ:= [C,N1,none,none,none,none]) rfl rfl ⟨ρ',h1⟩,h2⟩
theorem bt1:Bt 1 (1:Int):=by unfold Bt;decide
theorem YF:∀ {l:List (Int×Int)},(∀x ∈ l,Bt 58 x.1/\Bt 28 x.2)->Bt (1+28*l.length) (bN l)/\Bt (120+40*l.length) (aN l)
 | [],_=>⟨bt1,Bt.zero _⟩
 | x::l,h=>by
  obtain ⟨h1,h2⟩:=h x (by simp);obtain ⟨i1,i2⟩:=YF (l:=l) fun y hy=>h y (by simp [hy]);rw [C8];refine ⟨(h2.mul i1).mono (by omega),?_⟩;exact Bt.mono (Bt.add ((h1.mul h1).mul i1) (h2.mul i2)) (by omega)
theorem iI{L:List Nat}(hL:∀s ∈ L,2<=s/\s<=7)(h4:L.length<=4){M:List (List Nat)}{most:Nat}(hM:∀e ∈ M,G3 L most e){X:List (List Nat)}(hX:X.length<=16){S:Nat->Int}(hS:∀k,k<X.length->Bt 42 (S k)):∀x ∈ bd X S (AQ L M),Bt 58 x.1/\Bt 28 x.2:=fun x hx=>by
 obtain ⟨c,hc,rfl⟩:=CW.mp hx
 have vb:∀k,Bt 12 (Tr.valAt c.1 c.2 (X.getD k [])):=fun k=>by
  obtain ⟨j,hj,e⟩:=List.getElem_of_mem hc;have:=Y0 hL h4 hM X k hj;unfold L9 at this
  rw [show (AQ L M).getD j ([],[])=c by rw [List.getD,A8 hj,e];rfl] at this
  exact this
 exact ⟨bt_sum (p:=12+42) hX fun k hk=>(vb k).mul (hS k hk),bt_sum (p:=12+12) hX fun k hk=>(vb k).mul (vb k)⟩
theorem m7{a b c d:Int}(hb:b≠0)(hd:d≠0):fr ((fr a b).1*(fr c d).2+(fr c d).1*(fr a b).2) ((fr a b).2*(fr c d).2)=fr (a*d+b*c) (b*d):=by
 have c1:=FS (a:=a) hb;have c2:=FS (a:=c) hd;have p1:=FV (a:=a) hb;have p2:=FV (a:=c) hd;refine P1 (DH (by omega) (by omega)) (DH hb hd) ?_;generalize fr a b=x at *
 generalize fr c d=y at *
 calc (x.1*y.2+y.1*x.2)*(b*d)=(x.1*b)*y.2*d+(y.1*d)*x.2*b:=by grind
  _=(a*x.2)*y.2*d+(c*y.2)*x.2*b:=by rw [c1,c2]
  _=_:=by grind
theorem mO {L : List Nat} (hL : ∀ s ∈ L, 2 <= s /\ s <= 7) (h4 : L.length <= 4) {e : List Nat} {most : Nat} (he : G3 L most e) (hm : most <= 6) {X : List (List Nat)} (hX : X.length <= 16) (hX1 : 1 <= X.length) (hx : ∀ x ∈ X, x.length = L.length) {S : Nat -> Int} (hS : ∀ k, k < X.length -> Bt 42 (S k)) (hP : ∀ c ∈ AQ L [e], 0 < dC X c) :
 dN [.list (nl L), .list (X.map tupN),tupN e,CJ X.length S]=some (.val (BL (qF L X S [e]))):=by
 have sl:=EY;have hM:∀e' ∈ [e],G3 L most e':=fun e' h=>by cases B9.mp h;exact he
 have lt:=iU hL hM (by omega) (show [e].length<=7 by simp) h4 (X:=X) (by omega) hx
 let P:=AQ L [e]
 have pl:P.length<=6:=by
  show (AQ L [e]).length<=6;rw [IA];have:=he.2.2;simp [tot];omega
 have cb:=iI hL h4 hM hX hS
 let LV:Option Sl:=some (.val (.list (nl L)))
 let XV:Option Sl:=some (.val (.list (X.map tupN)))
 let EV:Option Sl:=some (.val (tupN e))
 let SV:Option Sl:=some (.val (CJ X.length S))
 let T:List PyData:=X.map fun x=> .list (HA P x)
 refine EI (ρ:= [LV,XV,EV,SV,none,none,none,none]) rfl rfl ?_;unfold b_q8;refine BN (r:= .own T) (BF (ds:= [.list (nl L), .list (X.map tupN), .list [tupN e]]) (BD (a:= .val (.list (nl L))) rfl (BD (a:= .val (.list (X.map tupN))) rfl (BD (as:= []) (RL (a:= .val (tupN e)) rfl) rfl))) lt) ?_;refine BN (r:= .val (BL (0,1))) (OS (a:= .val (.int 0)) (b:= .val (.int 1)) rfl rfl) ?_
 have T0:T[0]? = some (.list (HA P (X.getD 0 []))):=by
  show (X.map _)[0]? = _;rw [AS,A8 (by omega),List.getD,A8 (by omega)];rfl
 have len0:∀(s4:Sl) (z5 z6 z7:Option Sl),s4.dat = .list T->mCallP dLen (mConsP (mBin dix (mPk 4) (mK (.int 0))) mNilP) [LV,XV,EV,SV,some s4,z5,z6,z7]=some (.val (.int (P.length:Nat))):=fun s4 z5 z6 z7 hs=>by
  refine EN (ss:= [.val (.list (HA P (X.getD 0 [])))]) (EE (as:= []) ((AF (op:=dix) (a:=s4) (b:= .val (.int ((0:Nat):Int))) rfl rfl).trans (GR (.inl hs) T0)) rfl) ?_;show some (Sl.val (.int ((HA P (X.getD 0 [])).length:Nat)))=_;unfold HA;rw [QM,List.length_map]
 refine EJ (P:=fun ρ=>∃(s4:Sl) (z6 z7:Option Sl),ρ = [LV,XV,EV,SV,some s4,some (.val (BL (qF L X S [e]))),z6,z7]) ?_ (fun ρ ⟨s4,z6,z7,h⟩=>by rw [h];exact DL rfl rfl);refine NP (n:=P.length) (fun j ρ=>∃(s4:Sl) (z6 z7:Option Sl),ρ = [LV,XV,EV,SV,some s4,some (.val (BL (fr (aN (bd X S (P.take j))) (bN (bd X S (P.take j)))))),z6,z7]/\(s4 = .own T\/s4 = .val (.list T))) (IJ (EE (as:= []) (len0 _ _ _ _ rfl) rfl) (by omega)) ⟨_,none,none,by rw [QG,show bd X S [] = [] from rfl,show fr (aN []) (bN [])=(0,1) from Q6 (show (1:Int)≠0 by decide)];exact ⟨rfl, .inl rfl⟩⟩ ?_ ?_
 . rintro j ρ hj ⟨s4,z6,z7,rfl,hs⟩
   let c:=P.getD j ([],[])
   have hc:c ∈ P:=by
    show P.getD j ([],[]) ∈ P;rw [List.getD,A8 hj];exact JL _
   let x:=fr (aN (bd X S (P.take j))) (bN (bd X S (P.take j)))
   let J6:Option Sl:=some (.val (.int (j:Nat)))
   let TV:Option Sl:=some (.val (.list T))
   let Q5:Option Sl:=some (.val (BL x))
   have rowAt:∀k,k<X.length->T[k]? = some (.list (HA P (X.getD k []))):=fun k hk=>by
    show (X.map _)[k]? = _;rw [AS,A8 hk,List.getD,A8 hk];rfl
   have valAt:∀y,(HA P y)[j]? = some (.int (Tr.valAt c.1 c.2 y)):=fun y=>by
    show (il (P.map fun c=>Tr.valAt c.1 c.2 y))[j]? = _;unfold il;rw [List.getElem?_map,List.getElem?_map,List.getElem?_eq_getElem hj];show some (PyData.int (Tr.valAt P[j].1 P[j].2 y))=some (PyData.int (Tr.valAt (P.getD j ([],[])).1 (P.getD j ([],[])).2 y));rw [List.getD,List.getElem?_eq_getElem hj];rfl
   have vb:∀k,Bt 12 (Tr.valAt c.1 c.2 (X.getD k [])):=fun k=>Y0 hL h4 hM X k hj;have Te:T=(List.range X.length).map fun k=> .list (HA P (X.getD k [])):=IP (fun y=>PyData.list (HA P y)) [] X;have fz:frz1 4 [LV,XV,EV,SV,some s4,Q5,J6,z7] = [LV,XV,EV,SV,TV,Q5,J6,z7]:=by rcases hs with rfl | rfl <;> rfl
   refine ⟨[LV,XV,EV,SV,some s4,Q5,J6,z7],rfl,?_⟩
   let b:=bC X S c
   let d:=dC X c
   refine FE (ρ':= [LV,XV,EV,SV,TV,Q5,J6,some (.val (.int b))]) ?_ ?_
   . rw [KQ,fz];refine EL (ρ:= [LV,XV,EV,SV,TV,Q5,J6,z7]) (EN (ss:= [.own ((List.range X.length).map fun k=> .int (Tr.valAt c.1 c.2 (X.getD k [])*S k))]) (EE (as:= []) (EX (ds:=(List.range X.length).map fun k=> .tuple [.list (HA P (X.getD k [])), .int (S k)]) ?_ (by rw [A4,AE];omega) (CA fun k hk=> ?_)) rfl) OE)
     . unfold TW;rw [BD (a:= .val (.list T)) rfl (BD (a:= .val (CJ X.length S)) rfl (show mNil _=some [] from rfl))];show some (IX T ((List.range X.length).map fun k=> .int (S k)))=_;rw [Te,HY]
     . have hk:=C5.mp hk;refine GH (fg:=gTupD [gVar 1,gVar 2]) (ρ0:= [J6,none,none]) (ρ1:= [J6,some (.val (.list (HA P (X.getD k [])))),some (.val (.int (S k)))]) (r:= .val (.int (Tr.valAt c.1 c.2 (X.getD k [])*S k))) rfl ?_;exact (AF (op:=dRep) ((AF (op:=dix) (a:= .val (.list (HA P (X.getD k [])))) (b:= .val (.int (j:Nat))) rfl rfl).trans (GR (.inl rfl) (valAt _))) rfl).trans (FM (.inr (IC (n:=12) (m:=42) (vb k) (hS k hk) rfl)))
   have bB:Bt 58 b:=(cb (bC X S c,dC X c) (SH hc)).1;have dB:Bt 28 d:=(cb (bC X S c,dC X c) (SH hc)).2;have d0:0<d:=hP c hc
   have hpre:∀y ∈ bd X S (P.take j),Bt 58 y.1/\Bt 28 y.2:=fun y hy=>cb y (by
    obtain ⟨c',hc',rfl⟩:=CW.mp hy;exact SH (E9 hc'))
   have lpre:(bd X S (P.take j)).length<=6:=by
    unfold bd;rw [List.length_map,List.length_take];omega
   have B0:0<bN (bd X S (P.take j)):=MQ fun c' hc'=>hP c' (E9 hc');obtain ⟨BB,AB⟩:=YF hpre
   have e1:P.take (j+1)=P.take j ++ [c]:=by
    show _=P.take j ++ [P.getD j ([],[])];rw [CN,A8 hj,List.getD,A8 hj];rfl
   have fin:fr (x.1*(fr (b*b) d).2+(fr (b*b) d).1*x.2) (x.2*(fr (b*b) d).2)=fr (aN (bd X S (P.take (j+1)))) (bN (bd X S (P.take (j+1)))):=by
    rw [e1,UZ,show bd X S [c] = [(b,d)] from rfl,R5,O9];rw [m7 (show bN (bd X S (P.take j))≠0 by omega) (show d≠0 by omega)];show _=fr (aN (bd X S (P.take j))*(d*1)+bN (bd X S (P.take j))*(b*b*1+d*0)) (bN (bd X S (P.take j))*(d*1));rw [GG,GG,CL,VG]
   refine ED (ED ?_);show Wp _ [LV,XV,EV,SV,TV,Q5,J6,some (.val (.int b))] _
   have hd:mCallP dSum (mConsP (mLC (D3 [some 6,none]) (D5 (mVar 4)) (gVar 1) mYes (mBin dRep (mBin dix (mPk 1) (mPk 0)) (mBin dix (mPk 1) (mPk 0)))) mNilP) [LV,XV,EV,SV,TV,Q5,J6,some (.val (.int b))]=some (.val (.int d)):=by
    refine EN (ss:= [.own ((List.range X.length).map fun k=> .int (Tr.valAt c.1 c.2 (X.getD k [])*Tr.valAt c.1 c.2 (X.getD k [])))]) (EE (as:= []) (EX (ds:=(List.range X.length).map fun k=> .list (HA P (X.getD k []))) ?_ (by rw [A4,AE];omega) (CA fun k hk=> ?_)) rfl) OE
    . show some T=_;rw [Te]
    . refine GH (fg:=gVar 1) (ρ0:= [J6,none]) (ρ1:= [J6,some (.val (.list (HA P (X.getD k []))))]) (r:= .val (.int (Tr.valAt c.1 c.2 (X.getD k [])*Tr.valAt c.1 c.2 (X.getD k [])))) rfl ?_;have g:mBin dix (mPk 1) (mPk 0) [J6,some (.val (.list (HA P (X.getD k []))))]=some (.val (.int (Tr.valAt c.1 c.2 (X.getD k [])))):=(AF (op:=dix) (a:= .val (.list (HA P (X.getD k [])))) (b:= .val (.int (j:Nat))) rfl rfl).trans (GR (.inl rfl) (valAt _));exact (AF (op:=dRep) g g).trans (FM (.inr (IC (n:=12) (m:=12) (vb k) (vb k) rfl)))
   have hf:mCall OW (mCons (mBin dRep (mPk 7) (mPk 7)) (mCons (mCallP dSum (mConsP (mLC (D3 [some 6,none]) (D5 (mVar 4)) (gVar 1) mYes (mBin dRep (mBin dix (mPk 1) (mPk 0)) (mBin dix (mPk 1) (mPk 0)))) mNilP)) mNil)) [LV,XV,EV,SV,TV,Q5,J6,some (.val (.int b))]=some (.val (BL (fr (b*b) d))):=BF (ds:= [.int (b*b), .int d]) (BD (a:= .val (.int (b*b))) ((AF (op:=dRep) (a:= .val (.int b)) (b:= .val (.int b)) rfl rfl).trans (FM (.inr (IC (n:=58) (m:=58) bB bB rfl)))) (BD (as:= []) hd rfl)) (SS d0 (dB.mono (by decide)));refine FK (BF (ds:= [BL x,BL (fr (b*b) d)]) (BD (a:= .val (BL x)) rfl (BD (as:= []) hf rfl)) (T9 (FV (by omega)) (FV (by omega)) (AB.fdiv.mono (by omega)) ((bB.mul bB).fdiv.mono (by decide)) (BB.fdiv.mono (by omega)) (dB.fdiv.mono (by decide)))) ⟨.val (.list T),J6,some (.val (.int b)),?_, .inr rfl⟩;show [LV,XV,EV,SV,TV,some (Sl.val (BL (fr (x.1*(fr (b*b) d).2+(fr (b*b) d).1*x.2) (x.2*(fr (b*b) d).2)))),J6,some (.val (.int b))]=_;rw [fin]
 . rintro ρ ⟨s4,z6,z7,rfl,_⟩;rw [HV];exact ⟨s4,z6,z7,rfl⟩
theorem A24(M:List (List Nat))(j:Nat):L4 (M.map tupN) (some (j:Int)) none=(M.drop j).map tupN:=by
 unfold L4;rw [HT.sIx_none,HT.sIx_nat,List.length_map, <-List.map_drop,List.take_of_length_le (by rw [List.length_map,List.length_drop];omega)]
 by_cases h:j<=M.length
 . rw [cI h]
 . rw [XN (by omega),sM (AA _),sM (by omega)]
theorem cM(c:Int){M:List (List Nat)}(hl:M.length<=7):∃r,U0 [.int c, .list (M.map tupN)]=some r/\∃M':List (List Nat),r = .own (M'.map tupN)/\M'.Perm M:=by
 have sl:=EY
 let C0:Option Sl:=some (.val (.int c))
 let MV:Option Sl:=some (.val (.list (M.map tupN)))
 refine pG (ρ:= [C0,MV,none,none,none]) rfl rfl ?_;unfold b_q13;refine BN (r:= .own (M.map tupN)) rfl (BN (r:= .own []) II ?_)
 let μ:En->Nat:=fun ρ=>match ((ρ[2]?).join:Option Sl) with
  | some (Sl.own ds)=>ds.length
  | _=>0
 refine EJ (P:=fun ρ=>∃(B:List (List Nat)) (z2 z4:Option Sl),ρ = [C0,MV,z2,some (.own (B.map tupN)),z4]/\B.Perm M) ?_ (fun ρ ⟨B,z2,z4,h,hp⟩=>by rw [h];exact DL rfl ⟨B,rfl,hp⟩);refine kF (fun ρ=>∃(A B:List (List Nat)) (z4:Option Sl),ρ = [C0,MV,some (.own (A.map tupN)),some (.own (B.map tupN)),z4]/\(B++A).Perm M) μ ⟨M,[],none,rfl,List.Perm.refl _⟩ ?_;rintro ρ ⟨A,B,z4,rfl,hp⟩
 have hlen:A.length+B.length<=7:=by
  have:=hp.length_eq;rw [AT] at this
  omega
 have le:∀(z3 z4:Option Sl),mCallP dLen (mConsP (mPk 2) mNilP) [C0,MV,some (.own (A.map tupN)),z3,z4]=some (.val (.int (A.length:Nat))):=fun z3 z4=>by
  refine EN (ss:= [.own (A.map tupN)]) rfl ?_;show some (Sl.val (.int ((A.map tupN).length:Nat)))=_;rw [A4]
 have tg:mTest (mBin dGt (mCallP dLen (mConsP (mPk 2) mNilP)) (mK (.int 0))) [C0,MV,some (.own (A.map tupN)),some (.own (B.map tupN)),z4]=some (decide ((0:Int)<(A.length:Nat))):=KB ((AF (op:=dGt) (le _ _) rfl).trans rfl)
 by_cases h0:A.length=0
 . refine .inl ⟨tg.trans (by rw [CC (by omega)]),B,_,_,rfl,?_⟩;rw [qT.mp h0,DV] at hp
   exact hp
 . refine .inr ⟨tg.trans (by rw [ET (by omega)]),?_⟩;obtain ⟨v,em,_⟩:=T2 c (k:=310+(A.length:Nat)) (by omega) (by omega)
   let AV:Option Sl:=some (.own (A.map tupN))
   obtain ⟨a,ea,ha⟩:=lH (fa:=mCall J9 (mCons (mVar 0) (mCons (mBin dAdd (mK (.int 310)) (mCallP dLen (mConsP (mPk 2) mNilP))) mNil))) (fb:=mCallP dLen (mConsP (mPk 2) mNilP)) (ρ:= [C0,MV,AV,some (.own (B.map tupN)),z4]) (i:=v) (m:=(A.length:Nat)) (BF (ds:= [.int c, .int (310+(A.length:Nat))]) (BD (a:= .val (.int c)) rfl (BD (as:= []) ((AF (op:=dAdd) (a:= .val (.int 310)) rfl (le _ _)).trans rfl) rfl)) em) (le _ _) (by omega);have haA:a<A.length:=by omega
   refine BN ea ?_;have ga:A[a]? = some A[a]:=A8 haA;refine FE (ρ':= [C0,MV,AV,some (.own ((B ++ [A[a]]).map tupN)),some (.val (.int (a:Nat)))]) ((K1 (ρ:= [C0,MV,AV,some (.own (B.map tupN)),some (.val (.int (a:Nat)))]) (r:= .val (tupN A[a])) (ds:=B.map tupN) ((AF (op:=dix) (a:= .own (A.map tupN)) (b:= .val (.int (a:Nat))) rfl rfl).trans (GR (.inl rfl) (by rw [AS,ga];rfl))) rfl (by rw [A4];omega)).trans (by rw [BJ];rfl)) ?_
   have e1:mSl (mPk 2) mNoPart (mPart (mPk 4)) [C0,MV,AV,some (.own ((B ++ [A[a]]).map tupN)),some (.val (.int (a:Nat)))]=some (.own ((A.take a).map tupN)):=by
    rw [<-zP];rfl
   have e2:mSl (mPk 2) (mPart (mBin dAdd (mPk 4) (mK (.int 1)))) mNoPart [C0,MV,AV,some (.own ((B ++ [A[a]]).map tupN)),some (.val (.int (a:Nat)))]=some (.own ((A.drop (a+1)).map tupN)):=by
    rw [<-A24];rfl
   have lt:(A.take a).length+(A.drop (a+1)).length<A.length:=by
    rw [CV,JJ];omega
   refine FK (r:= .own ((A.take a++A.drop (a+1)).map tupN)) ((AF (op:=dAdd) e1 e2).trans ((I0 rfl rfl (by rw [A4,A4];omega)).trans (by rw [BJ]))) ⟨⟨A.take a++A.drop (a+1),B ++ [A[a]],_,rfl,?_⟩,?_⟩
   . refine List.Perm.trans ?_ hp;rw [M7];refine List.Perm.append_left B ?_;have:A=A.take a++A[a]::A.drop (a+1):=by rw [<-EZ haA,GU]
     conv=>rhs;rw [this]
     show (A[a]::(A.take a++A.drop (a+1))).Perm _;exact List.perm_middle.symm
   . show ((A.take a++A.drop (a+1)).map tupN).length<(A.map tupN).length;rw [A4,A4,AT];exact lt
theorem o6(e:List Nat):tupN e=tIk (e.map fun n:Nat=>(n:Int)):=by
 unfold tupN tIk nl;rw [List.map_map];rfl
theorem A13{e e':List Nat}(h:(e.map fun n:Nat=>(n:Int))=e'.map fun n:Nat=>(n:Int)):e=e':=by
 induction e generalizing e' with
 | nil=>cases e' with | nil=>rfl | cons y b=>cases h
 | cons x a ih=>
  cases e' with
  | nil=>cases h
  | cons y b=>
   rw [CT,CT] at h
   obtain ⟨h1,h2⟩:=lT h;rw [ih h2,Int.ofNat.inj h1]
def kv(f:List Nat->PyData)(M:List (List Nat)):List (PyData×PyData):=M.map fun e=>(tupN e,f e)
theorem Q0(f:List Nat->PyData)(e:List Nat):∀M:List (List Nat),LF (kv f M) (e.map fun n:Nat=>(n:Int))=if e ∈ M then some (f e) else none
 | []=>by rw [AR (by simp)];rfl
 | x::M=>by
  show (if O6 (tupN x)=some _ then some (f x) else LF (kv f M) _)=_;rw [o6 x,L6,Q0 f e M]
  by_cases h:x=e
  . subst h;rw [AN rfl,AN (by simp)]
  . rw [AR fun z=>h (A13 (AY z))]
    by_cases h2:e ∈ M
    . rw [AN h2,AN (BV _ h2)]
    . rw [AR h2,AR fun z=>(B8.mp z).elim (fun y=>h y.symm) h2]
theorem dM{W a b a' b':Int}(hb:b≠0)(hb':b'≠0):fr ((fr (W*b - a) b).1*(fr a' b').2+(0 - (fr a' b').1)*(fr (W*b - a) b).2) ((fr (W*b - a) b).2*(fr a' b').2)=fr (W*(b*b') - (a*b'+b*a')) (b*b'):=by
 have c1:=FS (a:=W*b - a) hb;have c2:=FS (a:=a') hb';have p1:=FV (a:=W*b - a) hb;have p2:=FV (a:=a') hb';refine P1 (DH (by omega) (by omega)) (DH hb hb') ?_;generalize fr (W*b - a) b=x at *
 generalize fr a' b'=y at *
 calc (x.1*y.2+(0 - y.1)*x.2)*(b*b')=(x.1*b)*y.2*b' - (y.1*b')*x.2*b:=by grind
  _=((W*b - a)*x.2)*y.2*b' - (a'*y.2)*x.2*b:=by rw [c1,c2]
  _=_:=by grind
theorem eD{W a b:Int}(hb:b≠0):UI W (fr a b)=fr (W*b - a) b:=by
 unfold UI;have c1:=FS (a:=a) hb;have p1:=FV (a:=a) hb;refine P1 (by omega) hb ?_;generalize fr a b=x at *
 calc (W*x.2 - x.1*1)*b=W*x.2*b - x.1*b:=by grind
  _=W*x.2*b - a*x.2:=by rw [c1]
  _=_:=by grind
theorem u5{L:List Nat}{X:List (List Nat)}{S:Nat->Int}{M:List (List Nat)}(hp:∀c ∈ AQ L M,0<dC X c):sqD M (fun s=>qF L X S (M.take s)) M.length=M.map fun e=> .tuple [tupN e,BL (qF L X S [e])]:=by
 unfold sqD;rw [IP (fun e=>PyData.tuple [tupN e,BL (qF L X S [e])]) [] M];refine List.map_congr_left fun s hs=> ?_;have hs:=List.mem_range.mp hs
 have e1:M.take (s+1)=M.take s ++ [M.getD s []]:=by
  rw [CN,A8 hs,List.getD,A8 hs];rfl
 have:=sS (L:=L) (X:=X) (S:=S) (M:=M.take s) (e:=M.getD s []) fun c hc=>hp c (by
  rw [<-e1,LS] at hc
  exact E9 hc)
 unfold subF;show PyData.tuple [_,BL (fr ((qF L X S (M.take (s+1))).1*(qF L X S (M.take s)).2 - (qF L X S (M.take s)).1*(qF L X S (M.take (s+1))).2) ((qF L X S (M.take (s+1))).2*(qF L X S (M.take s)).2))]=_;rw [e1,this]
theorem kB{xs:List PyData}(h:∀d ∈ xs,d.canLay0=true):PyData.canLayAll0 xs=true:=aL h
theorem oK{i:Nat}{g:En->Option Out}{ρ ρ':En}{Z:Out->Prop}(h:b7 i ρ=some ρ')(k:Wp g ρ' Z):Wp (XC i g) ρ Z:=by
 obtain ⟨o,h1,h2⟩:=k;exact ⟨o,by unfold XC;rw [h,Option.bind_some];exact h1,h2⟩
theorem eB(c:Int):VM [.int c]=some (.val (.bool true)):=by
 have sl:=EY;obtain ⟨L,eL,hL,h4,hpr⟩:=t7 c (most:=12) (by decide);have hpr:Tr.prodN L<=12:=by omega
 obtain ⟨M,eM,hM,hnd,hM7,htot,hM1⟩:=lY (c.fdiv 4) hL h4 (most:=6) (by decide) (by decide);obtain ⟨s3,eX,hs3,hd3⟩:=gG hL h4 (by omega)
 let X:=Tr.allT L
 have hX:X.length<=16:=by show (Tr.allT L).length<=16;rw [QI];omega
 have hX1:1<=X.length:=by
  show 1<=(Tr.allT L).length;rw [QI];have:=OT (l:=L) (fun c hc=>by have:=hL c hc;omega) 0;simpa [Tr.prodN] using this
 have hx:∀x ∈ X,x.length=L.length:=fun x hx=>Tr.allT_mem hx;obtain ⟨r,eR,hr,hrb⟩:=W1 (c.fdiv 3) (n:=X.length) (by omega)
 let S:Nat->Int:=fun k=>r.getD k 0
 have hS:∀k,k<X.length->Bt 42 (S k):=fun k hk=>hrb _ (by
  show r.getD k 0 ∈ r;rw [List.getD,A8 (by omega)];exact JL _)
 have eS:PyData.list (il r)=CJ X.length S:=by
  show PyData.list (r.map PyData.int)=PyData.list _;rw [IP PyData.int 0 r,hr]
 have eSl:il r=(List.range X.length).map fun k=> .int (S k):=by
  have:=eS;unfold CJ at this
  exact PyData.list.inj this
 let W:Int:=Ba.sumN X.length fun k=>S k*S k
 have Wb:Bt 88 W:=bt_sum (p:=42+42) hX fun k hk=>(hS k hk).mul (hS k hk)
 have hs3':s3 = .own (X.map tupN)\/s3 = .val (.list (X.map tupN)):=by
  cases s3 with
  | val d=>cases hs3;exact .inr rfl
  | own d=>cases hs3;exact .inl rfl
  | dct d=>exact absurd rfl (hd3 d)
 have hP:=QR hL hM
 let due:List Nat->PyData:=fun e=>BL (qF L X S [e])
 let lf:Nat->Int×Int:=fun i=>fr (W*bN (bd X S (AQ L (M.take i))) - aN (bd X S (AQ L (M.take i)))) (bN (bd X S (AQ L (M.take i))))
 let C0:Option Sl:=some (.val (.int c))
 let L1:Option Sl:=some (.val (.list (nl L)))
 let M2:Option Sl:=some (.own (M.map tupN))
 let V2:Option Sl:=some (.val (.list (M.map tupN)))
 let X3:Option Sl:=some (.val (.list (X.map tupN)))
 let S4:Option Sl:=some (.own (il r))
 let V4:Option Sl:=some (.val (CJ X.length S))
 let Z (z:Option Sl):Prop:=z=none\/∃d,z=some (.val d)
 refine EI (ρ:= [C0,none,none,none,none,none,none,none,none]) rfl rfl ?_;unfold b_q16;refine BN (r:= .own (nl L)) (BF (ds:= [.int c, .int 12]) rfl eL) ?_;refine FE (ρ':= [C0,L1,M2,none,none,none,none,none,none]) (f:=mFrz 1 _) (EL (ρ:= [C0,L1,none,none,none,none,none,none,none]) (BF (ds:= [.int (c.fdiv 4), .list (nl L), .int 6]) (BD (a:= .val (.int (c.fdiv 4))) (gD (i:=c) rfl (by decide) (by decide)) rfl) eM)) ?_;refine FE (ρ':= [C0,L1,M2,some s3,none,none,none,none,none]) (f:=mFrz 1 _) (EL (ρ:= [C0,L1,M2,none,none,none,none,none,none]) (BF (ds:= [.list (nl L)]) rfl eX)) ?_
 have el:mCallP dLen (mConsP (mPk 3) mNilP) [C0,L1,M2,some s3,none,none,none,none,none]=some (.val (.int (X.length:Nat))):=by
  refine EN (ss:= [s3]) rfl ?_;unfold dLen;simp only [hs3,List.length_map];rfl
 refine BN (r:= .own (il r)) (BF (ds:= [.int (c.fdiv 3), .int (X.length:Nat)]) (BD (a:= .val (.int (c.fdiv 3))) (gD (i:=c) rfl (by decide) (by decide)) (BD (as:= []) el rfl)) eR) ?_;refine FE (ρ':= [C0,L1,M2,some s3,V4,some (.val (BL (W,1))),none,none,none]) (f:=mFrz 4 _) ?_ ?_
 . rw [KQ];show mAsg 5 _ [C0,L1,M2,some s3,some (.val (.list (il r))),none,none,none,none]=_;rw [eS];refine EL (ρ:= [C0,L1,M2,some s3,V4,none,none,none,none]) (OS (a:= .val (.int W)) (b:= .val (.int 1)) (EN (ss:= [.own ((List.range X.length).map fun k=> .int (S k*S k))]) (EE (as:= []) (EX (ds:=(List.range X.length).map fun k=> .int (S k)) rfl (by rw [A4,AE];omega) (CA fun k hk=> ?_)) rfl) OE) rfl);have hk:=C5.mp hk;exact GH (fg:=gVar 0) (ρ0:= [none]) (ρ1:= [some (.val (.int (S k)))]) (r:= .val (.int (S k*S k))) rfl ((AF (op:=dRep) (a:= .val (.int (S k))) (b:= .val (.int (S k))) rfl rfl).trans (FM (.inr (IC (n:=42) (m:=42) (hS k hk) (hS k hk) rfl))))
 refine BN (r:= .dct []) rfl ?_
 have B0:∀i,0<bN (bd X S (AQ L (M.take i))):=fun i=>MQ fun c' hc'=>hP c' (by
  rw [LS] at hc'
  exact E9 hc')
 refine EJ (P:=fun ρ=>∃(s3:Sl) (z7:Option Sl),ρ = [C0,L1,V2,some s3,V4,some (.val (BL (lf M.length))),some (.dct (kv due M)),z7,none]/\(s3 = .own (X.map tupN)\/s3 = .val (.list (X.map tupN)))/\Z z7) ?_ ?_
 . refine ED ?_;show Wp _ [C0,L1,V2,some s3,V4,some (.val (BL (W,1))),some (.dct []),none,none] _;refine FD (en:=tupN) (xs:=M) (fun i ρ=>∃(s3:Sl) (z7:Option Sl),ρ = [C0,L1,V2,some s3,V4,some (.val (BL (lf i))),some (.dct (kv due (M.take i))),z7,none]/\(s3 = .own (X.map tupN)\/s3 = .val (.list (X.map tupN)))/\Z z7) rfl ⟨s3,none,?_,hs3', .inl rfl⟩ ?_ (fun ρ h=>by rw [HV] at h;exact h)
   . have : lf 0 = (W, 1) := by
      show fr (W*1 - 0) 1=(W,1);rw [GG,Int.sub_zero,gQ]
     rw [this];rfl
   . rintro i e ρ hi ⟨s3,z7,rfl,h3,_⟩;have he:=AJ hi;have hil:i<M.length:=(B6.mp hi).1;have eT:M.take (i+1)=M.take i ++ [e]:=by rw [CN,hi];rfl
     have hni:e ∉ M.take i:=fun z=>by
      have:=hnd.sublist (A27 (i+1) M);rw [eT] at this
      exact (A34.mp this).2.2 e z e (by simp) rfl
     have hPe:∀c ∈ AQ L [e],0<dC X c:=QR hL (most:=6) fun e' h=>by cases B9.mp h;exact hM e he
     have rd:=mO hL h4 (hM e he) (by decide) hX hX1 hx hS hPe
     let Q5:Option Sl:=some (.val (BL (lf i)))
     let E7:Option Sl:=some (.val (tupN e))
     refine ⟨[C0,L1,V2,some s3,V4,Q5,some (.dct (kv due (M.take i))),E7,none],rfl,?_⟩;have fz:frz1 3 [C0,L1,V2,some s3,V4,Q5,some (.dct (kv due (M.take i))),E7,none] = [C0,L1,V2,X3,V4,Q5,some (.dct (kv due (M.take i))),E7,none]:=by rcases h3 with rfl | rfl <;> rfl
     have kn:O6 (tupN e)=some (e.map fun n:Nat=>(n:Int)):=by rw [o6,L6]
     have hput:XB 6 (mPk 7) (mCall dN (mCons (mVar 1) (mCons (mVar 3) (mCons (mVar 7) (mCons (mVar 4) mNil))))) [C0,L1,V2,X3,V4,Q5,some (.dct (kv due (M.take i))),E7,none]=some (.nx [C0,L1,V2,X3,V4,Q5,some (.dct (kv due (M.take (i+1)))),E7,none]):=by
      unfold XB;rw [BF (ds:= [.list (nl L), .list (X.map tupN),tupN e,CJ X.length S]) rfl rd,Option.bind_some];show (O6 (tupN e)).bind _=_;rw [kn,Option.bind_some,if_pos ⟨⟨by unfold kv;rw [List.length_map,List.length_take];omega,by rw [Q0,if_neg hni]⟩,rfl⟩,eT, <-o6];show some (Out.nx [C0,L1,V2,X3,V4,Q5,some (.dct (kv due (M.take i) ++ [(tupN e,due e)])),E7,none])=_;unfold kv;rw [List.map_append];rfl
     refine FE (ρ':= [C0,L1,V2,X3,V4,Q5,some (.dct (kv due (M.take (i+1)))),E7,none]) (f:=mFrz 4 _) ?_ ?_
     . rw [KQ];show mFrz 3 _ [C0,L1,V2,some s3,V4,Q5,some (.dct (kv due (M.take i))),E7,none]=_;rw [KQ,fz];exact hput
     refine ED ?_;show Wp _ [C0,L1,V2,X3,V4,Q5,some (.dct (kv due (M.take (i+1)))),E7,none] _
     have hg:mBin KR (mPk 6) (mPk 7) [C0,L1,V2,X3,V4,Q5,some (.dct (kv due (M.take (i+1)))),E7,none]=some (.val (due e)):=by
      refine (AF (op:=KR) (a:= .dct (kv due (M.take (i+1)))) (b:= .val (tupN e)) rfl rfl).trans ?_;show (O6 (tupN e)).bind _=_;rw [kn,BQ,Q0,AN (by rw [eT];simp)];rfl
     let y:=qF L X S [e]
     have g0:mBin dSub (mK (.int 0)) (mBin dix (mBin KR (mPk 6) (mPk 7)) (mK (.int 0))) [C0,L1,V2,X3,V4,Q5,some (.dct (kv due (M.take (i+1)))),E7,none]=some (.val (.int (0 - y.1))):=(AF (op:=dSub) (a:= .val (.int 0)) rfl ((AF (op:=dix) (b:= .val (.int 0)) hg rfl).trans (R7 y))).trans rfl;have g1:mBin dix (mBin KR (mPk 6) (mPk 7)) (mK (.int 1)) [C0,L1,V2,X3,V4,Q5,some (.dct (kv due (M.take (i+1)))),E7,none]=some (.val (.int y.2)):=(AF (op:=dix) (b:= .val (.int 1)) hg rfl).trans (MT y);have bP:=B0 i;have bE:0<bN (bd X S (AQ L [e])):=MQ hPe;have cbt:=fun (N:List (List Nat)) (hN:∀e ∈ N,G3 L 6 e)=>YF (iI hL h4 hN hX hS);have len6:∀N:List (List Nat),tot L N<=6->(bd X S (AQ L N)).length<=6:=fun N h=>by unfold bd;rw [List.length_map,IA];exact h
     have l1:=len6 (M.take i) (by rw [<-IA];exact BG (U4 i) htot);have l2:=len6 [e] (by have:=(hM e he).2.2;simp [tot];omega);obtain ⟨x1,x2⟩:=cbt (M.take i) fun e' h=>hM e' (E9 h);obtain ⟨y1,y2⟩:=cbt [e] fun e' h=>by cases B9.mp h;exact hM e he
     have xl:Bt 400 (W*bN (bd X S (AQ L (M.take i))) - aN (bd X S (AQ L (M.take i)))):=(Bt.sub (Wb.mul x1) x2).mono (by omega)
     have fin:fr ((lf i).1*y.2+(0 - y.1)*(lf i).2) ((lf i).2*y.2)=lf (i+1):=by
      show fr ((fr (W*bN (bd X S (AQ L (M.take i))) - aN (bd X S (AQ L (M.take i)))) (bN (bd X S (AQ L (M.take i))))).1*(fr (aN (bd X S (AQ L [e]))) (bN (bd X S (AQ L [e])))).2+(0 - (fr (aN (bd X S (AQ L [e]))) (bN (bd X S (AQ L [e])))).1)*(fr (W*bN (bd X S (AQ L (M.take i))) - aN (bd X S (AQ L (M.take i)))) (bN (bd X S (AQ L (M.take i))))).2) _=fr (W*bN (bd X S (AQ L (M.take (i+1)))) - aN (bd X S (AQ L (M.take (i+1))))) (bN (bd X S (AQ L (M.take (i+1)))));rw [eT,KS,UZ,R5,O9];exact dM (by omega) (by omega)
     refine FK (BF (ds:= [BL (lf i),BL (0 - y.1,y.2)]) (BD (a:= .val (BL (lf i))) rfl (BD (as:= []) (OS g0 g1) rfl)) (T9 (a:=lf i) (b:=(0 - y.1,y.2)) (FV (by omega)) (show 0<y.2 from FV (by omega)) (xl.fdiv.mono (by decide)) ((Bt.sub (Bt.zero 1) (show Bt _ y.1 from y2.fdiv)).mono (by omega)) (x1.fdiv.mono (by omega)) (show Bt 4000 y.2 from y1.fdiv.mono (by omega)))) ⟨.val (.list (X.map tupN)),E7,?_, .inr rfl, .inr ⟨_,rfl⟩⟩;show [C0,L1,V2,X3,V4,some (Sl.val (BL (fr ((lf i).1*y.2+(0 - y.1)*(lf i).2) ((lf i).2*y.2)))),some (.dct (kv due (M.take (i+1)))),E7,none]=_;rw [fin]
 . rintro ρ ⟨s3,z7,rfl,h3,hz⟩;obtain ⟨r',eO,M',rfl,hperm⟩:=cM c hM7
   let Q5:Option Sl:=some (.val (BL (lf M.length)))
   let D6:Option Sl:=some (.val (.dict (kv due M)))
   refine EJ (P:=fun _=>True) ?_ (fun ρ _=> ?_)
   . refine ED ?_;show Wp _ [C0,L1,V2,some s3,V4,Q5,some (.dct (kv due M)),z7,none] _
     have fd:b7 6 [C0,L1,V2,some s3,V4,Q5,some (.dct (kv due M)),z7,none]=some [C0,L1,V2,some s3,V4,Q5,D6,z7,none]:=by
      rcases h3 with rfl | rfl <;> rcases hz with rfl | ⟨d,rfl⟩ <;> rfl
     refine oK fd ?_;refine FD (en:=fun N:List (List Nat)=>PyData.list (N.map tupN)) (xs:= [M,M']) (fun _ ρ=>∃(s3:Sl) (z8:Option Sl),ρ = [C0,L1,V2,some s3,V4,Q5,D6,z7,z8]/\(s3 = .own (X.map tupN)\/s3 = .val (.list (X.map tupN)))) ?_ ⟨s3,none,rfl,h3⟩ ?_ (fun _ _=>DJ)
     . have : mLst (mCons (mVar 2) (mCons (mCall U0 (mCons (mVar 0) (mCons (mVar 2) mNil))) mNil)) [C0, L1, V2, some s3, V4, Q5, D6, z7, none] = some (.own [.list (M.map tupN), .list (M'.map tupN)]) := by
        unfold mLst;rw [BD (a:= .val (.list (M.map tupN))) rfl (BD (as:= []) (BF (ds:= [.int c, .list (M.map tupN)]) rfl eO) rfl)];exact if_pos (e:=none) (show 2<=sizeLine by decide)
       unfold D5;rw [this];rfl
     rintro j N ρ hj ⟨s3,z8,rfl,h3⟩
     have hN:N.Perm M:=by
      have:=AJ hj;simp only [B8,BK,EM] at this
      rcases this with rfl | rfl
      . exact List.Perm.refl _
      . exact hperm
     have hNe:∀e ∈ N,G3 L 6 e:=fun e he=>hM e (hN.mem_iff.mp he);have hNd:N.Nodup:=hN.nodup_iff.mpr hnd;have cp:(AQ L N).Perm (AQ L M):=hN.flatMap_right _;have htN:tot L N<=6:=by rw [<-IA,cp.length_eq,IA];exact htot
     have hNl:N.length<=7:=by rw [hN.length_eq];exact hM7
     have hPN:∀c ∈ AQ L N,0<dC X c:=QR hL hNe;have sq:=tT hL h4 hNe htN hX hX1 hS (fun i hi j hj hij=>dR hL hNe hNd hi hj hij) hPN;have rs:=X5 hL hNe (by decide) hNl h4 hX hx hS sq;rw [u5 hPN,HV] at rs
     have ab:=iP (show (bd X S (AQ L N)).Perm (bd X S (AQ L M)) from cp.map _)
     have el:UI W (qF L X S N)=lf M.length:=by
      show UI W (fr (aN (bd X S (AQ L N))) (bN (bd X S (AQ L N))))=fr (W*bN (bd X S (AQ L (M.take M.length))) - aN (bd X S (AQ L (M.take M.length)))) (bN (bd X S (AQ L (M.take M.length))));rw [HV,ab.1,ab.2];exact eD (show bN (bd X S (AQ L M))≠0 from Int.ne_of_gt (MQ hP))
     let N8:Option Sl:=some (.val (.list (N.map tupN)))
     refine ⟨[C0,L1,V2,some s3,V4,Q5,D6,z7,N8],rfl,ED (ED ?_)⟩;have fz:frz1 3 [C0,L1,V2,some s3,V4,Q5,D6,z7,N8] = [C0,L1,V2,X3,V4,Q5,D6,z7,N8]:=by rcases h3 with rfl | rfl <;> rfl
     show Wp _ (frz1 3 [C0,L1,V2,some s3,V4,Q5,D6,z7,N8]) _;rw [fz];refine ED (ED ?_);show Wp _ [C0,L1,V2,X3,V4,Q5,D6,z7,N8] _
     let A:List PyData:=(N.map fun e=> .tuple [tupN e,BL (qF L X S [e])]) ++ [.tuple [.str "left",BL (lf M.length)]]
     have rs':mCall T7 (mCons (mVar 1) (mCons (mVar 3) (mCons (mVar 8) (mCons (mVar 4) mNil)))) [C0,L1,V2,X3,V4,Q5,D6,z7,N8]=some (.own A):=by
      refine BF (ds:= [.list (nl L), .list (X.map tupN), .list (N.map tupN),CJ X.length S]) rfl (rs.trans ?_);show some (Sl.own (_ ++ [.tuple [.str "left",BL (UI W (qF L X S N))]]))=_;rw [el]
     have rr:mBin dAdd (mLC (D3 [some 6,none]) (D5 (mVar 8)) (gVar 1) mYes (mTup (mCons (mVar 1) (mCons (mBin KR (mPk 0) (mPk 1)) mNil)))) (mLst (mCons (mTup (mCons (mK (.str "left")) (mCons (mVar 5) mNil))) mNil)) [C0,L1,V2,X3,V4,Q5,D6,z7,N8]=some (.own A):=by
      refine (AF (op:=dAdd) (EX (ds:=N.map tupN) (es:=N.map fun e=> .tuple [tupN e,BL (qF L X S [e])]) rfl (by rw [A4];omega) (CA fun e he=> ?_)) (RL (OS (a:= .val (.str "left")) (b:= .val (BL (lf M.length))) rfl rfl))).trans (I0 rfl rfl ?_)
      . refine GH (fg:=gVar 1) (ρ0:= [D6,none]) (ρ1:= [D6,some (.val (tupN e))]) (r:= .val (.tuple [tupN e,due e])) rfl (OS (a:= .val (tupN e)) (b:= .val (due e)) rfl ((AF (op:=KR) (a:= .val (.dict (kv due M))) (b:= .val (tupN e)) rfl rfl).trans ?_));show (O6 (tupN e)).bind _=_;rw [o6,L6,BQ,Q0,AN (hN.mem_iff.mp he)];rfl
      . rw [A4];show _+1<=_;omega
     have lay2:∀(p:PyData) (q:Int×Int),p.canLay0=true->(PyData.tuple [p,BL q]).canLay0=true:=fun p q h=>kB fun d hd=>by
      rcases B8.mp hd with rfl | hd
      . exact h
      . cases B9.mp hd;rfl
     have dep2:∀(p:PyData) (q:Int×Int),p.depth<=3->(PyData.tuple [p,BL q]).depth<=5:=fun p q h=>by
      have:=yA q;simp only [PyData.depth,PyData.depthAll] at this ⊢
      omega
     have layA:(PyData.list A).canLay0=true:=kB fun d hd=>by
      rcases DU.mp hd with hd | hd
      . obtain ⟨e,_,rfl⟩:=CW.mp hd;exact lay2 _ _ (UN e)
      . cases B9.mp hd
        exact lay2 _ _ (by decide +kernel)
     have depA:(PyData.list A).depth<=60:=by
      have:PyData.depthAll A<=5:=ZR fun d hd=>by
       rcases DU.mp hd with hd | hd
       . obtain ⟨e,_,rfl⟩:=CW.mp hd;exact dep2 _ _ (aH e)
       . cases B9.mp hd
         exact dep2 _ _ (by simp [PyData.depth])
      simp only [PyData.depth];omega
     exact YH (qO (a:= .own A) (b:= .own A) rs' rr rfl layA depA) (HM ⟨.val (.list (X.map tupN)),N8,rfl, .inr rfl⟩)
   . exact DL (r:= .val (.bool true)) rfl rfl
theorem iG(ns:List Int)(hns:ns.length<=63):rT [.list (ns.map .int)]=some (.val (.bool true)):=by
 have sl:=EY
 let S:Option Sl:=some (.val (.list (ns.map .int)))
 refine EI (ρ:= [S,none]) rfl rfl ?_;unfold b_law
 have c1:mSl (mPk 0) mNoPart (mPart (mK (.int 2))) [S,none]=some (.own (il (ns.take 2))):=by
  have e:L4 (ns.map PyData.int) none (some ((2:Nat):Int))=il (ns.take 2):=by
   unfold L4 il;rw [HT.sIx_none,HT.sIx_nat,List.length_map,List.drop_zero,Nat.sub_zero, <-List.map_take];congr 1
   by_cases h:2<=ns.length
   . rw [cI h]
   . rw [XN (by omega),BS (AA _),BS (by omega)]
  rw [<-e];rfl
 have hi:D5 (mBin dAdd (mSl (mPk 0) mNoPart (mPart (mK (.int 2)))) (mLst (mCons (mK (.int 0)) mNil))) [S,none]=some ((ns.take 2 ++ [0]).map PyData.int):=by
  unfold D5;rw [(AF (op:=dAdd) c1 (RL (a:= .val (.int 0)) rfl)).trans (I0 (xs:=il (ns.take 2)) (ys:= [.int 0]) rfl rfl (by rw [QM,List.length_take];show _+1<=_;omega))];show some (il (ns.take 2) ++ [.int 0])=_;unfold il;rw [List.map_append];rfl
 refine EJ (P:=fun _=>True) ?_ (fun ρ _=>DL (r:= .val (.bool true)) rfl rfl);refine FD (en:=PyData.int) (xs:=ns.take 2 ++ [0]) (fun _ ρ=>∃z,ρ = [S,z]) hi ⟨none,rfl⟩ ?_ (fun _ _=>DJ);rintro j c ρ _ ⟨z,rfl⟩;exact ⟨_,rfl,YH (sQ (k:=true) (KB (BF (ds:= [.int c]) rfl (eB c)))) (HM ⟨_,rfl⟩)⟩
abbrev Na_ (K:PySem.W.Frag) (n:Str) (f:Addr):Prop:=PySem.W.nsIn K mainGlobals n=some (some (.ref f))
abbrev Nz_ (K:PySem.W.Frag) (n:Str):Prop:=PySem.W.nsIn K mainGlobals n=some none
abbrev Co_ (K:PySem.W.Frag) (c:Value) (n:Str):Prop:=PySem.W.codeIn K c n=true
abbrev Ke_ (K:PySem.W.Frag) (f:Addr):Prop:=PySem.W.keepIn K (.ref f)=true
abbrev Lo_ (K:PySem.W.Frag) (f:Addr) (oc:Value) (od:Option Addr) (n q:Str) (s:Stmt) (kV dc pm:Value) (an:Option Addr) (cd ct:Value) (sl:Array (Option Value)):Prop:=K.lookup f=some ⟨oc,od, .func (PySem.W.fnOf n q (LI s) (HK s) (AO s) .none kV dc pm an cd ct),sl⟩
local macro_rules | `(tactic| walk_at "u1") => `(tactic| exact fun _ _ _ _ _ _ us hl => match us, hl with | [_], _ => rfl)
local macro_rules | `(tactic| walk_at "u2") => `(tactic| exact fun _ _ _ _ _ _ us hl => match us, hl with | [_, _], _ => rfl)
local macro_rules | `(tactic| walk_at "u3") => `(tactic| exact fun _ _ _ _ _ _ us hl => match us, hl with | [_, _, _], _ => rfl)
local macro_rules | `(tactic| walk_at "u4") => `(tactic| exact fun _ _ _ _ _ _ us hl => match us, hl with | [_, _, _, _], _ => rfl)
theorem all_mk {l : PySem.W.OpenLaw} {w : World} {K : PySem.W.Frag} {h : Heap} {mg : Str -> Option Value} {fa f1 f2 f3 f4 f5 f6 f7 f8 f9 f10 f11 f12 f13 f14 f15 f16 f17 f18 f19 f20 f21 f22 f23 f24 f25 f26 f27 f28 f29 f30 f31 f32 f33 f34 f35 f36 f37 f38 f39 f40 f41 f42 f43 f44 f45 f46 f47 C_S t_NOUGHT t_UNIT : Addr} {od1 an1 od2 an2 od3 an3 od4 an4 od5 an5 od6 an6 od7 an7 od8 an8 od9 an9 od10 an10 od11 an11 od12 an12 od13 an13 od14 an14 od15 an15 od16 an16 od17 an17 od18 an18 od19 an19 od20 an20 od21 an21 od22 an22 od23 an23 od24 an24 od25 an25 od26 an26 od27 an27 od28 an28 od29 an29 od30 an30 od31 an31 od32 an32 od33 an33 od34 an34 od35 an35 od36 an36 od37 an37 od38 an38 od39 an39 od40 an40 od41 an41 od42 an42 od43 an43 od44 an44 od45 an45 od46 an46 od47 an47 to_NOUGHT to_UNIT : Option Addr} {sl1 sl2 sl3 sl4 sl5 sl6 sl7 sl8 sl9 sl10 sl11 sl12 sl13 sl14 sl15 sl16 sl17 sl18 sl19 sl20 sl21 sl22 sl23 sl24 sl25 sl26 sl27 sl28 sl29 sl30 sl31 sl32 sl33 sl34 sl35 sl36 sl37 sl38 sl39 sl40 sl41 sl42 sl43 sl44 sl45 sl46 sl47 ts_NOUGHT ts_UNIT : Array (Option Value)} {oc1 kV1 dc1 pm1 cd1 ct1 oc2 kV2 dc2 pm2 cd2 ct2 oc3 kV3 dc3 pm3 cd3 ct3 oc4 kV4 dc4 pm4 cd4 ct4 oc5 kV5 dc5 pm5 cd5 ct5 oc6 kV6 dc6 pm6 cd6 ct6 oc7 kV7 dc7 pm7 cd7 ct7 oc8 kV8 dc8 pm8 cd8 ct8 oc9 kV9 dc9 pm9 cd9 ct9 oc10 kV10 dc10 pm10 cd10 ct10 oc11 kV11 dc11 pm11 cd11 ct11 oc12 kV12 dc12 pm12 cd12 ct12 oc13 kV13 dc13 pm13 cd13 ct13 oc14 kV14 dc14 pm14 cd14 ct14 oc15 kV15 dc15 pm15 cd15 ct15 oc16 kV16 dc16 pm16 cd16 ct16 oc17 kV17 dc17 pm17 cd17 ct17 oc18 kV18 dc18 pm18 cd18 ct18 oc19 kV19 dc19 pm19 cd19 ct19 oc20 kV20 dc20 pm20 cd20 ct20 oc21 kV21 dc21 pm21 cd21 ct21 oc22 kV22 dc22 pm22 cd22 ct22 oc23 kV23 dc23 pm23 cd23 ct23 oc24 kV24 dc24 pm24 cd24 ct24 oc25 kV25 dc25 pm25 cd25 ct25 oc26 kV26 dc26 pm26 cd26 ct26 oc27 kV27 dc27 pm27 cd27 ct27 oc28 kV28 dc28 pm28 cd28 ct28 oc29 kV29 dc29 pm29 cd29 ct29 oc30 kV30 dc30 pm30 cd30 ct30 oc31 kV31 dc31 pm31 cd31 ct31 oc32 kV32 dc32 pm32 cd32 ct32 oc33 kV33 dc33 pm33 cd33 ct33 oc34 kV34 dc34 pm34 cd34 ct34 oc35 kV35 dc35 pm35 cd35 ct35 oc36 kV36 dc36 pm36 cd36 ct36 oc37 kV37 dc37 pm37 cd37 ct37 oc38 kV38 dc38 pm38 cd38 ct38 oc39 kV39 dc39 pm39 cd39 ct39 oc40 kV40 dc40 pm40 cd40 ct40 oc41 kV41 dc41 pm41 cd41 ct41 oc42 kV42 dc42 pm42 cd42 ct42 oc43 kV43 dc43 pm43 cd43 ct43 oc44 kV44 dc44 pm44 cd44 ct44 oc45 kV45 dc45 pm45 cd45 ct45 oc46 kV46 dc46 pm46 cd46 ct46 oc47 kV47 dc47 pm47 cd47 ct47 : Value} {tk_NOUGHT_0 tk_NOUGHT_1 tk_UNIT_0 tk_UNIT_1 : Tok} {tn_NOUGHT tn_UNIT : Nat} (X : K.In h) (G : h.Ns mainGlobals mg) (hfa : mg "law" = some (.ref fa)) (hT : ∀ p ∈ (tbK [] K).map (·.2), h.get? p = some (PySem.W.tabObj #[]))
 (aC_Stairs:Na_ K "Stairs" C_S)
 (pg_Stairs:PySem.W.plainGet K C_S Str.empty=true)
 (hd_Stairs:PySem.W.hasDictIn K C_S=true)
 (po_Stairs:PySem.W.plainOver K C_S=true)
 (sa_Stairs:PySem.W.findIn K (.ref C_S) "__setattr__" = some (some (.builtin "object.__setattr__")))
 (mk_Stairs:PySem.W.makesIn K C_S=true)
 (kc_Stairs:Ke_ K C_S)
 (n_Stairs_rows:PySem.W.findIn K (.ref C_S) "rows" = some none)
 (n_Stairs_leads:PySem.W.findIn K (.ref C_S) "leads" = some none)
 (n_Stairs_last:PySem.W.findIn K (.ref C_S) "last" = some none)
 (a1:Na_ K "_law_mixed" f1)
 (l1:Lo_ K f1 oc1 od1 "_law_mixed" "_law_mixed" ZK kV1 dc1 pm1 an1 cd1 ct1 sl1)
 (c1:Co_ K cd1 "_law_mixed")
 (k1:Ke_ K f1)
 (a2:Na_ K "_law_levels" f2)
 (l2:Lo_ K f2 oc2 od2 "_law_levels" "_law_levels" bL kV2 dc2 pm2 an2 cd2 ct2 sl2)
 (c2:Co_ K cd2 "_law_levels")
 (k2:Ke_ K f2)
 (a3:Na_ K "_law_effects" f3)
 (l3:Lo_ K f3 oc3 od3 "_law_effects" "_law_effects" pI kV3 dc3 pm3 an3 cd3 ct3 sl3)
 (c3:Co_ K cd3 "_law_effects")
 (k3:Ke_ K f3)
 (a4:Na_ K "_law_all" f4)
 (l4:Lo_ K f4 oc4 od4 "_law_all" "_law_all" pF kV4 dc4 pm4 an4 cd4 ct4 sl4)
 (c4:Co_ K cd4 "_law_all")
 (k4:Ke_ K f4)
 (a5:Na_ K "_law_results" f5)
 (l5:Lo_ K f5 oc5 od5 "_law_results" "_law_results" aC kV5 dc5 pm5 an5 cd5 ct5 sl5)
 (c5:Co_ K cd5 "_law_results")
 (k5:Ke_ K f5)
 (a6:Na_ K "_law_columns" f6)
 (l6:Lo_ K f6 oc6 od6 "_law_columns" "_law_columns" qJ kV6 dc6 pm6 an6 cd6 ct6 sl6)
 (c6:Co_ K cd6 "_law_columns")
 (k6:Ke_ K f6)
 (a7:Na_ K "_law_contrast" f7)
 (l7:Lo_ K f7 oc7 od7 "_law_contrast" "_law_contrast" nH kV7 dc7 pm7 an7 cd7 ct7 sl7)
 (c7:Co_ K cd7 "_law_contrast")
 (k7:Ke_ K f7)
 (a8:Na_ K "_law_table" f8)
 (l8:Lo_ K f8 oc8 od8 "_law_table" "_law_table" aK kV8 dc8 pm8 an8 cd8 ct8 sl8)
 (c8:Co_ K cd8 "_law_table")
 (k8:Ke_ K f8)
 (a9:Na_ K "_law_fraction" f9)
 (l9:Lo_ K f9 oc9 od9 "_law_fraction" "_law_fraction" ZU kV9 dc9 pm9 an9 cd9 ct9 sl9)
 (c9:Co_ K cd9 "_law_fraction")
 (k9:Ke_ K f9)
 (a10:Na_ K "_law_plus" f10)
 (l10:Lo_ K f10 oc10 od10 "_law_plus" "_law_plus" bI kV10 dc10 pm10 an10 cd10 ct10 sl10)
 (c10:Co_ K cd10 "_law_plus")
 (k10:Ke_ K f10)
 (a11:Na_ K "_law_due" f11)
 (l11:Lo_ K f11 oc11 od11 "_law_due" "_law_due" nV kV11 dc11 pm11 an11 cd11 ct11 sl11)
 (c11:Co_ K cd11 "_law_due")
 (k11:Ke_ K f11)
 (a12:Na_ K "_law_other_order" f12)
 (l12:Lo_ K f12 oc12 od12 "_law_other_order" "_law_other_order" Z4 kV12 dc12 pm12 an12 cd12 ct12 sl12)
 (c12:Co_ K cd12 "_law_other_order")
 (k12:Ke_ K f12)
 (a13:Na_ K "greatest_divisor" f13)
 (l13:Lo_ K f13 oc13 od13 "greatest_divisor" "greatest_divisor" aX kV13 dc13 pm13 an13 cd13 ct13 sl13)
 (c13:Co_ K cd13 "greatest_divisor")
 (k13:Ke_ K f13)
 (a14:Na_ K "common_bottom" f14)
 (l14:Lo_ K f14 oc14 od14 "common_bottom" "common_bottom" bH kV14 dc14 pm14 an14 cd14 ct14 sl14)
 (c14:Co_ K cd14 "common_bottom")
 (k14:Ke_ K f14)
 (a15:Na_ K "whole_row" f15)
 (l15:Lo_ K f15 oc15 od15 "whole_row" "whole_row" cC kV15 dc15 pm15 an15 cd15 ct15 sl15)
 (c15:Co_ K cd15 "whole_row")
 (k15:Ke_ K f15)
 (a16:Na_ K "fraction" f16)
 (l16:Lo_ K f16 oc16 od16 "fraction" "fraction" aP kV16 dc16 pm16 an16 cd16 ct16 sl16)
 (c16:Co_ K cd16 "fraction")
 (k16:Ke_ K f16)
 (a17:Na_ K "sum_of_products" f17)
 (l17:Lo_ K f17 oc17 od17 "sum_of_products" "sum_of_products" ZX kV17 dc17 pm17 an17 cd17 ct17 sl17)
 (c17:Co_ K cd17 "sum_of_products")
 (k17:Ke_ K f17)
 (a18:Na_ K "spread" f18)
 (l18:Lo_ K f18 oc18 od18 "spread" "spread" aU kV18 dc18 pm18 an18 cd18 ct18 sl18)
 (c18:Co_ K cd18 "spread")
 (k18:Ke_ K f18)
 (a19:Na_ K "laid_over" f19)
 (l19:Lo_ K f19 oc19 od19 "laid_over" "laid_over" bX kV19 dc19 pm19 an19 cd19 ct19 sl19)
 (c19:Co_ K cd19 "laid_over")
 (k19:Ke_ K f19)
 (a20:PySem.W.findIn K (.ref C_S) "place_of_lead" = some (some (.ref f20)))
 (i20:PySem.W.isFn K (.ref f20)=true)
 (l20:Lo_ K f20 oc20 od20 "place_of_lead" "Stairs.place_of_lead" pU kV20 dc20 pm20 an20 cd20 ct20 sl20)
 (c20:Co_ K cd20 "Stairs.place_of_lead")
 (k20:Ke_ K f20)
 (a21:PySem.W.findIn K (.ref C_S) "exchange" = some (some (.ref f21)))
 (i21:PySem.W.isFn K (.ref f21)=true)
 (l21:Lo_ K f21 oc21 od21 "exchange" "Stairs.exchange" m6 kV21 dc21 pm21 an21 cd21 ct21 sl21)
 (c21:Co_ K cd21 "Stairs.exchange")
 (k21:Ke_ K f21)
 (a22:Na_ K "cleared_row" f22)
 (l22:Lo_ K f22 oc22 od22 "cleared_row" "cleared_row" ZQ kV22 dc22 pm22 an22 cd22 ct22 sl22)
 (c22:Co_ K cd22 "cleared_row")
 (k22:Ke_ K f22)
 (a23:PySem.W.findIn K (.ref C_S) "step_down" = some (some (.ref f23)))
 (i23:PySem.W.isFn K (.ref f23)=true)
 (l23:Lo_ K f23 oc23 od23 "step_down" "Stairs.step_down" mG kV23 dc23 pm23 an23 cd23 ct23 sl23)
 (c23:Co_ K cd23 "Stairs.step_down")
 (k23:Ke_ K f23)
 (a24:PySem.W.findIn K (.ref C_S) "__init__" = some (some (.ref f24)))
 (i24:PySem.W.isFn K (.ref f24)=true)
 (l24:Lo_ K f24 oc24 od24 "__init__" "Stairs.__init__" qA kV24 dc24 pm24 an24 cd24 ct24 sl24)
 (c24:Co_ K cd24 "Stairs.__init__")
 (k24:Ke_ K f24)
 (a25:Na_ K "stairs_of" f25)
 (l25:Lo_ K f25 oc25 od25 "stairs_of" "stairs_of" aT kV25 dc25 pm25 an25 cd25 ct25 sl25)
 (c25:Co_ K cd25 "stairs_of")
 (k25:Ke_ K f25)
 (a26:Na_ K "fractions_over" f26)
 (l26:Lo_ K f26 oc26 od26 "fractions_over" "fractions_over" ZO kV26 dc26 pm26 an26 cd26 ct26 sl26)
 (c26:Co_ K cd26 "fractions_over")
 (k26:Ke_ K f26)
 (a27:PySem.W.findIn K (.ref C_S) "reduced_column" = some (some (.ref f27)))
 (i27:PySem.W.isFn K (.ref f27)=true)
 (l27:Lo_ K f27 oc27 od27 "reduced_column" "Stairs.reduced_column" oZ kV27 dc27 pm27 an27 cd27 ct27 sl27)
 (c27:Co_ K cd27 "Stairs.reduced_column")
 (k27:Ke_ K f27)
 (a28:Na_ K "solution" f28)
 (l28:Lo_ K f28 oc28 od28 "solution" "solution" Z5 kV28 dc28 pm28 an28 cd28 ct28 sl28)
 (c28:Co_ K cd28 "solution")
 (k28:Ke_ K f28)
 (a29:Na_ K "witness" f29)
 (l29:Lo_ K f29 oc29 od29 "witness" "witness" bO kV29 dc29 pm29 an29 cd29 ct29 sl29)
 (c29:Co_ K cd29 "witness")
 (k29:Ke_ K f29)
 (a30:Na_ K "solved" f30)
 (l30:Lo_ K f30 oc30 od30 "solved" "solved" aM kV30 dc30 pm30 an30 cd30 ct30 sl30)
 (c30:Co_ K cd30 "solved")
 (k30:Ke_ K f30)
 (a31:Na_ K "as_fractions" f31)
 (l31:Lo_ K f31 oc31 od31 "as_fractions" "as_fractions" bJ kV31 dc31 pm31 an31 cd31 ct31 sl31)
 (c31:Co_ K cd31 "as_fractions")
 (k31:Ke_ K f31)
 (a32:Na_ K "column_products" f32)
 (l32:Lo_ K f32 oc32 od32 "column_products" "column_products" bV kV32 dc32 pm32 an32 cd32 ct32 sl32)
 (c32:Co_ K cd32 "column_products")
 (k32:Ke_ K f32)
 (a33:Na_ K "sums_with" f33)
 (l33:Lo_ K f33 oc33 od33 "sums_with" "sums_with" aO kV33 dc33 pm33 an33 cd33 ct33 sl33)
 (c33:Co_ K cd33 "sums_with")
 (k33:Ke_ K f33)
 (a34:Na_ K "minus" f34)
 (l34:Lo_ K f34 oc34 od34 "minus" "minus" bK kV34 dc34 pm34 an34 cd34 ct34 sl34)
 (c34:Co_ K cd34 "minus")
 (k34:Ke_ K f34)
 (a35:Na_ K "fit" f35)
 (l35:Lo_ K f35 oc35 od35 "fit" "fit" bD kV35 dc35 pm35 an35 cd35 ct35 sl35)
 (c35:Co_ K cd35 "fit")
 (k35:Ke_ K f35)
 (a36:Na_ K "product_of" f36)
 (l36:Lo_ K f36 oc36 od36 "product_of" "product_of" ZB kV36 dc36 pm36 an36 cd36 ct36 sl36)
 (c36:Co_ K cd36 "product_of")
 (k36:Ke_ K f36)
 (a37:Na_ K "trial_at" f37)
 (l37:Lo_ K f37 oc37 od37 "trial_at" "trial_at" aG kV37 dc37 pm37 an37 cd37 ct37 sl37)
 (c37:Co_ K cd37 "trial_at")
 (k37:Ke_ K f37)
 (a38:Na_ K "all_trials" f38)
 (l38:Lo_ K f38 oc38 od38 "all_trials" "all_trials" ZS kV38 dc38 pm38 an38 cd38 ct38 sl38)
 (c38:Co_ K cd38 "all_trials")
 (k38:Ke_ K f38)
 (a39:Na_ K "effect_columns" f39)
 (l39:Lo_ K f39 oc39 od39 "effect_columns" "effect_columns" ZP kV39 dc39 pm39 an39 cd39 ct39 sl39)
 (c39:Co_ K cd39 "effect_columns")
 (k39:Ke_ K f39)
 (a40:Na_ K "columns_of" f40)
 (l40:Lo_ K f40 oc40 od40 "columns_of" "columns_of" ZF kV40 dc40 pm40 an40 cd40 ct40 sl40)
 (c40:Co_ K cd40 "columns_of")
 (k40:Ke_ K f40)
 (a41:Na_ K "contrast" f41)
 (l41:Lo_ K f41 oc41 od41 "contrast" "contrast" bQ kV41 dc41 pm41 an41 cd41 ct41 sl41)
 (c41:Co_ K cd41 "contrast")
 (k41:Ke_ K f41)
 (a42:Na_ K "value_at" f42)
 (l42:Lo_ K f42 oc42 od42 "value_at" "value_at" bG kV42 dc42 pm42 an42 cd42 ct42 sl42)
 (c42:Co_ K cd42 "value_at")
 (k42:Ke_ K f42)
 (a43:Na_ K "table_of" f43)
 (l43:Lo_ K f43 oc43 od43 "table_of" "table_of" ZM kV43 dc43 pm43 an43 cd43 ct43 sl43)
 (c43:Co_ K cd43 "table_of")
 (k43:Ke_ K f43)
 (a44:Na_ K "fitted_square" f44)
 (l44:Lo_ K f44 oc44 od44 "fitted_square" "fitted_square" aY kV44 dc44 pm44 an44 cd44 ct44 sl44)
 (c44:Co_ K cd44 "fitted_square")
 (k44:Ke_ K f44)
 (a45:Na_ K "squares" f45)
 (l45:Lo_ K f45 oc45 od45 "squares" "squares" bF kV45 dc45 pm45 an45 cd45 ct45 sl45)
 (c45:Co_ K cd45 "squares")
 (k45:Ke_ K f45)
 (a46:Na_ K "_law_right" f46)
 (l46:Lo_ K f46 oc46 od46 "_law_right" "_law_right" bY kV46 dc46 pm46 an46 cd46 ct46 sl46)
 (c46:Co_ K cd46 "_law_right")
 (k46:Ke_ K f46)
 (a47:Na_ K "law" f47)
 (l47:Lo_ K f47 oc47 od47 "law" "law" S3 kV47 dc47 pm47 an47 cd47 ct47 sl47)
 (c47:Co_ K cd47 "law")
 (k47:Ke_ K f47)
 (a_NOUGHT:Na_ K "NOUGHT" t_NOUGHT)
 (l_NOUGHT:K.lookup t_NOUGHT=some ⟨.type "tuple",to_NOUGHT, .seq #[.int 0 tk_NOUGHT_0, .int 1 tk_NOUGHT_1] tn_NOUGHT,ts_NOUGHT⟩)
 (a_UNIT:Na_ K "UNIT" t_UNIT)
 (l_UNIT:K.lookup t_UNIT=some ⟨.type "tuple",to_UNIT, .seq #[.int 1 tk_UNIT_0, .int 1 tk_UNIT_1] tn_UNIT,ts_UNIT⟩)
 (z0:Nz_ K "abs")
 (z1:Nz_ K "enumerate")
 (z2:Nz_ K "int")
 (z3:Nz_ K "len")
 (z4:Nz_ K "list")
 (z5:Nz_ K "range")
 (z6:Nz_ K "reversed")
 (z7:Nz_ K "sum")
 (z8:Nz_ K "tuple")
 (z9:Nz_ K "zip")
 : (∃o,K.lookup mainGlobals=some o)/\∃fd:FuncData,(∀(s:Shared) (v:Value),BindsTo s fd ⟨[v],[]⟩ [("_law_script",v)])/\∀base:Heap,(KC K).In base->base.Ns mainGlobals mg->(∀p ∈ tbK [] K,PySem.W.CodeHd base p.1 p.2)->BM base mg->FnOk l.prog w (KC K) mg base CX0 13 fa fd qpb (ZN (KC K)):=by
 have e:=hfa.symm.trans (AL X G a47)
 cases e
 have F_q12:=BY X hT (CQ (st:=ZK) l1 c1 k1);have b_q12:=F_q12.binds (ps:=qj) (by walk_at "u2");have F_q11:=BY X hT (CQ (st:=bL) l2 c2 k2);have b_q11:=F_q11.binds (ps:=qy) (by walk_at "u2");have F_q9:=BY X hT (CQ (st:=pI) l3 c3 k3);have b_q9:=F_q9.binds (ps:=qg) (by walk_at "u3");have F_q5:=BY X hT (CQ (st:=pF) l4 c4 k4);have b_q5:=F_q5.binds (ps:=qib) (by walk_at "u1");have F_q15:=BY X hT (CQ (st:=aC) l5 c5 k5);have b_q15:=F_q15.binds (ps:=qz) (by walk_at "u2");have F_q6:=BY X hT (CQ (st:=qJ) l6 c6 k6);have b_q6:=F_q6.binds (ps:=qo) (by walk_at "u2");have F_q7:=BY X hT (CQ (st:=nH) l7 c7 k7);have b_q7:=F_q7.binds (ps:=qr) (by walk_at "u2");have F_q17:=BY X hT (CQ (st:=aK) l8 c8 k8);have b_q17:=F_q17.binds (ps:=qf) (by walk_at "u3");have F_q10:=BY X hT (CQ (st:=ZU) l9 c9 k9);have b_q10:=F_q10.binds (ps:=qp) (by walk_at "u2");have F_q14:=BY X hT (CQ (st:=bI) l10 c10 k10);have b_q14:=F_q14.binds (ps:=ql) (by walk_at "u2");have F_q8:=BY X hT (CQ (st:=nV) l11 c11 k11);have b_q8:=F_q8.binds (ps:=qd) (by walk_at "u4");have F_q13:=BY X hT (CQ (st:=Z4) l12 c12 k12);have b_q13:=F_q13.binds (ps:=qu) (by walk_at "u2");have F_q29:=BY X hT (CQ (st:=aX) l13 c13 k13);have b_q29:=F_q29.binds (ps:=qc) (by walk_at "u2");have F_q23:=BY X hT (CQ (st:=bH) l14 c14 k14);have b_q23:=F_q23.binds (ps:=qeb) (by walk_at "u1");have F_q43:=BY X hT (CQ (st:=cC) l15 c15 k15);have b_q43:=F_q43.binds (ps:=qeb) (by walk_at "u1");have F_q27:=BY X hT (CQ (st:=aP) l16 c16 k16);have b_q27:=F_q27.binds (ps:=qdb) (by walk_at "u2");have F_q38:=BY X hT (CQ (st:=ZX) l17 c17 k17);have b_q38:=F_q38.binds (ps:=qc) (by walk_at "u2");have F_q35:=BY X hT (CQ (st:=aU) l18 c18 k18);have b_q35:=F_q35.binds (ps:= ["weights"]) (by walk_at "u1");have F_q30:=BY X hT (CQ (st:=bX) l19 c19 k19);have b_q30:=F_q30.binds (ps:=qab) (by walk_at "u1");have F_q2:=BY X hT (CQ (st:=pU) l20 c20 k20);have b_q2:=F_q2.binds (ps:=qbb) (by walk_at "u3");have F_q1:=BY X hT (CQ (st:=m6) l21 c21 k21);have b_q1:=F_q1.binds (ps:=qcb) (by walk_at "u3");have F_q20:=BY X hT (CQ (st:=ZQ) l22 c22 k22);have b_q20:=F_q20.binds (ps:=qh) (by walk_at "u4");have F_q4:=BY X hT (CQ (st:=mG) l23 c23 k23);have b_q4:=F_q4.binds (ps:=qm) (by walk_at "u2");have F_q0:=BY X hT (CQ (st:=qA) l24 c24 k24);have b_q0:=F_q0.binds (ps:=qnb) (by walk_at "u2");have F_q37:=BY X hT (CQ (st:=aT) l25 c25 k25);have b_q37:=F_q37.binds (ps:=qab) (by walk_at "u1");have F_q28:=BY X hT (CQ (st:=ZO) l26 c26 k26);have b_q28:=F_q28.binds (ps:=qq) (by walk_at "u2");have F_q3:=BY X hT (CQ (st:=oZ) l27 c27 k27);have b_q3:=F_q3.binds (ps:=qm) (by walk_at "u2");have F_q33:=BY X hT (CQ (st:=Z5) l28 c28 k28);have b_q33:=F_q33.binds (ps:=qe) (by walk_at "u2")
 have F_q44:=BY X hT (CQ (st:=bO) l29 c29 k29);have b_q44:=F_q44.binds (ps:=qe) (by walk_at "u2");have F_q34:=BY X hT (CQ (st:=aM) l30 c30 k30);have b_q34:=F_q34.binds (ps:=qe) (by walk_at "u2");have F_q19:=BY X hT (CQ (st:=bJ) l31 c31 k31);have b_q19:=F_q19.binds (ps:=qx) (by walk_at "u1");have F_q21:=BY X hT (CQ (st:=bV) l32 c32 k32);have b_q21:=F_q21.binds (ps:= ["rows"]) (by walk_at "u1");have F_q39:=BY X hT (CQ (st:=aO) l33 c33 k33);have b_q39:=F_q39.binds (ps:=qgb) (by walk_at "u2");have F_q31:=BY X hT (CQ (st:=bK) l34 c34 k34);have b_q31:=F_q31.binds (ps:=qc) (by walk_at "u2");have F_fit:=BY X hT (CQ (st:=bD) l35 c35 k35);have b_fit:=F_fit.binds (ps:=qmb) (by walk_at "u2");have F_q32:=BY X hT (CQ (st:=ZB) l36 c36 k36);have b_q32:=F_q32.binds (ps:=qx) (by walk_at "u1");have F_q41:=BY X hT (CQ (st:=aG) l37 c37 k37);have b_q41:=F_q41.binds (ps:=qw) (by walk_at "u2");have F_q18:=BY X hT (CQ (st:=ZS) l38 c38 k38);have b_q18:=F_q18.binds (ps:= ["levels"]) (by walk_at "u1");have F_q25:=BY X hT (CQ (st:=ZP) l39 c39 k39);have b_q25:=F_q25.binds (ps:=qhb) (by walk_at "u2");have F_q22:=BY X hT (CQ (st:=ZF) l40 c40 k40);have b_q22:=F_q22.binds (ps:=qkb) (by walk_at "u2");have F_q24:=BY X hT (CQ (st:=bQ) l41 c41 k41);have b_q24:=F_q24.binds (ps:=qfb) (by walk_at "u2");have F_q42:=BY X hT (CQ (st:=bG) l42 c42 k42);have b_q42:=F_q42.binds (ps:=qlb) (by walk_at "u2");have F_q40:=BY X hT (CQ (st:=ZM) l43 c43 k43);have b_q40:=F_q40.binds (ps:=qt) (by walk_at "u3");have F_q26:=BY X hT (CQ (st:=aY) l44 c44 k44);have b_q26:=F_q26.binds (ps:=qb) (by walk_at "u4");have F_q36:=BY X hT (CQ (st:=bF) l45 c45 k45);have b_q36:=F_q36.binds (ps:=qb) (by walk_at "u4");have F_q16:=BY X hT (CQ (st:=bY) l46 c46 k46);have b_q16:=F_q16.binds (ps:= ["_law_cell"]) (by walk_at "u1");have F_law:=BY X hT (CQ (st:=S3) l47 c47 k47);have b_law:=F_law.binds (ps:=qpb) (by walk_at "u1");have B:Bl mg:=⟨EA X G z0,EA X G z1,EA X G z2,EA X G z3,EA X G z4,EA X G z5,EA X G z6,EA X G z7,EA X G z8,EA X G z9⟩
 have K_S:Klass (KC K) C_S qa:=UpK.klass (LJ X hT) ⟨⟨pg_Stairs,hd_Stairs,po_Stairs,sa_Stairs⟩,fun f hf=>by
  simp only [B8,BK,EM] at hf
  rcases hf with rfl | rfl | rfl
  . exact n_Stairs_rows
  . exact n_Stairs_leads
  . exact n_Stairs_last⟩
 have C_NOUGHT:S9 (KC K) mg "NOUGHT" c_NOUGHT:=⟨.ref t_NOUGHT, .ref t_NOUGHT,AL X G a_NOUGHT,rfl,fun H0=>Rep.tuple (xs:= [V.int 0,V.int 1]) (.inr ⟨_,_,_,HZ (NK X hT l_NOUGHT (fun z=>by cases z)) l_NOUGHT,rfl,rfl,by show 2<=sizeLine;decide, .cons ⟨_,rfl⟩ (.cons ⟨_,rfl⟩ (.nil))⟩) (.cons (.int _) (.cons (.int _) .nil))⟩;have C_UNIT:S9 (KC K) mg "UNIT" c_UNIT:=⟨.ref t_UNIT, .ref t_UNIT,AL X G a_UNIT,rfl,fun H0=>Rep.tuple (xs:= [V.int 1,V.int 1]) (.inr ⟨_,_,_,HZ (NK X hT l_UNIT (fun z=>by cases z)) l_UNIT,rfl,rfl,by show 2<=sizeLine;decide, .cons ⟨_,rfl⟩ (.cons ⟨_,rfl⟩ (.nil))⟩) (.cons (.int _) (.cons (.int _) .nil))⟩;refine ⟨mQ a47,PySem.W.fnOf "law" "law" (LI S3) (HK S3) (AO S3) .none kV47 dc47 pm47 an47 cd47 ct47,fun s v=> .of_eq rfl,fun base _ _ hC bm=> ?_⟩;have D_q12:Def l.prog w (KC K) mg base 1 "_law_mixed" qj (spD (KC K) J9):=⟨_,_,tR B F_q12,AL X G a1,F_q12.kp,b_q12⟩;have D_q11:Def l.prog w (KC K) mg base 2 "_law_levels" qy (spD (KC K) VR):=⟨_,_,vK B D_q12 F_q11,AL X G a2,F_q11.kp,b_q11⟩;have D_q9:Def l.prog w (KC K) mg base 2 "_law_effects" qg (spD (KC K) jH):=⟨_,_,zU B D_q12 F_q9,AL X G a3,F_q9.kp,b_q9⟩;have D_q5:Def l.prog w (KC K) mg base 1 "_law_all" qib (spD (KC K) iX):=⟨_,_,yH B F_q5,AL X G a4,F_q5.kp,b_q5⟩;have D_q15:Def l.prog w (KC K) mg base 2 "_law_results" qz (spD (KC K) XD):=⟨_,_,tM B D_q12 F_q15,AL X G a5,F_q15.kp,b_q15⟩;have D_q6:Def l.prog w (KC K) mg base 1 "_law_columns" qo (spD (KC K) eY):=⟨_,_,y6 B F_q6,AL X G a6,F_q6.kp,b_q6⟩;have D_q7:Def l.prog w (KC K) mg base 1 "_law_contrast" qr (spD (KC K) kK):=⟨_,_,zA B F_q7,AL X G a7,F_q7.kp,b_q7⟩;have D_q17:Def l.prog w (KC K) mg base 2 "_law_table" qf (spD (KC K) WQ):=⟨_,_,vH B D_q6 D_q7 F_q17,AL X G a8,F_q17.kp,b_q17⟩;have D_q10:Def l.prog w (KC K) mg base 1 "_law_fraction" qp (spD (KC K) OW):=⟨_,_,w5 B F_q10,AL X G a9,F_q10.kp,b_q10⟩;have D_q14:Def l.prog w (KC K) mg base 2 "_law_plus" ql (spD (KC K) QT):=⟨_,_,wS B D_q10 F_q14,AL X G a10,F_q14.kp,b_q14⟩;have D_q8:Def l.prog w (KC K) mg base 3 "_law_due" qd (spD (KC K) dN):=⟨_,_,zB B D_q17 D_q14 D_q10 F_q8,AL X G a11,F_q8.kp,b_q8⟩;have D_q13:Def l.prog w (KC K) mg base 2 "_law_other_order" qu (spD (KC K) U0):=⟨_,_,tU B D_q12 F_q13,AL X G a12,F_q13.kp,b_q13⟩;have D_q29:Def l.prog w (KC K) mg base 1 "greatest_divisor" qc (spD (KC K) NG):=⟨_,_,tH B F_q29,AL X G a13,F_q29.kp,b_q29⟩;have D_q23:Def l.prog w (KC K) mg base 2 "common_bottom" qeb (spD (KC K) MH):=⟨_,_,v2 B D_q29 F_q23,AL X G a14,F_q23.kp,b_q23⟩;have D_q43:Def l.prog w (KC K) mg base 3 "whole_row" qeb (spD (KC K) KU):=⟨_,_,uH B D_q23 F_q43,AL X G a15,F_q43.kp,b_q43⟩;have D_q27:Def l.prog w (KC K) mg base 2 "fraction" qdb (spD (KC K) NO):=⟨_,_,tL B D_q29 F_q27,AL X G a16,F_q27.kp,b_q27⟩
 have D_q38:Def l.prog w (KC K) mg base 1 "sum_of_products" qc (spD (KC K) IZ):=⟨_,_,wK B F_q38,AL X G a17,F_q38.kp,b_q38⟩;have D_q35:Def l.prog w (KC K) mg base 4 "spread" ["weights"] (spD (KC K) VL):=⟨_,_,wU B D_q23 D_q43 D_q27 D_q38 F_q35,AL X G a18,F_q35.kp,b_q35⟩;have D_q30:Def l.prog w (KC K) mg base 1 "laid_over" qab (spD (KC K) NH):=⟨_,_,wB B F_q30,AL X G a19,F_q30.kp,b_q30⟩;have D_q2:MDef l.prog w (KC K) mg base 1 C_S "place_of_lead" qbb (spM (KC K) C_S qa WE):=⟨_,_,y3 B K_S F_q2,UpK.meth (LJ X hT) ⟨a20,i20,k20⟩,b_q2⟩;have D_q1:MDef l.prog w (KC K) mg base 1 C_S "exchange" qcb (spM (KC K) C_S qa eI):=⟨_,_,zW B K_S F_q1,UpK.meth (LJ X hT) ⟨a21,i21,k21⟩,b_q1⟩;have D_q20:Def l.prog w (KC K) mg base 1 "cleared_row" qh (spD (KC K) WO):=⟨_,_,vZ B F_q20,AL X G a22,F_q20.kp,b_q20⟩;have D_q4:MDef l.prog w (KC K) mg base 2 C_S "step_down" qm (spM (KC K) C_S qa YL):=⟨_,_,yY B D_q2 D_q1 D_q20 K_S F_q4,UpK.meth (LJ X hT) ⟨a23,i23,k23⟩,b_q4⟩;have D_q0:KDef l.prog w (KC K) mg base 3 C_S "Stairs" qnb (spM (KC K) C_S qa Y4):=⟨_,_,zH B D_q4 K_S F_q0,UpK.mk (LJ X hT) ⟨mk_Stairs,a24,i24,kc_Stairs⟩,AL X G aC_Stairs,b_q0⟩;have D_q37:Def l.prog w (KC K) mg base 5 "stairs_of" qab (spO (KC K) C_S qa RD):=⟨_,_,vE B D_q43 D_q0 K_S F_q37,AL X G a25,F_q37.kp,b_q37⟩;have D_q28:Def l.prog w (KC K) mg base 3 "fractions_over" qq (spD (KC K) P9):=⟨_,_,tN B D_q27 F_q28,AL X G a26,F_q28.kp,b_q28⟩;have D_q3:MDef l.prog w (KC K) mg base 1 C_S "reduced_column" qm (spR (KC K) C_S qa Y5):=⟨_,_,y9 B K_S F_q3,UpK.meth (LJ X hT) ⟨a27,i27,k27⟩,b_q3⟩;have D_q33:Def l.prog w (KC K) mg base 6 "solution" qe (spD (KC K) KG):=⟨_,_,wN B D_q37 D_q28 D_q3 C_NOUGHT K_S F_q33,AL X G a28,F_q33.kp,b_q33⟩;have D_q44:Def l.prog w (KC K) mg base 7 "witness" qe (spD (KC K) W9):=⟨_,_,tJ B D_q30 D_q33 C_NOUGHT C_UNIT F_q44,AL X G a29,F_q44.kp,b_q44⟩;have D_q34:Def l.prog w (KC K) mg base 8 "solved" qe (spD (KC K) TC):=⟨_,_,wZ B D_q33 D_q44 F_q34,AL X G a30,F_q34.kp,b_q34⟩;have D_q19:Def l.prog w (KC K) mg base 1 "as_fractions" qx (spD (KC K) P6):=⟨_,_,uZ B F_q19,AL X G a31,F_q19.kp,b_q19⟩;have D_q21:Def l.prog w (KC K) mg base 2 "column_products" ["rows"] (spD (KC K) W8):=⟨_,_,vN B D_q30 D_q19 D_q38 F_q21,AL X G a32,F_q21.kp,b_q21⟩;have D_q39:Def l.prog w (KC K) mg base 4 "sums_with" qgb (spD (KC K) X2):=⟨_,_,sT B D_q23 D_q43 D_q28 D_q38 F_q39,AL X G a33,F_q39.kp,b_q39⟩;have D_q31:Def l.prog w (KC K) mg base 3 "minus" qc (spD (KC K) P3):=⟨_,_,vO B D_q27 F_q31,AL X G a34,F_q31.kp,b_q31⟩;have D_fit:Def l.prog w (KC K) mg base 9 "fit" qmb (spD (KC K) N3):=⟨_,_,uF B D_q30 D_q38 D_q34 D_q19 D_q21 D_q39 D_q31 F_fit,AL X G a35,F_fit.kp,b_fit⟩;have D_q32:Def l.prog w (KC K) mg base 1 "product_of" qx (spD (KC K) XE):=⟨_,_,v4 B F_q32,AL X G a36,F_q32.kp,b_q32⟩
 have D_q41:Def l.prog w (KC K) mg base 1 "trial_at" qw (spD (KC K) X7):=⟨_,_,vV B F_q41,AL X G a37,F_q41.kp,b_q41⟩;have D_q18:Def l.prog w (KC K) mg base 2 "all_trials" ["levels"] (spD (KC K) WV):=⟨_,_,uR B D_q32 D_q41 F_q18,AL X G a38,F_q18.kp,b_q18⟩;have D_q25:Def l.prog w (KC K) mg base 3 "effect_columns" qhb (spD (KC K) VN):=⟨_,_,uJ B D_q18 F_q25,AL X G a39,F_q25.kp,b_q25⟩;have D_q22:Def l.prog w (KC K) mg base 4 "columns_of" qkb (spD (KC K) WC):=⟨_,_,sR B D_q25 F_q22,AL X G a40,F_q22.kp,b_q22⟩;have D_q24:Def l.prog w (KC K) mg base 1 "contrast" qfb (spD (KC K) VV):=⟨_,_,v5 B F_q24,AL X G a41,F_q24.kp,b_q24⟩;have D_q42:Def l.prog w (KC K) mg base 2 "value_at" qlb (spD (KC K) TB):=⟨_,_,xA B D_q24 F_q42,AL X G a42,F_q42.kp,b_q42⟩;have D_q40:Def l.prog w (KC K) mg base 5 "table_of" qt (spD (KC K) WJ):=⟨_,_,u0 B D_q22 D_q42 F_q40,AL X G a43,F_q40.kp,b_q40⟩;have D_q26:Def l.prog w (KC K) mg base 10 "fitted_square" qb (spD (KC K) X1):=⟨_,_,sW B D_q35 D_fit D_q40 F_q26,AL X G a44,F_q26.kp,b_q26⟩;have D_q36:Def l.prog w (KC K) mg base 11 "squares" qb (spD (KC K) T7):=⟨_,_,uG B D_q26 D_q31 D_q38 C_NOUGHT F_q36,AL X G a45,F_q36.kp,b_q36⟩;have D_q16:Def l.prog w (KC K) mg base 12 "_law_right" ["_law_cell"] (spD (KC K) VM):=⟨_,_,v8 B D_q11 D_q9 D_q5 D_q15 D_q8 D_q14 D_q13 D_q36 F_q16,AL X G a46,F_q16.kp,b_q16⟩;exact (tZ B D_q16 F_law).imp (fun vs H Q E h=>qK iG h)
theorem walk {l : PySem.W.OpenLaw} {q : Program} {loose : List Str} {XP : (Str -> Option Value) -> Heap -> Prop} {YP : World -> Heap -> Prop} {d : DefRec} {K : Params -> PySem.W.Frag} (hn : l.most = some 63) (hdf : d.params.defaults = [])
 (hY:∀(w:World) (h:Heap),YP w h->(K w.params).In h)
 (hrec:∀y ∈ ([]:List Str),∃e,(PyProof.Rows.recsOf q).find? (fun e=>e.name==y)=some e)
 (F:∀(w:World) (mg:Str->Option Value) (fa:Addr) (h:Heap),(K w.params).In h->h.Ns mainGlobals mg->mg d.name=some (.ref fa)->(∀p ∈ (tbK [] (K w.params)).map (·.2),h.get? p=some (PySem.W.tabObj #[])) ->
  (∃o,(K w.params).lookup mainGlobals=some o)/\∃fd:FuncData,(∀(s:Shared) (u:Value),BindsTo s fd ⟨[u],[]⟩ [("_law_script",u)])/\∀base:Heap,(KC (K w.params)).In base->base.Ns mainGlobals mg->(∀p ∈ tbK [] (K w.params),PySem.W.CodeHd base p.1 p.2)->BM base mg->FnOk l.prog w (KC (K w.params)) mg base CX0 13 fa fd qpb (ZN (KC (K w.params)))) :
 PySem.W.WalkO q loose XP YP l.row.toRowW d [] (fun f vs=>PySem.call f vs) :=
 gL (n:=63) (k:=13) (x:= "_law_script") (sp:=ZN) hn (by decide) hdf ⟨rfl,by decide,by decide⟩ hY hrec F fun _ _ a ns hl hS=>⟨a,ns,rfl,hS,hl,fun _=>rfl⟩
end
end K53
namespace PySem.W.Fast
def tw7014354259616728632:=0
def tw5465015436863682926:=0
def tw3099216661672924701:=0
def tw18426401633021185181:=0
def tw14680095884572837632:=0
def tw9707308380450660823:=0
def tw6901655027907057642:=0
def tw9198329273770178318:=0
def tw9576957912255691848:=0
def tw8118189738869614286:=0
def tw16280194620363236752:=0
def tw7770759670583543073:=0
def tw9674305214950447202:=0
def tw8104648483434425270:=0
def tw9442555127078187568:=0
def tw14360206322767203508:=0
def tw4495906343648462206:=0
def tw5718584608512434382:=0
end PySem.W.Fast
open PySem PySem.W PyProof.Rows
set_option maxRecDepth 100000 in
set_option maxHeartbeats 0 in
theorem PySem.Challenge.cw_trialfield_k53_whole_squares_in_any_orde_holds : PySem.Challenge.rw_trialfield_k53_whole_squares_in_any_orde.Holds := by
 w_on;o_law;k_head;(case hw=>w_witness2)
 k_fill
 refine K53.walk (l := PySem.Challenge.rw_trialfield_k53_whole_squares_in_any_orde) rfl rfl (fun w h Y => PySem.W.kIn_of Y) ?R ?F
 case R=>
  intro y hy;exact absurd hy BK
 case F=>
  intro w mg fa h KX G hmg hT;refine' K53.all_mk KX G hmg hT ?_ ?_ ?_ ?_ ?_ ?_ ?_ ?_ ?_ ?_ ?_ ?_ ?_ ?_ ?_ ?_ ?_ ?_ ?_ ?_ ?_ ?_ ?_ ?_ ?_ ?_ ?_ ?_ ?_ ?_ ?_ ?_ ?_ ?_ ?_ ?_ ?_ ?_ ?_ ?_ ?_ ?_ ?_ ?_ ?_ ?_ ?_ ?_ ?_ ?_ ?_ ?_ ?_ ?_ ?_ ?_ ?_ ?_ ?_ ?_ ?_ ?_ ?_ ?_ ?_ ?_ ?_ ?_ ?_ ?_ ?_ ?_ ?_ ?_ ?_ ?_ ?_ ?_ ?_ ?_ ?_ ?_ ?_ ?_ ?_ ?_ ?_ ?_ ?_ ?_ ?_ ?_ ?_ ?_ ?_ ?_ ?_ ?_ ?_ ?_ ?_ ?_ ?_ ?_ ?_ ?_ ?_ ?_ ?_ ?_ ?_ ?_ ?_ ?_ ?_ ?_ ?_ ?_ ?_ ?_ ?_ ?_ ?_ ?_ ?_ ?_ ?_ ?_ ?_ ?_ ?_ ?_ ?_ ?_ ?_ ?_ ?_ ?_ ?_ ?_ ?_ ?_ ?_ ?_ ?_ ?_ ?_ ?_ ?_ ?_ ?_ ?_ ?_ ?_ ?_ ?_ ?_ ?_ ?_ ?_ ?_ ?_ ?_ ?_ ?_ ?_ ?_ ?_ ?_ ?_ ?_ ?_ ?_ ?_ ?_ ?_ ?_ ?_ ?_ ?_ ?_ ?_ ?_ ?_ ?_ ?_ ?_ ?_ ?_ ?_ ?_ ?_ ?_ ?_ ?_ ?_ ?_ ?_ ?_ ?_ ?_ ?_ ?_ ?_ ?_ ?_ ?_ ?_ ?_ ?_ ?_ ?_ ?_ ?_ ?_ ?_ ?_
  all_goals (first | ((first | unfold K53.Na_ | unfold K53.Nz_ | unfold K53.Co_ | unfold K53.Ke_ | unfold K53.Lo_);k_is) | k_is | skip)
