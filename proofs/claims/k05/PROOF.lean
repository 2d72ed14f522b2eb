import PyProof.Rows.All
import Wide.All
import OpenK.AllK
import Wide.FinOn
import Lean
import PyProof.EqAt
import PyProof.EqKinds
import PyProof.TupleCall
import PySem.Challenge.RW_trialfield_k05_determinant
set_option Elab.async false
set_option linter.all false
set_option maxRecDepth 100000
/-! THE HAND LAYER, for ints, bools, texts, own classes, LISTS and tuples (index, slices, in, append, pop ..), calls, loops. Paste it whole ahead of your own text; what your proof does not reach may be deleted. -/
namespace L2
open PySem PySem.Spec PyProof.Rows

/-- a key: an int or a str -/
abbrev Key := Sum Int Str
def keyIs : Key → Value → Bool
  | .inl k, v => Value.isInt k v
  | .inr x, v => Value.isStrOf x v
def keyH (w : World) : Key → Int
  | .inl k => hashInt k
  | .inr x => hashStr w x
theorem keyIs_shape : ∀ {k : Key} {v : Value}, keyIs k v = true → (∃ i t, k = Sum.inl i ∧ v = Value.int i t) ∨ (∃ x t, k = Sum.inr x ∧ v = Value.str x t)
  | .inl i, v, h => by
    obtain ⟨t, e⟩ := Value.isInt_shape (k := i) (v := v) h
    exact .inl ⟨i, t, rfl, e⟩
  | .inr x, v, h => by
    obtain ⟨t, e⟩ := Value.isStrOf_shape (x := x) (v := v) h
    exact .inr ⟨x, t, rfl, e⟩
theorem keyIs_int (i : Int) (t : Tok) : keyIs (.inl i) (.int i t) = true := by simp [keyIs, Value.isInt]
theorem keyIs_str (x : Str) (t : Tok) : keyIs (.inr x) (.str x t) = true := by simp [keyIs, Value.isStrOf]
theorem key_ll (a b : Int) : decide ((Sum.inl a : Key) = Sum.inl b) = (a == b) := by
  by_cases e : a = b
  · subst e; simp
  · have h : ¬ (Sum.inl a : Key) = Sum.inl b := fun q => e (Sum.inl.inj q)
    rw [decide_eq_false h]
    exact (beq_eq_false_iff_ne.mpr e).symm
theorem key_rr (a b : Str) : decide ((Sum.inr a : Key) = Sum.inr b) = decide (a = b) := by
  by_cases e : a = b
  · subst e; simp
  · have h : ¬ (Sum.inr a : Key) = Sum.inr b := fun q => e (Sum.inr.inj q)
    rw [decide_eq_false h, decide_eq_false e]
theorem key_lr (a : Int) (b : Str) : decide ((Sum.inl a : Key) = Sum.inr b) = false := decide_eq_false (fun q => nomatch q)
theorem key_rl (a : Str) (b : Int) : decide ((Sum.inr a : Key) = Sum.inl b) = false := decide_eq_false (fun q => nomatch q)

def mixKind (prog : Program) (w : World) : PySem.KeyKind prog w Key where
  is := keyIs
  hash := keyH w
  inj := fun v a b ha hb => by
    rcases keyIs_shape ha with ⟨i, t, rfl, rfl⟩ | ⟨x, t, rfl, rfl⟩
    · rcases keyIs_shape hb with ⟨j, u, rfl, e⟩ | ⟨y, u, rfl, e⟩
      · injection e with e1 _; rw [e1]
      · exact nomatch e
    · rcases keyIs_shape hb with ⟨j, u, rfl, e⟩ | ⟨y, u, rfl, e⟩
      · exact nomatch e
      · injection e with e1 _; rw [e1]
  byValue := fun k v h => by
    rcases keyIs_shape h with ⟨i, t, rfl, rfl⟩ | ⟨x, t, rfl, rfl⟩ <;> rfl
  pyHash := fun hv h => by
    rcases keyIs_shape hv with ⟨i, t, rfl, rfl⟩ | ⟨x, t, rfl, rfl⟩
    · exact wpAny_pyHash_int h
    · exact wpAny_pyHash_str h
  eqBool := fun hu hv h => by
    rcases keyIs_shape hu with ⟨i, t, rfl, rfl⟩ | ⟨x, t, rfl, rfl⟩
    · rcases keyIs_shape hv with ⟨j, u, rfl, rfl⟩ | ⟨y, u, rfl, rfl⟩
      · rw [key_ll] at h; exact wpAny_eqBool_int h
      · rw [key_lr] at h; exact SeqAt.EqAt.int_str i t y u _ _ _ _ h
    · rcases keyIs_shape hv with ⟨j, u, rfl, rfl⟩ | ⟨y, u, rfl, rfl⟩
      · rw [key_rl] at h; exact SeqAt.EqAt.str_int x t j u _ _ _ _ h
      · rw [key_rr] at h; exact wpAny_eqBool_str h
  «strs» := fun k x t v h => by
    rcases keyIs_shape h with ⟨i, u, rfl, e⟩ | ⟨y, u, rfl, e⟩
    · exact nomatch e
    · injection e with e1 _
      subst e1
      cases v <;> rfl

theorem mixKind_is (prog : Program) (w : World) (k : Key) (v : Value) : (mixKind prog w).is k v = keyIs k v := rfl
theorem mixKind_int (prog : Program) (w : World) (i : Int) (t : Tok) : (mixKind prog w).is (.inl i) (.int i t) = true := keyIs_int i t
theorem mixKind_str (prog : Program) (w : World) (x : Str) (t : Tok) : (mixKind prog w).is (.inr x) (.str x t) = true := keyIs_str x t
end L2

namespace L2
open PySem PySem.Spec PyProof.Rows

/-- a value, without the heap -/
inductive V where
  | non | bl (b : Bool) | int (i : Int) | str (x : Str) | byt (b : Array UInt8) | flt (b : UInt64) | ref (a : Addr) | ty (n : String)
  deriving DecidableEq

def RelV : V → Value → Prop
  | .non, u => u = Value.none
  | .bl b, u => u = Value.bool b
  | .int i, u => ∃ t, u = Value.int i t
  | .str x, u => ∃ t, u = Value.str x t
  | .byt b, u => ∃ t, u = Value.bytes b t
  | .flt b, u => ∃ t, u = Value.float b t
  | .ref a, u => u = Value.ref a
  | .ty n, u => u = Value.type n

abbrev Vals : List V → List Value → Prop := Paired RelV
theorem Vals.length {xs : List V} {us : List Value} (r : Vals xs us) : xs.length = us.length := Paired.length r
theorem Vals.get : ∀ {xs : List V} {us : List Value} {i : Nat} {x : V}, Vals xs us → xs[i]? = some x → ∃ u, us[i]? = some u ∧ RelV x u
  | _, _, _, _, .nil, e => by simp at e
  | _, _, 0, _, .cons r _, e => by simp at e; subst e; exact ⟨_, rfl, r⟩
  | _, _, i + 1, x, .cons _ t, e => by
    obtain ⟨u, h1, h2⟩ := Vals.get (i := i) (x := x) t (by simpa using e)
    exact ⟨u, by simpa using h1, h2⟩
theorem Vals.set {x : V} {u : Value} (r : RelV x u) : ∀ {xs : List V} {us : List Value} (i : Nat), Vals xs us → Vals (xs.set i x) (us.set i u)
  | _, _, _, .nil => .nil
  | _, _, 0, .cons _ t => .cons r t
  | _, _, i + 1, .cons q t => .cons q (Vals.set r i t)
theorem Vals.append : ∀ {xs ys : List V} {us ws : List Value}, Vals xs us → Vals ys ws → Vals (xs ++ ys) (us ++ ws)
  | _, _, _, _, .nil, s => s
  | _, _, _, _, .cons r t, s => .cons r (Vals.append t s)
theorem Vals.take : ∀ {xs : List V} {us : List Value} (n : Nat), Vals xs us → Vals (xs.take n) (us.take n)
  | _, _, 0, _ => .nil
  | _, _, _ + 1, .nil => .nil
  | _, _, n + 1, .cons r t => .cons r (Vals.take n t)
theorem Vals.drop : ∀ {xs : List V} {us : List Value} (n : Nat), Vals xs us → Vals (xs.drop n) (us.drop n)
  | _, _, 0, r => r
  | _, _, _ + 1, .nil => .nil
  | _, _, n + 1, .cons _ t => Vals.drop n t
theorem Vals.none_of : ∀ {xs : List V} {us : List Value} {i : Nat}, Vals xs us → xs[i]? = none → us[i]? = none := fun {xs us i} r e => by
  have h1 := r.length
  have h2 : xs.length ≤ i := List.getElem?_eq_none_iff.mp e
  exact List.getElem?_eq_none_iff.mpr (by omega)

def RelO : Option V → Option Value → Prop
  | some v, some u => RelV v u
  | none, none => True
  | _, _ => False
def KV {κ : Type} : List (κ × V) → List (κ × Value) → Prop := Paired fun (p : κ × V) (q : κ × Value) => p.1 = q.1 ∧ RelV p.2 q.2

/-- a key of a dict (00_mix): an int or a text -/
def kV : Key → V
  | .inl i => .int i
  | .inr x => .str x

/-- what stands at a tracked address -/
inductive HO where
  /-- a list -/
  | lst (xs : List V)
  /-- a tuple (never changes) -/
  | tup (xs : List V)
  /-- a dict whose keys are ints and texts; one whose keys are tuples of ints and texts (the empty one is both) -/
  | dK (kvs : List (Key × V)) | dT (kvs : List (List Key × V))
  /-- a set of ints: its members, its size -/
  | set (S : Int → Bool) (n : Nat)
  /-- an instance of the class at C, its dict at dx, its attributes -/
  | ins (C dx : Addr) (fs : List (Str × V))
  /-- the dict of the instance at x -/
  | own (x : Addr)
  /-- the dict of an exception -/
  | xd (fs : List (Str × V))
  /-- a bound method, f of x -/
  | met (f x : Addr)
  /-- a range object lo, lo + 1, .. below hi -/
  | rng (lo hi : Int)
  /-- a thing that is known to the object (the script; a dict while a loop walks it): read, never written while it is so -/
  | frz (o : Obj) (u : HO)
  /-- a code object's table -/
  | tbl (ps : Array Value)
  /-- any other thing, by what is true of its one object (a def of one's own: SetO a S n := HO.ext fun h => ..) -/
  | ext (φ : Heap → Prop)

abbrev Hp := Addr → Option HO
def upd (H : Hp) (a : Addr) (o : HO) : Hp := fun b => if b = a then some o else H b
theorem upd_same {H : Hp} {a : Addr} {o : HO} : upd H a o a = some o := by unfold upd; rw [if_pos rfl]
theorem upd_ne {H : Hp} {a b : Addr} {o : HO} (h : b ≠ a) : upd H a o b = H b := by unfold upd; rw [if_neg h]
theorem upd_upd {H : Hp} {a : Addr} {o u : HO} : upd (upd H a o) a u = upd H a u := by
  funext b; unfold upd; split <;> rfl
/-- two objects of different content stand apart -/
theorem ne_of {H : Hp} {a b : Addr} {o u : HO} (h : H a = some o) (h' : H b = some u) (d : o ≠ u) : a ≠ b := by
  intro e; subst e; rw [h] at h'; exact d (Option.some.inj h')
theorem ne_of_none {H : Hp} {a b : Addr} {o : HO} (h : H a = some o) (h' : H b = none) : a ≠ b := by
  intro e; subst e; rw [h] at h'; cases h'

section
variable (P : Program) (w : World)
def ObjOk (H : Hp) (h : Heap) (a : Addr) : HO → Prop
  | .lst xs => xs.length ≤ sizeLine ∧ ∃ (its : List Value) (n : Nat), Vals xs its ∧ h.get? a = some { cls := .type "list", data := .seq its.toArray n }
  | .tup xs => xs.length ≤ sizeLine ∧ ∃ its : List Value, Vals xs its ∧ IsTup h a its.toArray
  | .dK kvs => kvs.length ≤ sizeLine ∧ (a == sysModules) = false ∧ ∃ vs, KV kvs vs ∧ h.DictOf (mixKind P w) a vs
  | .dT kvs => kvs.length ≤ sizeLine ∧ (a == sysModules) = false ∧ ∃ xs : List (List Key × Addr × Value),
      Paired (fun (p : List Key × V) (q : List Key × Addr × Value) => p.1 = q.1 ∧ H q.2.1 = some (.tup (p.1.map kV)) ∧ RelV p.2 q.2.2) kvs xs ∧
      ∃ o es ep, h.get? a = some o ∧ o.ExactDict ∧ o.data = .dict es ep ∧ es.toList = xs.map (entryOfKey (tupleKind (mixKind P w))) ∧ (xs.map (·.1)).Nodup
  | .set S n => h.SetOf (intKind P w) a S n
  | .ins C dx fs => H dx = some (.own a) ∧ fs.length ≤ 1000 ∧ dx ≠ a ∧ h.get? a = some (PySem.W.instObj C dx) ∧
      ∃ mA, h.Ns1 dx mA ∧ (∀ f, RelO (fs.lookup f) (mA f)) ∧ PySem.Within mA (fs.map (·.1))
  | .own _ => ∃ o, h.get? a = some o
  | .xd fs => ∃ mA, h.Ns1 a mA ∧ ∀ f, RelO (fs.lookup f) (mA f)
  | .rng lo hi => ∃ t u v, h.get? a = some { cls := .type "range", data := .fields #[.int lo t, .int hi u, .int 1 v] }
  | .frz o u => h.get? a = some o ∧ ObjOk H h a u
  | .tbl ps => h.get? a = some { cls := .none, data := .fields ps }
  | .met f x => h.get? a = some (PySem.W.methodObj (.ref f) (.ref x))
  | .ext φ => φ h ∧ (∃ o, h.get? a = some o) ∧ ∀ h1 h2 : Heap, φ h1 → (∀ o, h1.get? a = some o → h2.get? a = some o) → φ h2
/-- the abstract heap is held -/
def HOk (H : Hp) (h : Heap) : Prop := ∀ a o, H a = some o → ObjOk P w H h a o
end

section
variable {P : Program} {w : World} {H H' : Hp} {h h' : Heap} {a : Addr} {o : HO}
theorem ObjOk.lt (x : ObjOk P w H h a o) : a < h.objs.size := by
  cases o with
  | lst xs => obtain ⟨_, _, _, _, e⟩ := x; exact Heap.lt_size e
  | tup xs => obtain ⟨_, _, _, p⟩ := x; exact p.lt
  | dK kvs => obtain ⟨_, _, _, _, o, _, _, e, _⟩ := x; exact Heap.lt_size e
  | dT kvs => obtain ⟨_, _, _, _, o, _, _, e, _⟩ := x; exact Heap.lt_size e
  | set S n => obtain ⟨o, _, _, _, e, _⟩ := x; exact Heap.lt_size e
  | ins C dx fs => obtain ⟨_, _, _, e, _⟩ := x; exact Heap.lt_size e
  | own y => obtain ⟨_, e⟩ := x; exact Heap.lt_size e
  | xd fs => obtain ⟨_, ⟨_, _, _, e, _⟩, _⟩ := x; exact Heap.lt_size e
  | rng lo hi => obtain ⟨_, _, _, e⟩ := x; exact Heap.lt_size e
  | frz ob u => obtain ⟨e, _⟩ := x; exact Heap.lt_size e
  | tbl ps => exact Heap.lt_size (show h.get? a = some _ from x)
  | met f y => exact Heap.lt_size (show h.get? a = some _ from x)
  | ext φ => obtain ⟨_, ⟨_, e⟩, _⟩ := x; exact Heap.lt_size e
theorem Paired.mapP {α β : Type} {F G : α → β → Prop} : ∀ {l₁ : List α} {l₂ : List β}, Paired F l₁ l₂ → (∀ a b, F a b → G a b) → Paired G l₁ l₂
  | _, _, .nil, _ => .nil
  | _, _, .cons r t, f => .cons (f _ _ r) (Paired.mapP t f)
theorem Paired.imp' {α β : Type} {F G : α → β → Prop} (f : ∀ a b, F a b → G a b) {l₁ : List α} {l₂ : List β} (r : Paired F l₁ l₂) : Paired G l₁ l₂ := Paired.mapP r f
/-- what an object's description leans on: its own object, its own dict, the tuples -/
theorem ObjOk.stay (x : ObjOk P w H h a o) (k : ∀ b u, (b = a ∨ H b = some (.own a)) → h.get? b = some u → h'.get? b = some u)
    (ho : ∀ b, H b = some (.own a) → H' b = some (.own a)) (ht : ∀ b xs, H b = some (.tup xs) → H' b = some (.tup xs)) : ObjOk P w H' h' a o := by
  induction o with
  | lst xs => obtain ⟨z, its, n, r, e⟩ := x; exact ⟨z, its, n, r, k _ _ (.inl rfl) e⟩
  | tup xs => obtain ⟨z, its, r, ob, e, c⟩ := x; exact ⟨z, its, r, ob, k _ _ (.inl rfl) e, c⟩
  | dK kvs => obtain ⟨z, y, vs, r, ob, es, ep, e, c⟩ := x; exact ⟨z, y, vs, r, ob, es, ep, k _ _ (.inl rfl) e, c⟩
  | dT kvs =>
    obtain ⟨z, y, xs, r, ob, es, ep, e, c⟩ := x
    exact ⟨z, y, xs, Paired.mapP r fun p q z => ⟨z.1, ht _ _ z.2.1, z.2.2⟩, ob, es, ep, k _ _ (.inl rfl) e, c⟩
  | set S n => obtain ⟨ob, es, ep, t, e, c⟩ := x; exact ⟨ob, es, ep, t, k _ _ (.inl rfl) e, c⟩
  | ins C dx fs =>
    obtain ⟨d, z, ne, e, mA, ⟨od, es, ep, e2, c⟩, r⟩ := x
    exact ⟨ho _ d, z, ne, k _ _ (.inl rfl) e, mA, ⟨od, es, ep, k _ _ (.inr d) e2, c⟩, r⟩
  | own y => obtain ⟨ob, e⟩ := x; exact ⟨ob, k _ _ (.inl rfl) e⟩
  | xd fs => obtain ⟨mA, ⟨od, es, ep, e, c⟩, r⟩ := x; exact ⟨mA, ⟨od, es, ep, k _ _ (.inl rfl) e, c⟩, r⟩
  | rng lo hi => obtain ⟨t, u, v, e⟩ := x; exact ⟨t, u, v, k _ _ (.inl rfl) e⟩
  | frz ob u ih => obtain ⟨e, q⟩ := x; exact ⟨k _ _ (.inl rfl) e, ih q⟩
  | tbl ps =>
    have e : h.get? a = some { cls := .none, data := .fields ps } := x
    show h'.get? a = some { cls := .none, data := .fields ps }
    exact k a _ (.inl rfl) e
  | met f y =>
    have e : h.get? a = some (PySem.W.methodObj (.ref f) (.ref y)) := x
    show h'.get? a = some (PySem.W.methodObj (.ref f) (.ref y))
    exact k a _ (.inl rfl) e
  | ext φ => obtain ⟨p, ⟨o, e⟩, st⟩ := x; exact ⟨st _ _ p fun o q => k _ _ (.inl rfl) q, ⟨o, k _ _ (.inl rfl) e⟩, st⟩
theorem HOk.lt (x : HOk P w H h) (e : H a = some o) : a < h.objs.size := (x a o e).lt
theorem HOk.fresh (x : HOk P w H h) (e : h.objs.size ≤ a) : H a = none := by
  cases q : H a with
  | none => rfl
  | some u => exact absurd (Nat.lt_of_lt_of_le (x.lt q) e) (Nat.lt_irrefl _)
/-- every object of the heap is kept -/
theorem HOk.kept (x : HOk P w H h) (k : ∀ b u, h.get? b = some u → h'.get? b = some u) : HOk P w H h' := fun a o e =>
  (x a o e).stay (fun b u _ q => k b u q) (fun _ q => q) fun _ _ q => q
/-- a new object is laid and tracked -/
theorem HOk.laid (x : HOk P w H h) (k : ∀ b u, h.get? b = some u → h'.get? b = some u) (hp : h.objs.size ≤ a) (new : ObjOk P w (upd H a o) h' a o) : HOk P w (upd H a o) h' := fun b u e => by
  have hn := x.fresh hp
  by_cases hb : b = a
  · subst hb; rw [upd_same] at e; cases e; exact new
  · rw [upd_ne hb] at e
    exact (x b u e).stay (fun c v _ q => k c v q) (fun c q => by rw [upd_ne (ne_of_none q hn)]; exact q) fun c xs q => by rw [upd_ne (ne_of_none q hn)]; exact q
end

/-- what may be read as u: it is u, or a known u -/
def Rd (H : Hp) (a : Addr) (u : HO) : Prop := H a = some u ∨ ∃ o, H a = some (.frz o u)
theorem Rd.of {H : Hp} {a : Addr} {u : HO} (h : H a = some u) : Rd H a u := .inl h
theorem Rd.ok {P : Program} {w : World} {H : Hp} {h : Heap} {a : Addr} {u : HO} (r : Rd H a u) (x : HOk P w H h) : ObjOk P w H h a u := by
  rcases r with r | ⟨o, r⟩
  · exact x a u r
  · obtain ⟨_, q⟩ := x a _ r
    exact q
/-- what may be written -/
def Mut : Option HO → Prop
  | some (.lst _) => True
  | some (.dK _) => True
  | some (.dT _) => True
  | some (.set _ _) => True
  | some (.ins _ _ _) => True
  | some (.ext _) => True
  | _ => False
section
variable {P : Program} {w : World} {H : Hp} {h h' : Heap} {x e : Addr} {o' : HO}
/-- the object at e is changed: x itself, or the dict of the instance x -/
theorem HOk.write (ok : HOk P w H h) (mu : Mut (H x)) (he : e = x ∨ H e = some (.own x)) (k : ∀ b u, b ≠ e → h.get? b = some u → h'.get? b = some u) (heo : ∃ u, h'.get? e = some u)
    (new : ObjOk P w (upd H x o') h' x o') : HOk P w (upd H x o') h' := fun b u q => by
  have nown : ∀ c y, H c = some (.own y) → c ≠ x := fun c y r z => by subst z; rw [r] at mu; exact mu
  have ntup : ∀ c xs, H c = some (.tup xs) → c ≠ x := fun c xs r z => by subst z; rw [r] at mu; exact mu
  by_cases hb : b = x
  · subst hb; rw [upd_same] at q; cases q; exact new
  · rw [upd_ne hb] at q
    by_cases hbe : b = e
    · have q' : H b = some (.own x) := by
        rcases he with z | z
        · exact absurd (hbe.trans z) hb
        · rw [hbe]; exact z
      rw [q] at q'; cases q'
      obtain ⟨v, hv⟩ := heo
      exact ⟨v, by rw [hbe]; exact hv⟩
    · refine (ok b u q).stay (fun c v hc r => k c v ?_ r) (fun c r => by rw [upd_ne (nown c b r)]; exact r) fun c xs r => by rw [upd_ne (ntup c xs r)]; exact r
      rcases hc with rfl | hc
      · exact hbe
      · rintro rfl
        rcases he with z | z
        · exact nown c b hc z
        · rw [hc] at z; cases z; exact hb rfl
end

/-! ### kept unless tracked; of the frames at fs (the callers') the slots may change (an exception that passes writes there); of the records at ex (iterators) nothing is said -/
structure Un (fs ex : List Addr) (H H' : Hp) (h h' : Heap) : Prop where
  keep : ∀ b o, h.get? b = some o → H b = none → b ∉ fs → b ∉ ex → h'.get? b = some o
  slot : ∀ b o, h.get? b = some o → H b = none → b ∈ fs → b ∉ ex → ∃ sl, h'.get? b = some { o with slots := sl }
  free : ∀ b o, h.get? b = some o → H b = none → b ∉ ex → H' b = none
  there : ∀ b o, h.get? b = some o → b ∉ ex → ∃ o', h'.get? b = some o'
  tups : ∀ b xs, H b = some (.tup xs) → H' b = some (.tup xs)
  frzs : ∀ b o u, H b = some (.frz o u) → H' b = some (.frz o u)
  tbls : ∀ b ps, H b = some (.tbl ps) → ∃ more, H' b = some (.tbl (ps ++ more))
section
variable {fs fs' ex ex' : List Addr} {H H1 H2 : Hp} {h h1 h2 h' : Heap} {a x e : Addr} {o : HO}
theorem Un.any (u : Un fs ex H H1 h h1) {b : Addr} {ob : Obj} (q : h.get? b = some ob) (n : H b = none) (hx : b ∉ ex) : ∃ sl, h1.get? b = some { ob with slots := sl } := by
  by_cases hb : b ∈ fs
  · exact u.slot b ob q n hb hx
  · exact ⟨ob.slots, u.keep b ob q n hb hx⟩
theorem Un.trans (a : Un fs ex H H1 h h1) (b : Un fs ex H1 H2 h1 h2) : Un fs ex H H2 h h2 where
  keep := fun c ob q n hc hx => b.keep c ob (a.keep c ob q n hc hx) (a.free c ob q n hx) hc hx
  slot := fun c ob q n hc hx => by
    obtain ⟨sl, e1⟩ := a.slot c ob q n hc hx
    obtain ⟨sl', e2⟩ := b.slot c _ e1 (a.free c ob q n hx) hc hx
    exact ⟨sl', e2⟩
  free := fun c ob q n hx => by
    obtain ⟨o', e1⟩ := a.there c ob q hx
    exact b.free c o' e1 (a.free c ob q n hx) hx
  there := fun c ob q hx => by
    obtain ⟨o', e1⟩ := a.there c ob q hx
    exact b.there c o' e1 hx
  tups := fun c xs q => b.tups c xs (a.tups c xs q)
  frzs := fun c ob xs q => b.frzs c ob xs (a.frzs c ob xs q)
  tbls := fun c ps q => by
    obtain ⟨m1, e1⟩ := a.tbls c ps q
    obtain ⟨m2, e2⟩ := b.tbls c _ e1
    exact ⟨m1 ++ m2, by rw [e2, Array.append_assoc]⟩
theorem Un.kept (k : ∀ b u, h.get? b = some u → h'.get? b = some u) : Un fs ex H H h h' :=
  ⟨fun b ob q _ _ _ => k b ob q, fun b ob q _ _ _ => ⟨ob.slots, k b ob q⟩, fun _ _ _ n _ => n, fun b ob q _ => ⟨ob, k b ob q⟩, fun _ _ q => q, fun _ _ _ q => q, fun _ ps q => ⟨#[], by rw [q]; simp⟩⟩
theorem Un.refl : Un fs ex H H h h := Un.kept fun _ _ q => q
theorem Un.laid (k : ∀ b u, h.get? b = some u → h'.get? b = some u) (hp : h.objs.size ≤ a) (hn : H a = none) : Un fs ex H (upd H a o) h h' where
  keep := fun b u q _ _ _ => k b u q
  slot := fun b u q _ _ _ => ⟨u.slots, k b u q⟩
  free := fun b u q n _ => by rw [upd_ne (Nat.ne_of_lt (Nat.lt_of_lt_of_le (Heap.lt_size q) hp))]; exact n
  there := fun b u q _ => ⟨u, k b u q⟩
  tups := fun b xs q => by rw [upd_ne (ne_of_none q hn)]; exact q
  frzs := fun b u xs q => by rw [upd_ne (ne_of_none q hn)]; exact q
  tbls := fun b ps q => ⟨#[], by rw [upd_ne (ne_of_none q hn), q]; simp⟩
theorem Un.write (mu : Mut (H x)) (he : e = x ∨ H e = some (.own x)) (k : ∀ b u, b ≠ e → h.get? b = some u → h'.get? b = some u) (heo : ∃ u, h'.get? e = some u) : Un fs ex H (upd H x o) h h' := by
  have hx : ∀ b, H b = none → b ≠ x := fun b n z => by subst z; rw [n] at mu; exact mu
  have hb : ∀ b, H b = none → b ≠ e := fun b n z => by
    subst z
    rcases he with r | r
    · exact hx b n r
    · rw [n] at r; cases r
  have hm : ∀ b u, H b = some u → ¬ Mut (some u) → b ≠ x := fun b u q nm z => by subst z; rw [q] at mu; exact nm mu
  refine ⟨fun b u q n _ _ => k b u (hb b n) q, fun b u q n _ _ => ⟨u.slots, k b u (hb b n) q⟩, fun b u q n _ => by rw [upd_ne (hx b n)]; exact n, fun b u q _ => ?_,
    fun b xs q => by rw [upd_ne (hm b _ q fun z => z)]; exact q, fun b u xs q => by rw [upd_ne (hm b _ q fun z => z)]; exact q, fun b ps q => ⟨#[], by rw [upd_ne (hm b _ q fun z => z), q]; simp⟩⟩
  by_cases hbe : b = e
  · subst hbe; exact heo
  · exact ⟨u, k b u hbe q⟩
theorem Un.mono (u : Un fs ex H H1 h h1) (hs : ∀ b ∈ fs, b ∈ fs') (hx : ∀ b ∈ ex, b ∈ ex') : Un fs' ex' H H1 h h1 :=
  ⟨fun b ob q n hb he => u.keep b ob q n (fun z => hb (hs b z)) fun z => he (hx b z), fun _ _ q n _ he => u.any q n fun z => he (hx _ z), fun b ob q n he => u.free b ob q n fun z => he (hx b z), fun b ob q he => u.there b ob q fun z => he (hx b z), u.tups, u.frzs, u.tbls⟩
end

/-! ### the heap without what is tracked -/
def trk (h : Heap) (H : Hp) : List Addr := (List.range h.objs.size).filter fun a => (H a).isSome
def hidT (h : Heap) (H : Hp) : Heap := PySem.W.hideAll h (trk h H)
theorem hidT_size (h : Heap) (H : Hp) : (hidT h H).objs.size = h.objs.size := PySem.W.hideAll_size _ _
theorem hidT_get {h : Heap} {H : Hp} {b : Addr} {o : Obj} (e : h.get? b = some o) (n : H b = none) : (hidT h H).get? b = some o :=
  PySem.W.hideAll_get _ e fun hm => by
    have q : (H b).isSome = true := (List.mem_filter.mp hm).2
    rw [n] at q; simp at q
theorem of_hidT {h : Heap} {H : Hp} {b : Addr} {o : Obj} (e : (hidT h H).get? b = some o) : h.get? b = some o ∧ H b = none := by
  have e' : h.get? b = some o := PySem.W.of_hideAll (trk h H) e
  refine ⟨e', ?_⟩
  cases q : H b with
  | none => rfl
  | some x =>
    have hm : b ∈ trk h H := List.mem_filter.mpr ⟨List.mem_range.mpr (Heap.lt_size e'), by simp [q]⟩
    have z : (hidT h H).get? b = none := PySem.W.hideAll_none (trk h H) hm
    rw [z] at e; cases e

/-! ### OpenK's ledger, filled with every new object but one -/
def allNews (g h : Heap) (L : Addr) : List (Addr × Obj) := (List.range h.objs.size).filterMap fun a => if a = L ∨ (g.get? a).isSome = true then none else (h.get? a).map fun o => (a, o)
theorem mem_allNews {g h : Heap} {L a : Addr} {o : Obj} (h1 : a ≠ L) (h2 : g.get? a = none) (h3 : h.get? a = some o) : (a, o) ∈ allNews g h L :=
  List.mem_filterMap.mpr ⟨a, List.mem_range.mpr (Heap.lt_size h3), by simp [h1, h2, h3]⟩
theorem of_mem_allNews {g h : Heap} {L : Addr} {p : Addr × Obj} (hp : p ∈ allNews g h L) : p.1 ≠ L ∧ g.get? p.1 = none ∧ h.get? p.1 = some p.2 := by
  obtain ⟨b, _, e⟩ := List.mem_filterMap.mp hp
  split at e
  · cases e
  · rename_i hn
    cases q : h.get? b with
    | none => rw [q] at e; simp at e
    | some u =>
      rw [q] at e
      simp only [Option.map_some, Option.some.injEq] at e
      subst e
      refine ⟨fun z => hn (.inl z), ?_, q⟩
      show g.get? b = none
      cases r : g.get? b with
      | none => rfl
      | some v => exact (hn (.inr (by simp [r]))).elim
def rest (g h : Heap) (L d : Addr) : List (Addr × Obj) := (allNews g h L).filter fun p => decide (p.1 ≠ d)
theorem rest_ne {g h : Heap} {L d : Addr} : ∀ p ∈ rest g h L d, p.1 ≠ d := fun p hp => of_decide_eq_true (List.mem_filter.mp hp).2
theorem mem_rest {g h : Heap} {L d a : Addr} {o : Obj} (h1 : a ≠ L) (h2 : g.get? a = none) (h3 : h.get? a = some o) (h4 : a ≠ d) : (a, o) ∈ rest g h L d :=
  List.mem_filter.mpr ⟨mem_allNews h1 h2 h3, decide_eq_true h4⟩
theorem news_all {g h : Heap} {L : Addr} : News g L h (allNews g h L) := fun p hp => let ⟨a, b, c⟩ := of_mem_allNews hp; ⟨c, a, b⟩
theorem news_at {g h : Heap} {L d : Addr} {o : Obj} (h1 : d ≠ L) (h2 : g.get? d = none) (h3 : h.get? d = some o) : News g L h ((d, o) :: rest g h L d) := fun p hp => by
  rcases List.mem_cons.mp hp with rfl | hp
  · exact ⟨h3, h1, h2⟩
  · exact news_all p (List.mem_filter.mp hp).1
/-- behind a rule that changed d alone: all else but the frame is kept -/
theorem kept_of_news {g h h' : Heap} {L d : Addr} {m : Str → Option Value} (k : ∀ b o, g.get? b = some o → h.get? b = some o) (F : Fr g L h' m) (N : News g L h' (rest g h L d)) :
    ∀ b o, b ≠ L → b ≠ d → h.get? b = some o → h'.get? b = some o := fun b o h1 h2 e => by
  cases q : g.get? b with
  | some u =>
    have := k b u q
    rw [e] at this; cases this
    exact F.keep b _ q
  | none => exact (N (b, o) (mem_rest h1 q e h2)).1
end L2

namespace L2
open PySem PySem.Spec PyProof.Rows

/-- the module's facts, over the base: the heap at the law's entry without what is tracked there -/
structure Mod (K : PySem.W.Frag) (mg : Str → Option Value) (base : Heap) : Prop where
  kin : K.In base
  glob : base.Ns mainGlobals mg
  blt : ∃ mb, base.Ns builtinsNs mb ∧ ∀ x : Str, x ≠ "__name__" → mb x = bootBuiltins x
  nolimit : base.NoLimit

/-- the context: a def's body (or a comprehension's block) running. base: fixed through the whole law; s₀, H₀: the entry; outer: the frames whose slots others may change (a def's callers); stack: all frames that run;
   ex: iterators that were made ahead of the entry and are walked here (a comprehension's); fn: the names whose cells were made at the entry (a def: all; a comprehension's block: its own); calm: not within an except suite; pn: pins that every state bears; xe: what is wanted of an exception that leaves the code -/
structure Cx where
  prog : Program
  w : World
  K : PySem.W.Frag
  mg : Str → Option Value
  base : Heap
  A : Around
  N : List Str
  s₀ : Shared
  H₀ : Hp
  env : Env
  outer : List Env
  stack : List Env
  ex : List Addr
  fn : Str → Bool
  calm : Bool
  pn : List (Addr × Obj)
  xe : Value → Shared → Prop
/-- the callers' frames -/
def frs (l : List Env) : List Addr := l.filterMap (·.frame)
abbrev Cx.fs (X : Cx) : List Addr := frs X.outer

def Vis (sc : Scope) (x : Str) : Prop := sc.names.lookup x = some .local ∨ sc.names.lookup x = some .cell ∨ sc.names.lookup x = some .free
def Loc (sc : Scope) (x : Str) : Prop := sc.names.lookup x = some .local ∨ sc.names.lookup x = some .cell
def Look (env : Env) (h : Heap) (m : Str → Option Value) (x : Str) (u : Value) : Prop :=
  (env.kindOf x = some .local ∧ m x = some u) ∨ ((env.kindOf x = some .cell ∨ env.kindOf x = some .free) ∧ ∃ c, env.cells.lookup x = some c ∧ h.IsCell c (some u))

structure Cx.Ok (X : Cx) : Prop where
  mod : Mod X.K X.mg X.base
  kind : X.env.scope.kind = .function
  glob : X.env.globals = mainGlobals
  blt : X.env.builtins = builtinsNs
  above : X.s₀.heap.objs.size ≤ X.env.locals
  inj : ∀ x y c, X.env.cells.lookup x = some c → X.env.cells.lookup y = some c → x = y
  has : ∀ x, (X.env.kindOf x = some .cell ∨ X.env.kindOf x = some .free) → ∃ c, X.env.cells.lookup x = some c
  cab : ∀ x c, X.fn x = true → X.env.cells.lookup x = some c → X.s₀.heap.objs.size ≤ c
  hd : X.calm = true → X.A.handled = none
  frames : X.A.frames = some X.stack
  stk : X.stack = X.outer ∨ (X.stack = X.env :: X.outer ∧ X.env.frame = some X.env.locals)
  exf : ∀ b ∈ X.ex, b ≠ X.env.locals ∧ ∀ x c, X.env.cells.lookup x = some c → c ≠ b
  bs : ∀ b o, X.base.get? b = some o → X.s₀.heap.get? b = some o ∧ X.H₀ b = none
  bsz : X.base.objs.size ≤ X.s₀.heap.objs.size
  noex : ∀ b o, X.base.get? b = some o → b ∉ X.ex
  exfs : ∀ b ∈ X.ex, b ∉ X.fs
  funs : X.s₀.heap.FunFrames X.base X.outer
  frf : ∀ b ∈ X.fs, X.H₀ b = none

structure Inv (X : Cx) (pins : List (Addr × Obj)) (σ : List (Option V)) (H : Hp) (s : Shared) : Prop where
  ok : X.Ok
  os : s.os = X.s₀.os
  bare : AllBare s.gens
  base : Un X.fs X.ex X.H₀ H X.s₀.heap s.heap
  loc : ∃ m, s.heap.Ns X.env.locals m ∧ ∀ (i : Nat) (x : Str) (v : V), X.N[i]? = some x → σ[i]? = some (some v) → Vis X.env.scope x → ∃ u, RelV v u ∧ Look X.env s.heap m x u
  cell : ∀ x c, X.env.cells.lookup x = some c → ∃ v, s.heap.IsCell c v
  free : H X.env.locals = none
  freeC : ∀ x c, X.env.cells.lookup x = some c → H c = none
  pin : ∀ p ∈ X.pn ++ pins, s.heap.get? p.1 = some p.2 ∧ H p.1 = none ∧ p.1 ≠ X.env.locals ∧ p.1 ∉ X.fs ∧ ∀ v, p.2.data ≠ .cell v
  hok : HOk X.prog X.w H s.heap
  len : σ.length = X.N.length

section
variable {X : Cx} {pins : List (Addr × Obj)} {σ : List (Option V)} {H H' : Hp} {s : Shared} {h' : Heap}

theorem Cx.Ok.nofr (ok : X.Ok) {b : Addr} {o : Obj} (e : X.base.get? b = some o) : b ∉ X.fs := fun hb => by
  have := (ok.funs.mem hb).1
  rw [e] at this; cases this
theorem Inv.bs (I : Inv X pins σ H s) : ∀ b o, X.base.get? b = some o → s.heap.get? b = some o ∧ H b = none := fun b o e =>
  ⟨I.base.keep b o (I.ok.bs b o e).1 (I.ok.bs b o e).2 (I.ok.nofr e) (I.ok.noex b o e), I.base.free b o (I.ok.bs b o e).1 (I.ok.bs b o e).2 (I.ok.noex b o e)⟩
theorem Inv.bk (I : Inv X pins σ H s) : ∀ b o, X.base.get? b = some o → s.heap.get? b = some o := fun b o e => (I.bs b o e).1
theorem Inv.mod (I : Inv X pins σ H s) : Mod X.K X.mg X.base := I.ok.mod
theorem Inv.kIn (I : Inv X pins σ H s) : X.K.In s.heap := I.ok.mod.kin.keeps I.bk
theorem Inv.nolimit (I : Inv X pins σ H s) : s.heap.NoLimit := I.ok.mod.nolimit.keeps I.bk
/-- the frame over the base: for OpenK's rules (K.In X.base is I.mod.kin) -/
theorem Inv.fr (I : Inv X pins σ H s) : ∃ m, Fr X.base X.env.locals s.heap m :=
  let ⟨m, hn, _⟩ := I.loc
  ⟨m, hn, I.bk, Nat.le_trans I.ok.bsz I.ok.above⟩
theorem Inv.lt (I : Inv X pins σ H s) : X.env.locals < s.heap.objs.size := let ⟨_, hn, _⟩ := I.loc; hn.lt
theorem Inv.sz (I : Inv X pins σ H s) : X.s₀.heap.objs.size ≤ s.heap.objs.size := Nat.le_trans I.ok.above (Nat.le_of_lt I.lt)
theorem Inv.nofs (I : Inv X pins σ H s) {a : Addr} (h : s.heap.objs.size ≤ a) : a ∉ X.fs := fun hb => by
  obtain ⟨_, o, ho, _⟩ := I.ok.funs.mem hb
  exact absurd (Nat.lt_of_lt_of_le (Heap.lt_size ho) (Nat.le_trans I.sz h)) (Nat.lt_irrefl _)
theorem Inv.cne (I : Inv X pins σ H s) : ∀ x c, X.env.cells.lookup x = some c → c ≠ X.env.locals := fun x c e z => by
  obtain ⟨v, o, ho, hd⟩ := I.cell x c e
  obtain ⟨m, ⟨o', es, ep, ho', hd', _⟩, _⟩ := I.loc
  rw [z, ho'] at ho; cases ho; rw [hd'] at hd; cases hd
theorem Inv.funs (I : Inv X pins σ H s) : s.heap.FunFrames X.base X.outer := by
  have all : ∀ (l : List Env), (∀ b ∈ frs l, b ∈ X.fs) → X.s₀.heap.FunFrames X.base l → s.heap.FunFrames X.base l := by
    intro l
    induction l with
    | nil => intro _ _; trivial
    | cons env r ih =>
      intro hs hl
      obtain ⟨hk, ⟨L, o, hf, hn, ho, hd⟩, hr⟩ := hl
      have hL : L ∈ X.fs := hs L (by unfold frs; rw [List.filterMap_cons, hf]; exact List.mem_cons_self)
      obtain ⟨sl, e⟩ := I.base.slot L o ho (I.ok.frf L hL) hL fun z => I.ok.exfs L z hL
      exact ⟨hk, ⟨L, _, hf, hn, e, hd⟩, ih (fun b hb => hs b (by unfold frs; rw [List.filterMap_cons, hf]; exact List.mem_cons_of_mem _ hb)) hr⟩
  exact all X.outer (fun _ hb => hb) I.ok.funs

/-- the frames that run, for a call -/
theorem Inv.stack (I : Inv X pins σ H s) : s.heap.FunFrames X.base X.stack := by
  rcases I.ok.stk with e | ⟨e, hf⟩
  · rw [e]; exact I.funs
  · rw [e]
    obtain ⟨m, hn, _⟩ := I.loc
    refine .cons (by rw [I.ok.kind]; decide) hf hn ?_ I.funs
    exact Heap.get?_none_of_le (Nat.le_trans I.ok.bsz I.ok.above)
theorem Inv.stkSub (I : Inv X pins σ H s) : ∀ b ∈ frs X.stack, b ∈ X.env.locals :: X.fs := fun b hb => by
  rcases I.ok.stk with e | ⟨e, hf⟩
  · rw [e] at hb; exact List.mem_cons_of_mem _ hb
  · rw [e] at hb
    unfold frs at hb
    rw [List.filterMap_cons, hf] at hb
    exact hb
theorem Inv.stkFree (I : Inv X pins σ H s) : ∀ b ∈ frs X.stack, H b = none := fun b hb => by
  rcases List.mem_cons.mp (I.stkSub b hb) with e | hb
  · rw [e]; exact I.free
  · obtain ⟨_, o, ho, _⟩ := I.ok.funs.mem hb
    exact I.base.free b o ho (I.ok.frf b hb) fun z => I.ok.exfs b z hb

/-- THE STEP: the untracked objects but the frame and the records at ch are kept (the callers' frames up to slots), the frame's map is kept, the new abstract heap is held -/
theorem Inv.step {g' : Array GenState} {t' : Nat} {d' : Drawn} {ch : List Addr} (I : Inv X pins σ H s)
    (hch : ∀ b ∈ ch, (b ∈ X.ex ∨ X.s₀.heap.objs.size ≤ b) ∧ b ≠ X.env.locals ∧ (∀ x c, X.env.cells.lookup x = some c → c ≠ b) ∧ ∀ p ∈ X.pn ++ pins, p.1 ≠ b)
    (keep : ∀ b o, b ≠ X.env.locals → b ∉ X.fs → b ∉ ch → s.heap.get? b = some o → H b = none → h'.get? b = some o)
    (slot : ∀ b o, b ≠ X.env.locals → b ∈ X.fs → b ∉ ch → s.heap.get? b = some o → H b = none → ∃ sl, h'.get? b = some { o with slots := sl }) (free : ∀ b o, b ∉ ch → s.heap.get? b = some o → H b = none → H' b = none)
    (there : ∀ b o, b ∉ ch → s.heap.get? b = some o → ∃ o', h'.get? b = some o')
    (tups : ∀ b xs, H b = some (.tup xs) → H' b = some (.tup xs)) (frzs : ∀ b o u, H b = some (.frz o u) → H' b = some (.frz o u)) (tbls : ∀ b ps, H b = some (.tbl ps) → ∃ more, H' b = some (.tbl (ps ++ more)))
    (ns : ∀ m, s.heap.Ns X.env.locals m → h'.Ns X.env.locals m) (hok : HOk X.prog X.w H' h') (hg : AllBare g') :
    Inv X pins σ H' { s with heap := h', gens := g', drawn := d', toks := t' } := by
  have neL : ∀ b o, X.s₀.heap.get? b = some o → b ≠ X.env.locals := fun b o e => Nat.ne_of_lt (Nat.lt_of_lt_of_le (Heap.lt_size e) I.ok.above)
  have neC : ∀ b o, X.s₀.heap.get? b = some o → b ∉ X.ex → b ∉ ch := fun b o e hx hb => by
    rcases (hch b hb).1 with z | z
    · exact hx z
    · exact absurd (Nat.lt_of_lt_of_le (Heap.lt_size e) z) (Nat.lt_irrefl _)
  have cellK : ∀ x c, X.env.cells.lookup x = some c → ∀ v, s.heap.IsCell c v → h'.IsCell c v := fun x c e v ⟨o, ho, hd⟩ => by
    have nch : c ∉ ch := fun z => (hch c z).2.2.1 x c e rfl
    by_cases hc : c ∈ X.fs
    · obtain ⟨sl, q⟩ := slot c o (I.cne x c e) hc nch ho (I.freeC x c e)
      exact ⟨_, q, hd⟩
    · exact ⟨o, keep c o (I.cne x c e) hc nch ho (I.freeC x c e), hd⟩
  refine ⟨I.ok, I.os, hg, ⟨fun b o e n hb hx => ?_, fun b o e n hb hx => ?_, fun b o e n hx => ?_, fun b o e hx => ?_, fun b xs e => tups b xs (I.base.tups b xs e), fun b o xs e => frzs b o xs (I.base.frzs b o xs e), fun b ps e => ?_⟩, ?_, fun x c e => ?_, ?_, fun x c e => ?_, fun p hp => ?_, hok, I.len⟩
  · exact keep b o (neL b o e) hb (neC b o e hx) (I.base.keep b o e n hb hx) (I.base.free b o e n hx)
  · obtain ⟨sl, e1⟩ := I.base.slot b o e n hb hx
    obtain ⟨sl', e2⟩ := slot b _ (neL b o e) hb (neC b o e hx) e1 (I.base.free b o e n hx)
    exact ⟨sl', e2⟩
  · obtain ⟨o', e1⟩ := I.base.there b o e hx
    exact free b o' (neC b o e hx) e1 (I.base.free b o e n hx)
  · obtain ⟨o', e1⟩ := I.base.there b o e hx
    exact there b o' (neC b o e hx) e1
  · obtain ⟨m1, e1⟩ := I.base.tbls b ps e
    obtain ⟨m2, e2⟩ := tbls b _ e1
    exact ⟨m1 ++ m2, by rw [e2, Array.append_assoc]⟩
  · obtain ⟨m, hn, hl⟩ := I.loc
    refine ⟨m, ns m hn, fun i x v e1 e2 e3 => ?_⟩
    obtain ⟨u, r, l⟩ := hl i x v e1 e2 e3
    refine ⟨u, r, ?_⟩
    rcases l with l | ⟨k, c, e, z⟩
    · exact .inl l
    · exact .inr ⟨k, c, e, cellK x c e _ z⟩
  · obtain ⟨v, z⟩ := I.cell x c e
    exact ⟨v, cellK x c e v z⟩
  · obtain ⟨m, ⟨o, _, _, ho, _⟩, _⟩ := I.loc
    exact free _ o (fun z => (hch _ z).2.1 rfl) ho I.free
  · obtain ⟨v, o, ho, hd⟩ := I.cell x c e
    exact free c o (fun z => (hch c z).2.2.1 x c e rfl) ho (I.freeC x c e)
  · obtain ⟨e, n, ne, nf, d⟩ := I.pin p hp
    have nch : p.1 ∉ ch := fun z => (hch p.1 z).2.2.2 p hp rfl
    exact ⟨keep p.1 p.2 ne nf nch e n, free p.1 p.2 nch e n, ne, nf, d⟩
/-- .. where the frame's own object is kept too -/
theorem Inv.un {t' : Nat} (I : Inv X pins σ H s) (u : Un X.fs [] H H' s.heap h') (hok : HOk X.prog X.w H' h') : Inv X pins σ H' { s with heap := h', toks := t' } := by
  obtain ⟨m, ⟨o, es, ep, ho, r⟩, _⟩ := id I.loc
  obtain ⟨sl, hL⟩ := u.any ho I.free (by simp)
  exact I.step (g' := s.gens) (d' := s.drawn) (ch := []) (fun _ z => nomatch z) (fun b o _ hb _ e n => u.keep b o e n hb (by simp)) (fun b o _ hb _ e n => u.slot b o e n hb (by simp)) (fun b o _ e n => u.free b o e n (by simp)) (fun b o _ e => u.there b o e (by simp)) u.tups u.frzs u.tbls (fun m' hm => by
    obtain ⟨o', es', ep', ho', r'⟩ := hm
    rw [ho] at ho'; cases ho'
    exact ⟨_, es', ep', hL, r'⟩) hok I.bare
/-- behind a call (or a comprehension's block): the slots of this frame may have changed too, the records at ch may have turned -/
theorem Inv.call {g' : Array GenState} {t' : Nat} {d' : Drawn} {ch : List Addr} (I : Inv X pins σ H s) (u : Un (frs X.stack) ch H H' s.heap h') (hok : HOk X.prog X.w H' h') (hg : AllBare g')
    (hch : ∀ b ∈ ch, (b ∈ X.ex ∨ X.s₀.heap.objs.size ≤ b) ∧ b ≠ X.env.locals ∧ (∀ x c, X.env.cells.lookup x = some c → c ≠ b) ∧ ∀ p ∈ X.pn ++ pins, p.1 ≠ b) :
    Inv X pins σ H' { s with heap := h', gens := g', drawn := d', toks := t' } := by
  obtain ⟨m, ⟨o, es, ep, ho, r⟩, _⟩ := id I.loc
  obtain ⟨sl, hL⟩ := u.any ho I.free fun z => (hch _ z).2.1 rfl
  exact I.step (ch := ch) hch (fun b o hL hb hc e n => u.keep b o e n (fun z => (List.mem_cons.mp (I.stkSub b z)).elim hL hb) hc) (fun b o _ _ hc e n => u.any e n hc) (fun b o hc e n => u.free b o e n hc) (fun b o hc e => u.there b o e hc) u.tups u.frzs u.tbls (fun m' hm => by
    obtain ⟨o', es', ep', ho', r'⟩ := hm
    rw [ho] at ho'; cases ho'
    exact ⟨_, es', ep', hL, r'⟩) hok hg
/-- an untracked record of ours (an iterator) has turned -/
theorem Inv.turned {t' : Nat} {it : Addr} (I : Inv X pins σ H s) (k : ∀ b o, b ≠ it → s.heap.get? b = some o → h'.get? b = some o) (hn : H it = none) (hL : it ≠ X.env.locals)
    (h1 : it ∈ X.ex ∨ X.s₀.heap.objs.size ≤ it) (h2 : ∀ x c, X.env.cells.lookup x = some c → c ≠ it) (h3 : ∀ p ∈ X.pn ++ pins, p.1 ≠ it) : Inv X pins σ H { s with heap := h', toks := t' } := by
  have nit : ∀ b u, H b = some u → b ≠ it := fun b u e z => by rw [z, hn] at e; cases e
  refine I.step (g' := s.gens) (d' := s.drawn) (ch := [it]) (fun b hb => ?_) (fun b o _ _ hc e _ => k b o (fun z => hc (by simp [z])) e) (fun b o _ _ hc e _ => ⟨o.slots, k b o (fun z => hc (by simp [z])) e⟩) (fun _ _ _ _ n => n)
    (fun b o hc e => ⟨o, k b o (fun z => hc (by simp [z])) e⟩) (fun _ _ e => e) (fun _ _ _ e => e) (fun b ps e => ⟨#[], by rw [e]; simp⟩) (fun m hm => ?_) (fun b u e => ?_) I.bare
  · have e : b = it := by simpa using hb
    subst e
    exact ⟨h1, hL, h2, h3⟩
  · obtain ⟨o, es, ep, ho, r⟩ := hm
    exact ⟨o, es, ep, k _ o (Ne.symm hL) ho, r⟩
  · refine (I.hok b u e).stay (fun c v hc q => k c v ?_ q) (fun _ q => q) fun _ _ q => q
    rcases hc with z | z
    · rw [z]; exact nit b u e
    · exact nit c _ z
theorem Inv.tok (I : Inv X pins σ H s) (t : Nat) : Inv X pins σ H { s with toks := t } := I.un (h' := s.heap) (t' := t) Un.refl I.hok
/-- all objects kept -/
theorem Inv.kept {t' : Nat} (I : Inv X pins σ H s) (k : ∀ b u, s.heap.get? b = some u → h'.get? b = some u) : Inv X pins σ H { s with heap := h', toks := t' } := I.un (Un.kept k) (I.hok.kept k)
/-- a new object laid and tracked -/
theorem Inv.laid {a : Addr} {o : HO} {t' : Nat} (I : Inv X pins σ H s) (k : ∀ b u, s.heap.get? b = some u → h'.get? b = some u) (hp : s.heap.objs.size ≤ a) (new : ObjOk X.prog X.w (upd H a o) h' a o) :
    Inv X pins σ (upd H a o) { s with heap := h', toks := t' } := I.un (Un.laid k hp (I.hok.fresh hp)) (I.hok.laid k hp new)
/-- an object written -/
theorem Inv.write {x e : Addr} {o : HO} {t' : Nat} (I : Inv X pins σ H s) (mu : Mut (H x)) (he : e = x ∨ H e = some (.own x)) (k : ∀ b u, b ≠ e → s.heap.get? b = some u → h'.get? b = some u) (heo : ∃ u, h'.get? e = some u)
    (new : ObjOk X.prog X.w (upd H x o) h' x o) : Inv X pins σ (upd H x o) { s with heap := h', toks := t' } := I.un (Un.write mu he k heo) (I.hok.write mu he k heo new)
/-- forgetting slots, pins -/
theorem Inv.weak {σ' : List (Option V)} (I : Inv X pins σ H s) (hl : σ'.length = σ.length) (w : ∀ (i : Nat) v, σ'[i]? = some (some v) → σ[i]? = some (some v)) : Inv X pins σ' H s :=
  ⟨I.ok, I.os, I.bare, I.base, let ⟨m, hn, hl'⟩ := I.loc; ⟨m, hn, fun i x v e1 e2 e3 => hl' i x v e1 (w i v e2) e3⟩, I.cell, I.free, I.freeC, I.pin, I.hok, hl.trans I.len⟩
theorem Inv.pins_of {pins' : List (Addr × Obj)} (I : Inv X pins σ H s) (h : ∀ p ∈ pins', s.heap.get? p.1 = some p.2 ∧ H p.1 = none ∧ p.1 ≠ X.env.locals ∧ p.1 ∉ X.fs ∧ ∀ v, p.2.data ≠ .cell v) : Inv X pins' σ H s :=
  ⟨I.ok, I.os, I.bare, I.base, I.loc, I.cell, I.free, I.freeC, fun p hp => (List.mem_append.mp hp).elim (fun z => I.pin p (List.mem_append_left _ z)) (h p), I.hok, I.len⟩

theorem nodup_ix {N : List Str} (hN : N.Nodup) {i j : Nat} {x : Str} (a : N[i]? = some x) (b : N[j]? = some x) : i = j := by
  obtain ⟨h1, e1⟩ := List.getElem?_eq_some_iff.mp a
  obtain ⟨h2, e2⟩ := List.getElem?_eq_some_iff.mp b
  exact (List.getElem_inj hN).mp (e1.trans e2.symm)

/-- a name is stored; what changed -/
theorem store_ok2 {M : Model} {A : Around} {E : Value → Shared → Prop} {i : Nat} {x : Str} {v : V} {u : Value} {Q : Unit → Shared → Prop} (I : Inv X pins σ H s) (hN : X.N.Nodup) (hi : X.N[i]? = some x) (hx : Loc X.env.scope x) (r : RelV v u)
    (h : ∀ s', Inv X pins (σ.set i (some v)) H s' → (∃ a, Heap.SameBut a s.heap s'.heap ∧ (a = X.env.locals ∨ X.env.cells.lookup x = some a)) → Q () s') (hf : X.fn x = true ∨ X.env.scope.names.lookup x = some .local := by first | exact .inl rfl | exact .inr rfl | assumption) : wpAny M A (storeName X.env x u) Q E s := by
  obtain ⟨m, hn, hl⟩ := id I.loc
  have hcls : (X.env.scope.kind == .class || (X.env.scope.kind == .module && X.env.locals != X.env.globals)) = false := by rw [I.ok.kind]; rfl
  have hiσ : i < σ.length := by rw [I.len]; exact (List.getElem?_eq_some_iff.mp hi).1
  have cne := I.cne
  have tracked : ∀ {a : Addr} {h' : Heap}, (∃ o, s.heap.get? a = some o ∧ H a = none) → Heap.SameBut a s.heap h' → HOk X.prog X.w H h' := fun {a h'} ha hs b ob e => by
    obtain ⟨_, _, hfree⟩ := ha
    refine (I.hok b ob e).stay (fun c w' hc q => (hs.2 c ?_).trans q) (fun _ q => q) fun _ _ q => q
    rintro rfl
    rcases hc with rfl | hc
    · rw [hfree] at e; cases e
    · rw [hfree] at hc; cases hc
  rcases hx with hk | hk
  · refine wpAny_storeName_local hk hn (fun h' hn' hs => ?_) hcls
    obtain ⟨oL, _, _, hoL, _⟩ := id hn
    refine h _ ⟨I.ok, I.os, I.bare, ⟨fun b o e n hb hx => ?_, fun b o e n hb hx => ?_, I.base.free, fun b o e hx => ?_, I.base.tups, I.base.frzs, I.base.tbls⟩, ⟨_, hn', fun j y v' e1 e2 e3 => ?_⟩, fun y c e => ?_, I.free, I.freeC, fun p hp => ?_, tracked ⟨oL, hoL, I.free⟩ hs, by simpa using I.len⟩ ⟨_, hs, .inl rfl⟩
    · exact (hs.2 b (Nat.ne_of_lt (Nat.lt_of_lt_of_le (Heap.lt_size e) I.ok.above))).trans (I.base.keep b o e n hb hx)
    · obtain ⟨sl, e1⟩ := I.base.slot b o e n hb hx
      exact ⟨sl, (hs.2 b (Nat.ne_of_lt (Nat.lt_of_lt_of_le (Heap.lt_size e) I.ok.above))).trans e1⟩
    · obtain ⟨o', e1⟩ := I.base.there b o e hx
      exact ⟨o', (hs.2 b (Nat.ne_of_lt (Nat.lt_of_lt_of_le (Heap.lt_size e) I.ok.above))).trans e1⟩
    · by_cases hj : j = i
      · subst hj
        rw [hi] at e1; cases e1
        rw [List.getElem?_set_self hiσ] at e2
        cases e2
        exact ⟨u, r, .inl ⟨hk, by simp⟩⟩
      · rw [List.getElem?_set_ne (Ne.symm hj)] at e2
        obtain ⟨u', r', q⟩ := hl j y v' e1 e2 e3
        refine ⟨u', r', ?_⟩
        rcases q with ⟨k, e⟩ | ⟨k, c, e, z⟩
        · refine .inl ⟨k, ?_⟩
          have : y ≠ x := fun e => hj (nodup_ix hN e1 (e ▸ hi))
          simp [this, e]
        · exact .inr ⟨k, c, e, z.sameBut hs (cne y c e)⟩
    · obtain ⟨w', z⟩ := I.cell y c e
      exact ⟨w', z.sameBut hs (cne y c e)⟩
    · obtain ⟨e, n, ne, nf, d⟩ := I.pin p hp
      exact ⟨(hs.2 p.1 ne).trans e, n, ne, nf, d⟩
  · have hfn : X.fn x = true := by
      rcases hf with z | z
      · exact z
      · rw [z] at hk; cases hk
    obtain ⟨c, hc⟩ := I.ok.has x (.inl hk)
    obtain ⟨w', z⟩ := I.cell x c hc
    refine wpAny_storeName_cell I.ok.kind hk hc z (fun h' hc' hs => ?_)
    obtain ⟨oc, hoc, hocd⟩ := id z
    refine h { s with heap := h' } ⟨I.ok, I.os, I.bare, ⟨fun b o e n hb hx => ?_, fun b o e n hb hx => ?_, I.base.free, fun b o e hx => ?_, I.base.tups, I.base.frzs, I.base.tbls⟩, ⟨m, hn.sameBut hs (Ne.symm (cne x c hc)), fun j y v' e1 e2 e3 => ?_⟩, fun y c' e => ?_, I.free, I.freeC, fun p hp => ?_, tracked ⟨oc, hoc, I.freeC x c hc⟩ hs, by simpa using I.len⟩ ⟨c, hs, .inr hc⟩
    · exact (hs.2 b (Nat.ne_of_lt (Nat.lt_of_lt_of_le (Heap.lt_size e) (I.ok.cab x c hfn hc)))).trans (I.base.keep b o e n hb hx)
    · obtain ⟨sl, e1⟩ := I.base.slot b o e n hb hx
      exact ⟨sl, (hs.2 b (Nat.ne_of_lt (Nat.lt_of_lt_of_le (Heap.lt_size e) (I.ok.cab x c hfn hc)))).trans e1⟩
    · obtain ⟨o', e1⟩ := I.base.there b o e hx
      exact ⟨o', (hs.2 b (Nat.ne_of_lt (Nat.lt_of_lt_of_le (Heap.lt_size e) (I.ok.cab x c hfn hc)))).trans e1⟩
    · by_cases hj : j = i
      · subst hj
        rw [hi] at e1; cases e1
        rw [List.getElem?_set_self hiσ] at e2
        cases e2
        exact ⟨u, r, .inr ⟨.inl hk, c, hc, hc'⟩⟩
      · rw [List.getElem?_set_ne (Ne.symm hj)] at e2
        obtain ⟨u', r', q⟩ := hl j y v' e1 e2 e3
        refine ⟨u', r', ?_⟩
        rcases q with q | ⟨k, c', e, z'⟩
        · exact .inl q
        · refine .inr ⟨k, c', e, z'.sameBut hs ?_⟩
          rintro rfl
          exact hj (nodup_ix hN e1 (I.ok.inj _ _ _ e hc ▸ hi))
    · by_cases hcc : c' = c
      · subst hcc; exact ⟨_, hc'⟩
      · obtain ⟨w2, z2⟩ := I.cell y c' e
        exact ⟨w2, z2.sameBut hs hcc⟩
    · obtain ⟨e, n, ne, nf, d⟩ := I.pin p hp
      refine ⟨(hs.2 p.1 ?_).trans e, n, ne, nf, d⟩
      intro q
      rw [q, hoc] at e
      have q' : oc = p.2 := Option.some.inj e
      exact d w' (by rw [← q']; exact hocd)
theorem store_ok {M : Model} {A : Around} {E : Value → Shared → Prop} {i : Nat} {x : Str} {v : V} {u : Value} {Q : Unit → Shared → Prop} (I : Inv X pins σ H s) (hN : X.N.Nodup) (hi : X.N[i]? = some x) (hx : Loc X.env.scope x) (r : RelV v u)
    (h : ∀ s', Inv X pins (σ.set i (some v)) H s' → Q () s') (hf : X.fn x = true ∨ X.env.scope.names.lookup x = some .local := by first | exact .inl rfl | exact .inr rfl | assumption) : wpAny M A (storeName X.env x u) Q E s :=
  store_ok2 I hN hi hx r (fun s' I' _ => h s' I') hf
/-- behind a call or a block, the state as it is -/
theorem Inv.call' {s' : Shared} {ch : List Addr} (I : Inv X pins σ H s) (ho : s'.os = s.os) (u : Un (frs X.stack) ch H H' s.heap s'.heap) (hok : HOk X.prog X.w H' s'.heap) (hg : AllBare s'.gens)
    (hch : ∀ b ∈ ch, (b ∈ X.ex ∨ X.s₀.heap.objs.size ≤ b) ∧ b ≠ X.env.locals ∧ (∀ x c, X.env.cells.lookup x = some c → c ≠ b) ∧ ∀ p ∈ X.pn ++ pins, p.1 ≠ b) : Inv X pins σ H' s' := by
  obtain ⟨h', g', d', t', o'⟩ := s'
  have e : o' = s.os := ho
  subst e
  exact I.call (g' := g') (t' := t') (d' := d') u hok hg hch
end

/-! ### the judgements -/
/-- an exception: its class, its own dict's address (where it has one), the abstract heap behind it -/
abbrev XK := Value → Option Addr → Hp → Prop
abbrev St := List (Option V)
abbrev VK := V → Hp → Prop
/-- an expression's reading; a test's; an argument list's -/
abbrev TE := St → Hp → VK → Prop
abbrev TT := St → Hp → (Bool → Hp → Prop) → Prop
abbrev TA := St → Hp → (List V → Hp → Prop) → Prop
/-- what is wanted behind a statement -/
structure Ends where
  nx : St → Hp → Prop
  rt : VK
  bk : St → Hp → Prop := fun _ _ => False
  ct : St → Hp → Prop := fun _ _ => False
abbrev TS := Ends → St → Hp → Prop

def EP (X : Cx) (pins : List (Addr × Obj)) (σ : St) (Q : VK) (u : Value) (s' : Shared) : Prop := ∃ v H', Inv X pins σ H' s' ∧ RelV v u ∧ Q v H'
def TP (X : Cx) (pins : List (Addr × Obj)) (σ : St) (Q : Bool → Hp → Prop) (b : Bool) (s' : Shared) : Prop := ∃ H', Inv X pins σ H' s' ∧ Q b H'
def AP (X : Cx) (pins : List (Addr × Obj)) (σ : St) (Q : List V → Hp → Prop) (us : List Value) (s' : Shared) : Prop := ∃ vs H', Inv X pins σ H' s' ∧ Vals vs us ∧ Q vs H'
def SP (X : Cx) (pins : List (Addr × Obj)) (D : Ends) (f : Flow) (s' : Shared) : Prop :=
  match f with
  | .next => ∃ σ' H', Inv X pins σ' H' s' ∧ D.nx σ' H'
  | .brk => ∃ σ' H', Inv X pins σ' H' s' ∧ D.bk σ' H'
  | .cont => ∃ σ' H', Inv X pins σ' H' s' ∧ D.ct σ' H'
  | .ret u => ∃ v σ' H', Inv X pins σ' H' s' ∧ RelV v u ∧ D.rt v H'

def PE (X : Cx) (e : Expr) (t : TE) : Prop :=
  ∀ (pins : List (Addr × Obj)) (s : Shared) (σ : St) (H : Hp) (Q : VK), Inv X pins σ H s → t σ H Q → wpAny (model X.prog X.w) X.A (eval e X.env) (EP X pins σ Q) X.xe s
def PT (X : Cx) (e : Expr) (t : TT) : Prop :=
  ∀ (pins : List (Addr × Obj)) (s : Shared) (σ : St) (H : Hp) (Q : Bool → Hp → Prop), Inv X pins σ H s → t σ H Q → wpAny (model X.prog X.w) X.A (isTrue e X.env (eval e X.env)) (TP X pins σ Q) X.xe s
/-- a test whatever its 'whole' is (and, or) -/
def PW (X : Cx) (e : Expr) (t : TT) : Prop :=
  ∀ (whole : Sem Value) (pins : List (Addr × Obj)) (s : Shared) (σ : St) (H : Hp) (Q : Bool → Hp → Prop), Inv X pins σ H s → t σ H Q → wpAny (model X.prog X.w) X.A (isTrue e X.env whole) (TP X pins σ Q) X.xe s
theorem PW.pt {X : Cx} {e : Expr} {t : TT} (h : PW X e t) : PT X e t := h _
/-- an argument list (no star), from the left -/
def PA (X : Cx) (es : List Expr) (t : TA) : Prop :=
  ∀ (pos : Pos) (pins : List (Addr × Obj)) (s : Shared) (σ : St) (H : Hp) (Q : List V → Hp → Prop), Inv X pins σ H s → t σ H Q → wpAny (model X.prog X.w) X.A (spliced (backTo pos (starEach es X.env))) (AP X pins σ Q) X.xe s
def PS (X : Cx) (st : Stmt) (t : TS) : Prop :=
  ∀ (pins : List (Addr × Obj)) (s : Shared) (σ : St) (H : Hp) (D : Ends), Inv X pins σ H s → t D σ H → wpAny (model X.prog X.w) X.A (exec st X.env) (SP X pins D) X.xe s
def PSs (X : Cx) (st : List Stmt) (t : TS) : Prop :=
  ∀ (pins : List (Addr × Obj)) (s : Shared) (σ : St) (H : Hp) (D : Ends), Inv X pins σ H s → t D σ H → wpAny (model X.prog X.w) X.A (execs st X.env) (SP X pins D) X.xe s
/-- weaken the end -/
theorem thn {α : Type} {t : Sem α} {Q Q' : α → Shared → Prop} {M : Model} {A : Around} {E : Value → Shared → Prop} {s : Shared} (h : wpAny M A t Q E s) (hQ : ∀ a s, Q a s → Q' a s) : wpAny M A t Q' E s := wpAny_mono h hQ fun _ _ x => x
end L2

namespace L2
open PySem PySem.Spec PyProof.Rows
section
variable {X : Cx}

/-- two expressions in a row -/
theorem bin {a b : Expr} {ta tb : TE} (ha : PE X a ta) (hb : PE X b tb) {pins : List (Addr × Obj)} {s : Shared} {σ : St} {H : Hp} {R : V → V → Hp → Prop} (I : Inv X pins σ H s) (h : ta σ H fun x H1 => tb σ H1 fun y H2 => R x y H2)
    {α : Type} {Q : α → Shared → Prop} {f : Value → Value → Sem α}
    (hf : ∀ v u s2 x y H2, Inv X pins σ H2 s2 → RelV x v → RelV y u → R x y H2 → wpAny (model X.prog X.w) X.A (f v u) Q X.xe s2) :
    wpAny (model X.prog X.w) X.A (eval a X.env) (fun v s₁ => wpAny (model X.prog X.w) X.A (eval b X.env) (fun u s₂ => wpAny (model X.prog X.w) X.A (f v u) Q X.xe s₂) X.xe s₁) X.xe s := by
  refine thn (ha pins s σ H _ I h) fun v s1 ⟨x, H1, I1, r1, q1⟩ => ?_
  refine thn (hb pins s1 σ H1 _ I1 q1) fun u s2 ⟨y, H2, I2, r2, q2⟩ => ?_
  exact hf v u s2 x y H2 I2 r1 r2 q2

/-! ### names and constants -/
def tVar (i : Nat) : TE := fun σ H Q => ∃ v, σ[i]? = some (some v) ∧ Q v H
def tC (v : V) : TE := fun _ H Q => Q v H
theorem pe_var {i : Nat} {x : Str} {pos : Pos} (hN : X.N[i]? = some x) (hv : Vis X.env.scope x) (hd : (x == ("__debug__" : Str)) = false := by decide) (hcd : (x == ("__classdict__" : Str)) = false := by decide) : PE X (.Name x pos) (tVar i) := by
  intro pins s σ H Q I h
  obtain ⟨v, e, h⟩ := h
  obtain ⟨m, hn, hl⟩ := I.loc
  obtain ⟨u, r, l⟩ := hl i x v hN e hv
  have fin : EP X pins σ Q u s := ⟨v, H, I, r, h⟩
  rcases l with ⟨hk, hm⟩ | ⟨hk, c, hc, hcell⟩
  · exact wpAny_Name (wpAny_loadName_local I.ok.kind hk hn hm fin) hd
  · rcases hk with hk | hk
    · exact wpAny_Name (wpAny_loadName_cell I.ok.kind hk hc hcell fin) hd
    · exact wpAny_Name (wpAny_loadName_free I.ok.kind hk hc hcell fin hcd) hd
theorem pe_int {i j pos} : PE X (.Constant (.int i) j pos) (tC (.int i)) := fun _ _ _ H _ I h => wpAny_Constant_int ⟨.int i, H, I.tok _, ⟨_, rfl⟩, h⟩
theorem pe_bl {b j pos} : PE X (.Constant (.bool b) j pos) (tC (.bl b)) := fun _ _ _ H _ I h => Constant_bool ⟨.bl b, H, I, rfl, h⟩
theorem pe_non {j pos} : PE X (.Constant .none j pos) (tC .non) := fun _ _ _ H _ I h => Constant_none ⟨.non, H, I, rfl, h⟩
theorem pe_str {x j pos} : PE X (.Constant (.str x) j pos) (tC (.str x)) := fun _ _ _ H _ I h => Calls.Constant_str ⟨.str x, H, I.tok _, ⟨_, rfl⟩, h⟩

/-- a global name of the def -/
def Gl (X : Cx) (x : Str) : Prop := X.env.kindOf x = some .globalImplicit
theorem ld_glob {E : Value → Shared → Prop} {pins : List (Addr × Obj)} {s : Shared} {σ : St} {H : Hp} {x : Str} {u : Value} {pos : Pos} {Q : Value → Shared → Prop} (I : Inv X pins σ H s) (hg : Gl X x) (hm : X.mg x = some u) (h : Q u s)
    (hd : (x == ("__debug__" : Str)) = false := by decide) : wpAny (model X.prog X.w) X.A (eval (.Name x pos) X.env) Q E s :=
  Calls.Name_function_global I.ok.kind hg (Calls.loadGlobal_global (by rw [I.ok.glob]; exact I.mod.glob.keeps I.bk) hm h) hd
theorem ld_blt {E : Value → Shared → Prop} {pins : List (Addr × Obj)} {s : Shared} {σ : St} {H : Hp} {x : Str} {u : Value} {pos : Pos} {Q : Value → Shared → Prop} (I : Inv X pins σ H s) (hg : Gl X x) (hm : X.mg x = none) (hv : bootBuiltins x = some u) (h : Q u s)
    (hn : x ≠ "__name__" := by decide) (hd : (x == ("__debug__" : Str)) = false := by decide) : wpAny (model X.prog X.w) X.A (eval (.Name x pos) X.env) Q E s := by
  obtain ⟨mb, h1, h2⟩ := I.mod.blt
  exact Calls.Name_function_global I.ok.kind hg (Calls.loadGlobal_builtin (by rw [I.ok.glob]; exact I.mod.glob.keeps I.bk) hm (by rw [I.ok.blt]; exact h1.keeps I.bk) ((h2 x hn).trans hv) h) hd
/-- a module's constant, a class, a function, as a value -/
theorem pe_glob {x : Str} {v : V} {u : Value} {pos : Pos} (hg : Gl X x) (hm : X.mg x = some u) (r : RelV v u) (hd : (x == ("__debug__" : Str)) = false := by decide) : PE X (.Name x pos) (tC v) :=
  fun _ _ _ H _ I h => ld_glob I hg hm ⟨v, H, I, r, h⟩ hd
theorem pe_bltn {x : Str} {v : V} {u : Value} {pos : Pos} (hg : Gl X x) (hm : X.mg x = none) (hv : bootBuiltins x = some u) (r : RelV v u) (hn : x ≠ "__name__" := by decide) (hd : (x == ("__debug__" : Str)) = false := by decide) : PE X (.Name x pos) (tC v) :=
  fun _ _ _ H _ I h => ld_blt I hg hm hv ⟨v, H, I, r, h⟩ hn hd

/-! ### arithmetic -/
/-- two ints -/
def t2I (ta tb : TE) (k : Int → Int → Hp → Prop) : St → Hp → Prop := fun σ H => ta σ H fun x H1 => tb σ H1 fun y H2 => ∃ i j, x = .int i ∧ y = .int j ∧ k i j H2
def tAdd (ta tb : TE) : TE := fun σ H Q => t2I ta tb (fun i j H2 => Q (.int (i + j)) H2) σ H
def tSub (ta tb : TE) : TE := fun σ H Q => t2I ta tb (fun i j H2 => Q (.int (i - j)) H2) σ H
/-- the left factor below 2^64 -/
def tMul (ta tb : TE) : TE := fun σ H Q => t2I ta tb (fun i j H2 => (-(2 ^ 64) < i ∧ i < 2 ^ 64) ∧ Q (.int (i * j)) H2) σ H
variable {a b : Expr} {ta tb : TE} {pos : Pos}
theorem pe_add (ha : PE X a ta) (hb : PE X b tb) : PE X (.BinOp a .Add b pos) (tAdd ta tb) := by
  intro pins s σ H Q I h
  refine wpAny_BinOp (bin ha hb I h fun v u s2 x y H2 I2 rx ry q => ?_)
  obtain ⟨i, j, rfl, rfl, q⟩ := q
  obtain ⟨t, rfl⟩ := rx
  obtain ⟨t', rfl⟩ := ry
  exact add_int ⟨.int _, H2, I2.tok _, ⟨_, rfl⟩, q⟩
theorem pe_sub (ha : PE X a ta) (hb : PE X b tb) : PE X (.BinOp a .Sub b pos) (tSub ta tb) := by
  intro pins s σ H Q I h
  refine wpAny_BinOp (bin ha hb I h fun v u s2 x y H2 I2 rx ry q => ?_)
  obtain ⟨i, j, rfl, rfl, q⟩ := q
  obtain ⟨t, rfl⟩ := rx
  obtain ⟨t', rfl⟩ := ry
  exact sub_int ⟨.int _, H2, I2.tok _, ⟨_, rfl⟩, q⟩
theorem pe_mul (ha : PE X a ta) (hb : PE X b tb) : PE X (.BinOp a .Mult b pos) (tMul ta tb) := by
  intro pins s σ H Q I h
  refine wpAny_BinOp (bin ha hb I h fun v u s2 x y H2 I2 rx ry q => ?_)
  obtain ⟨i, j, rfl, rfl, ⟨q1, q2⟩, q⟩ := q
  obtain ⟨t, rfl⟩ := rx
  obtain ⟨t', rfl⟩ := ry
  exact mul_int ⟨.int _, H2, I2.tok _, ⟨_, rfl⟩, q⟩ (.of_left (intBits_le_64 q1 q2))

/-! ### comparisons -/
def PC (X : Cx) (op : CmpOp) (a b : Expr) (t : TE) : Prop :=
  ∀ (pins : List (Addr × Obj)) (s : Shared) (σ : St) (H : Hp) (Q : VK), Inv X pins σ H s → t σ H Q →
    wpAny (model X.prog X.w) X.A (eval a X.env) (fun v s₁ => wpAny (model X.prog X.w) X.A (eval b X.env) (fun u s₂ => wpAny (model X.prog X.w) X.A (compareOp op v u) (EP X pins σ Q) X.xe s₂) X.xe s₁) X.xe s
theorem nobehind (b : Expr) {op : CmpOp} (h : op ≠ .In) (h2 : op ≠ .NotIn) : behindInMarks op b = false := by
  have e1 : (op == CmpOp.In) = false := by cases op <;> first | rfl | exact absurd rfl h
  have e2 : (op == CmpOp.NotIn) = false := by cases op <;> first | rfl | exact absurd rfl h2
  cases b <;> simp [behindInMarks, e1, e2]
def tCmp (p : Int → Int → Bool) (ta tb : TE) : TE := fun σ H Q => t2I ta tb (fun i j H2 => Q (.bl (p i j)) H2) σ H
abbrev tLt : TE → TE → TE := tCmp fun i j => decide (i < j)
abbrev tLe : TE → TE → TE := tCmp fun i j => decide (i ≤ j)
abbrev tGt : TE → TE → TE := tCmp fun i j => decide (j < i)
abbrev tGe : TE → TE → TE := tCmp fun i j => decide (j ≤ i)
abbrev tEqI : TE → TE → TE := tCmp fun i j => decide (i = j)
abbrev tNeI : TE → TE → TE := tCmp fun i j => !decide (i = j)
/-- a comparison of two ints, by its rule -/
theorem pc_int {op : CmpOp} {p : Int → Int → Bool} (ha : PE X a ta) (hb : PE X b tb)
    (rule : ∀ (i j : Int) (t u : Tok) (Q : Value → Shared → Prop) (s : Shared), Q (.bool (p i j)) s → wpAny (model X.prog X.w) X.A (compareOp op (.int i t) (.int j u)) Q X.xe s) : PC X op a b (tCmp p ta tb) := by
  intro pins s σ H Q I h
  refine bin ha hb I h fun v u s2 x y H2 I2 rx ry q => ?_
  obtain ⟨i, j, rfl, rfl, q⟩ := q
  obtain ⟨t, rfl⟩ := rx
  obtain ⟨t', rfl⟩ := ry
  exact rule i j t t' _ s2 ⟨.bl _, H2, I2, rfl, q⟩
theorem pc_lt (ha : PE X a ta) (hb : PE X b tb) : PC X .Lt a b (tLt ta tb) := pc_int ha hb fun _ _ _ _ _ _ h => lt_int h
theorem pc_le (ha : PE X a ta) (hb : PE X b tb) : PC X .LtE a b (tLe ta tb) := pc_int ha hb fun _ _ _ _ _ _ h => le_int h
theorem pc_gt (ha : PE X a ta) (hb : PE X b tb) : PC X .Gt a b (tGt ta tb) := pc_int ha hb fun _ _ _ _ _ _ h => gt_int h
theorem pc_ge (ha : PE X a ta) (hb : PE X b tb) : PC X .GtE a b (tGe ta tb) := pc_int ha hb fun _ _ _ _ _ _ h => ge_int h
theorem pc_eqI (ha : PE X a ta) (hb : PE X b tb) : PC X .Eq a b (tEqI ta tb) := pc_int ha hb fun _ _ _ _ _ _ h => eq_int (by rw [Bool.beq_eq_decide_eq]; exact h)
theorem pc_neI (ha : PE X a ta) (hb : PE X b tb) : PC X .NotEq a b (tNeI ta tb) := pc_int ha hb fun _ _ _ _ _ _ h => ne_int (by rw [bne, Bool.beq_eq_decide_eq]; exact h)
/-- is None -/
def tIsN (ta : TE) : TE := fun σ H Q => ta σ H fun x H1 => Q (.bl (decide (x = .non))) H1
def tNotN (ta : TE) : TE := fun σ H Q => ta σ H fun x H1 => Q (.bl (!decide (x = .non))) H1
theorem RelV.none_iff {x : V} {v : Value} (r : RelV x v) : (v == Value.none) = decide (x = .non) := by
  cases x with
  | non => cases r; rfl
  | bl _ => cases r; rfl
  | int _ => obtain ⟨t, rfl⟩ := r; rfl
  | str _ => obtain ⟨t, rfl⟩ := r; rfl
  | byt _ => obtain ⟨t, rfl⟩ := r; rfl
  | flt _ => obtain ⟨t, rfl⟩ := r; rfl
  | ref _ => cases r; rfl
  | ty _ => cases r; rfl
theorem pc_isN {j pos'} (ha : PE X a ta) : PC X .Is a (.Constant .none j pos') (tIsN ta) := by
  intro pins s σ H Q I h
  refine thn (ha pins s σ H _ I h) fun v s1 ⟨x, H1, I1, r1, q1⟩ => ?_
  exact Constant_none (is_none_gen ⟨.bl _, H1, I1, by rw [r1.none_iff]; rfl, q1⟩)
theorem pc_notN {j pos'} (ha : PE X a ta) : PC X .IsNot a (.Constant .none j pos') (tNotN ta) := by
  intro pins s σ H Q I h
  refine thn (ha pins s σ H _ I h) fun v s1 ⟨x, H1, I1, r1, q1⟩ => ?_
  exact Constant_none (isnot_none_gen ⟨.bl _, H1, I1, by rw [r1.none_iff]; rfl, q1⟩)
/-- a comparison as a value, as a test -/
def tB (t : TE) : TT := fun σ H Q => t σ H fun x H1 => ∃ c, x = .bl c ∧ Q c H1
theorem pe_cmp {op : CmpOp} {t : TE} (h : PC X op a b t) (h1 : behindInMarks op b = false := by first | exact nobehind _ (by decide) (by decide) | rfl) : PE X (.Compare a [op] [b] pos) t := fun pins s σ H Q I hw => wpAny_Compare1 (h pins s σ H Q I hw) h1
theorem pt_cmp {op : CmpOp} {t : TE} (h : PC X op a b t) (h1 : behindInMarks op b = false := by first | exact nobehind _ (by decide) (by decide) | rfl) : PT X (.Compare a [op] [b] pos) (tB t) := by
  intro pins s σ H Q I hw
  refine wpAny_isTrue_Compare1 (thn (h pins s σ H _ I hw) fun v s1 h1 => thn h1 fun u s2 h2 => thn h2 fun c s3 ⟨x, H1, I1, r1, q1⟩ => ?_) h1
  obtain ⟨d, rfl, q⟩ := q1
  cases r1
  exact wpAny_truthy_bool ⟨H1, I1, q⟩
/-- an expression whose value is a bool, as a test -/
theorem pt_val {e : Expr} {t : TE} (h : PE X e t) (he : ∀ whole, isTrue e X.env whole = (do let v ← whole; standAt e.pos; holding [v] (truthy v)) := by intro _; rfl) : PT X e (tB t) := by
  intro pins s σ H Q I hw
  refine isTrue_plain (thn (h pins s σ H _ I hw) fun v s1 ⟨x, H1, I1, r1, q1⟩ => ?_) (he _)
  obtain ⟨d, rfl, q⟩ := q1
  cases r1
  exact wpAny_truthy_bool ⟨H1, I1, q⟩

/-! ### and, or, not -/
variable {tA tB' : TT} {rest : List Expr}
def tAnd (t u : TT) : TT := fun σ H Q => t σ H fun c H1 => if c = true then u σ H1 Q else Q false H1
def tOr (t u : TT) : TT := fun σ H Q => t σ H fun c H1 => if c = true then Q true H1 else u σ H1 Q
def tNot (t : TT) : TT := fun σ H Q => t σ H fun c H1 => Q (!c) H1
theorem pw_and1 (ha : PT X a tA) : PW X (.BoolOp .And [a] pos) tA := by
  intro wh pins s σ H Q I h
  refine isTrue_and (thn (ha pins s σ H Q I h) fun c s1 e => ?_)
  cases c with
  | true => exact isTrue_and_nil e
  | false => exact e
theorem pw_or1 (ha : PT X a tA) : PW X (.BoolOp .Or [a] pos) tA := by
  intro wh pins s σ H Q I h
  refine isTrue_or (thn (ha pins s σ H Q I h) fun c s1 e => ?_)
  cases c with
  | false => exact isTrue_or_nil e
  | true => exact e
theorem pw_and (ha : PT X a tA) (hb : PW X (.BoolOp .And (b :: rest) pos) tB') : PW X (.BoolOp .And (a :: b :: rest) pos) (tAnd tA tB') := by
  intro wh pins s σ H Q I h
  refine isTrue_and (thn (ha pins s σ H _ I h) fun c s1 ⟨H1, I1, q1⟩ => ?_)
  cases c with
  | true => exact hb wh pins s1 σ H1 Q I1 q1
  | false => exact ⟨H1, I1, q1⟩
theorem pw_or (ha : PT X a tA) (hb : PW X (.BoolOp .Or (b :: rest) pos) tB') : PW X (.BoolOp .Or (a :: b :: rest) pos) (tOr tA tB') := by
  intro wh pins s σ H Q I h
  refine isTrue_or (thn (ha pins s σ H _ I h) fun c s1 ⟨H1, I1, q1⟩ => ?_)
  cases c with
  | true => exact ⟨H1, I1, q1⟩
  | false => exact hb wh pins s1 σ H1 Q I1 q1
theorem pt_not (ha : PT X a tA) : PT X (.UnaryOp .Not a pos) (tNot tA) := by
  intro pins s σ H Q I h
  exact isTrue_not (ha pins s σ H (fun c H1 => Q (!c) H1) I h)
/-- .. as values (bools) -/
def tAndV (ta tb : TE) : TE := fun σ H Q => ta σ H fun x H1 => ∃ c, x = .bl c ∧ if c = true then tb σ H1 Q else Q (.bl false) H1
def tOrV (ta tb : TE) : TE := fun σ H Q => ta σ H fun x H1 => ∃ c, x = .bl c ∧ if c = true then Q (.bl true) H1 else tb σ H1 Q
def tNotV (ta : TE) : TE := fun σ H Q => ta σ H fun x H1 => ∃ c, x = .bl c ∧ Q (.bl (!c)) H1
theorem pe_one {op} {t : TE} (h : PE X a t) : PE X (.BoolOp op [a] pos) t := fun pins s σ H Q I hw => BoolOp_one (h pins s σ H Q I hw)
theorem pe_and (ha : PE X a ta) (hb : PE X (.BoolOp .And (b :: rest) pos) tb) : PE X (.BoolOp .And (a :: b :: rest) pos) (tAndV ta tb) := by
  intro pins s σ H Q I h
  refine BoolOp_and (thn (ha pins s σ H _ I h) fun v s1 ⟨x, H1, I1, r1, q1⟩ => ?_)
  obtain ⟨c, rfl, q1⟩ := q1
  cases r1
  refine wpAny_truthy_bool ?_
  cases c with
  | true => exact hb pins s1 σ H1 Q I1 q1
  | false => exact ⟨.bl false, H1, I1, rfl, q1⟩
theorem pe_or (ha : PE X a ta) (hb : PE X (.BoolOp .Or (b :: rest) pos) tb) : PE X (.BoolOp .Or (a :: b :: rest) pos) (tOrV ta tb) := by
  intro pins s σ H Q I h
  refine BoolOp_or (thn (ha pins s σ H _ I h) fun v s1 ⟨x, H1, I1, r1, q1⟩ => ?_)
  obtain ⟨c, rfl, q1⟩ := q1
  cases r1
  refine wpAny_truthy_bool ?_
  cases c with
  | false => exact hb pins s1 σ H1 Q I1 q1
  | true => exact ⟨.bl true, H1, I1, rfl, q1⟩
theorem pe_not (ha : PE X a ta) : PE X (.UnaryOp .Not a pos) (tNotV ta) := by
  intro pins s σ H Q I h
  refine UnaryOp_ (thn (ha pins s σ H _ I h) fun v s1 ⟨x, H1, I1, r1, q1⟩ => ?_)
  obtain ⟨c, rfl, q1⟩ := q1
  cases r1
  exact not_of (wpAny_truthy_bool ⟨.bl (!c), H1, I1, rfl, q1⟩)
/-- a if t else b -/
def tIf (t : TT) (ta tb : TE) : TE := fun σ H Q => t σ H fun c H1 => if c = true then ta σ H1 Q else tb σ H1 Q
theorem pe_ifExp {c : Expr} (hc : PT X c tA) (ha : PE X a ta) (hb : PE X b tb) : PE X (.IfExp c a b pos) (tIf tA ta tb) := by
  intro pins s σ H Q I h
  refine wpAny_IfExp (thn (hc pins s σ H _ I h) fun d s1 ⟨H1, I1, q1⟩ => ?_)
  cases d with
  | true => exact ha pins s1 σ H1 Q I1 q1
  | false => exact hb pins s1 σ H1 Q I1 q1
end
end L2

namespace L2
open PySem PySem.Spec PyProof.Rows

/-! ### a list, a tuple that is read: tracked, frozen, or an object of the module -/
def SqL (K : PySem.W.Frag) (H : Hp) (a : Addr) (xs : List V) : Prop :=
  Rd H a (.lst xs) ∨
    ∃ (o : Obj) (its : Array Value) (n : Nat), K.lookup a = some o ∧ o.cls = .type "list" ∧ o.dict = none ∧ o.data = .seq its n ∧ its.size ≤ sizeLine ∧ Vals xs its.toList
def SqT (K : PySem.W.Frag) (H : Hp) (a : Addr) (xs : List V) : Prop :=
  Rd H a (.tup xs) ∨
    ∃ (o : Obj) (its : Array Value) (n : Nat), K.lookup a = some o ∧ o.cls = .type "tuple" ∧ o.data = .seq its n ∧ its.size ≤ sizeLine ∧ Vals xs its.toList
def absV : Value → Option V
  | .none => some .non
  | .bool b => some (.bl b)
  | .int i _ => some (.int i)
  | .str x _ => some (.str x)
  | .bytes b _ => some (.byt b)
  | .float b _ => some (.flt b)
  | .ref a => some (.ref a)
  | .type n => some (.ty n)
  | _ => none
theorem RelV.abs {x : V} {u : Value} (r : RelV x u) : absV u = some x := by
  cases x with
  | non => cases r; rfl
  | bl _ => cases r; rfl
  | int _ => obtain ⟨t, rfl⟩ := r; rfl
  | str _ => obtain ⟨t, rfl⟩ := r; rfl
  | byt _ => obtain ⟨t, rfl⟩ := r; rfl
  | flt _ => obtain ⟨t, rfl⟩ := r; rfl
  | ref _ => cases r; rfl
  | ty _ => cases r; rfl
theorem RelV.inj {x y : V} {u : Value} (r : RelV x u) (q : RelV y u) : x = y := Option.some.inj (r.abs.symm.trans q.abs)
theorem Vals.inj : ∀ {xs ys : List V} {us : List Value}, Vals xs us → Vals ys us → xs = ys
  | _, _, _, .nil, .nil => rfl
  | _, _, _, .cons r t, .cons r' t' => by rw [r.inj r', Vals.inj t t']
section
variable {X : Cx} {pins : List (Addr × Obj)} {σ : St} {H : Hp} {s : Shared} {a : Addr} {xs ys : List V}
theorem SqL.of {K : PySem.W.Frag} (h : H a = some (.lst xs)) : SqL K H a xs := .inl (.inl h)
theorem SqT.of {K : PySem.W.Frag} (h : H a = some (.tup xs)) : SqT K H a xs := .inl (.inl h)
theorem Inv.list (I : Inv X pins σ H s) (h : SqL X.K H a xs) : ∃ its : List Value, Vals xs its ∧ PlainL s.heap a its.toArray ∧ xs.length ≤ sizeLine := by
  rcases h with h | ⟨o, its, n, hk, hc, hd, hs, hz, r⟩
  · obtain ⟨z, its, n, r, e⟩ := h.ok I.hok
    exact ⟨its, r, ⟨_, n, e, rfl, rfl, rfl⟩, z⟩
  · refine ⟨its.toList, r, ⟨o, n, I.kIn a o hk, hc, hd, by simpa using hs⟩, ?_⟩
    have e := r.length
    simp only [Array.length_toList] at e
    omega
theorem Inv.tuple (I : Inv X pins σ H s) (h : SqT X.K H a xs) : ∃ its : List Value, Vals xs its ∧ IsTup s.heap a its.toArray ∧ xs.length ≤ sizeLine := by
  rcases h with h | ⟨o, its, n, hk, hc, hs, hz, r⟩
  · obtain ⟨z, its, r, p⟩ := h.ok I.hok
    exact ⟨its, r, p, z⟩
  · refine ⟨its.toList, r, ⟨o, I.kIn a o hk, hc, n, by simpa using hs⟩, ?_⟩
    have e := r.length
    simp only [Array.length_toList] at e
    omega
theorem Inv.list_inj (I : Inv X pins σ H s) (h : SqL X.K H a xs) (h' : SqL X.K H a ys) : xs = ys := by
  obtain ⟨its, r, ⟨o, n, e, _, _, d⟩, _⟩ := I.list h
  obtain ⟨its', r', ⟨o', n', e', _, _, d'⟩, _⟩ := I.list h'
  rw [e] at e'; cases e'
  rw [d] at d'
  injection d' with d1 _
  have : its = its' := by simpa using congrArg Array.toList d1
  subst this
  exact r.inj r'
theorem Inv.tuple_inj (I : Inv X pins σ H s) (h : SqT X.K H a xs) (h' : SqT X.K H a ys) : xs = ys := by
  obtain ⟨its, r, ⟨o, e, _, n, d⟩, _⟩ := I.tuple h
  obtain ⟨its', r', ⟨o', e', _, n', d'⟩, _⟩ := I.tuple h'
  rw [e] at e'; cases e'
  rw [d] at d'
  injection d' with d1 _
  have : its = its' := by simpa using congrArg Array.toList d1
  subst this
  exact r.inj r'
end

/-! ### another wish about exceptions -/
abbrev Cx.wish (X : Cx) (E : Value → Shared → Prop) : Cx := { X with xe := E }
/-- no exception leaves -/
abbrev Cx.nox (X : Cx) : Cx := X.wish fun _ _ => False
theorem Cx.Ok.wish {X : Cx} (ok : X.Ok) (E : Value → Shared → Prop) : (X.wish E).Ok :=
  ⟨ok.mod, ok.kind, ok.glob, ok.blt, ok.above, ok.inj, ok.has, ok.cab, ok.hd, ok.frames, ok.stk, ok.exf, ok.bs, ok.bsz, ok.noex, ok.exfs, ok.funs, ok.frf⟩
theorem Cx.Ok.unwish {X : Cx} {E : Value → Shared → Prop} (ok : (X.wish E).Ok) : X.Ok :=
  ⟨ok.mod, ok.kind, ok.glob, ok.blt, ok.above, ok.inj, ok.has, ok.cab, ok.hd, ok.frames, ok.stk, ok.exf, ok.bs, ok.bsz, ok.noex, ok.exfs, ok.funs, ok.frf⟩
section
variable {X : Cx} {pins : List (Addr × Obj)} {σ : St} {H : Hp} {s : Shared} {E : Value → Shared → Prop}
theorem Inv.wish (I : Inv X pins σ H s) (E : Value → Shared → Prop) : Inv (X.wish E) pins σ H s := ⟨I.ok.wish E, I.os, I.bare, I.base, I.loc, I.cell, I.free, I.freeC, I.pin, I.hok, I.len⟩
theorem Inv.unwish (I : Inv (X.wish E) pins σ H s) : Inv X pins σ H s := ⟨I.ok.unwish, I.os, I.bare, I.base, I.loc, I.cell, I.free, I.freeC, I.pin, I.hok, I.len⟩
theorem SP.unwish {D : Ends} {f : Flow} {s' : Shared} (h : SP (X.wish E) pins D f s') : SP X pins D f s' := by
  cases f with
  | next => obtain ⟨σ', H', I, q⟩ := h; exact ⟨σ', H', I.unwish, q⟩
  | brk => obtain ⟨σ', H', I, q⟩ := h; exact ⟨σ', H', I.unwish, q⟩
  | cont => obtain ⟨σ', H', I, q⟩ := h; exact ⟨σ', H', I.unwish, q⟩
  | ret u => obtain ⟨v, σ', H', I, r, q⟩ := h; exact ⟨v, σ', H', I.unwish, r, q⟩
theorem PE.nox {e : Expr} {t : TE} (h : PE X.nox e t) : PE X e t := fun pins s σ H Q I hw =>
  wpAny_mono (h pins s σ H Q (I.wish _) hw) (fun _ _ ⟨v, H', I', r, q⟩ => ⟨v, H', I'.unwish, r, q⟩) fun _ _ z => False.elim z
theorem PT.nox {e : Expr} {t : TT} (h : PT X.nox e t) : PT X e t := fun pins s σ H Q I hw =>
  wpAny_mono (h pins s σ H Q (I.wish _) hw) (fun _ _ ⟨H', I', q⟩ => ⟨H', I'.unwish, q⟩) fun _ _ z => False.elim z
theorem PSs.nox {st : List Stmt} {t : TS} (h : PSs X.nox st t) : PSs X st t := fun pins s σ H D I hw =>
  wpAny_mono (h pins s σ H D (I.wish _) hw) (fun _ _ q => q.unwish) fun _ _ z => False.elim z
end

/-! ### blocks and small statements -/
section
variable {X : Cx} {st : Stmt} {rest : List Stmt} {t u : TS} {e : Expr} {te : TE} {pos : Pos}
def tNext : TS := fun D σ H => D.nx σ H
def tSeq (t u : TS) : TS := fun D σ H => t { D with nx := u D } σ H
theorem pss_nil : PSs X [] tNext := fun _ _ σ H _ I h => wpAny_execs_nil ⟨σ, H, I, h⟩
theorem pss_cons (h1 : PS X st t) (h2 : PSs X rest u) : PSs X (st :: rest) (tSeq t u) := by
  intro pins s σ H D I h
  refine wpAny_execs_cons (thn (h1 pins s σ H { D with nx := u D } I h) fun f s1 q => ?_)
  cases f with
  | next =>
    obtain ⟨σ', H', I', q⟩ := q
    exact h2 pins s1 σ' H' D I' q
  | ret v => exact q
  | brk => exact q
  | cont => exact q
theorem pss_one (h1 : PS X st t) : PSs X [st] t := by
  intro pins s σ H D I h
  refine wpAny_execs_cons (thn (h1 pins s σ H D I h) fun f s1 q => ?_)
  cases f with
  | next => exact wpAny_execs_nil q
  | ret v => exact q
  | brk => exact q
  | cont => exact q
def tBreak : TS := fun D σ H => D.bk σ H
def tCont : TS := fun D σ H => D.ct σ H
theorem ps_pass : PS X (.Pass pos) tNext := fun _ _ σ H _ I h => wpAny_Pass ⟨σ, H, I, h⟩
theorem ps_break : PS X (.Break pos) tBreak := fun _ _ σ H _ I h => wpAny_Break ⟨σ, H, I, h⟩
theorem ps_continue : PS X (.Continue pos) tCont := fun _ _ σ H _ I h => wpAny_Continue ⟨σ, H, I, h⟩
/-- in a def's body nothing is shown -/
theorem Inv.quiet {pins : List (Addr × Obj)} {σ : St} {H : Hp} {s : Shared} (I : Inv X pins σ H s) : interactive X.env = false := by simp [interactive, I.ok.kind]
/-- a docstring -/
theorem ps_doc {x j pos pos'} : PS X (.Expr (.Constant (.str x) j pos) pos') tNext := fun _ s σ H _ I h => wpAny_Expr (Calls.Constant_str (show SP X _ _ .next { s with toks := s.toks + 1 } from ⟨σ, H, I.tok _, h⟩)) I.quiet
/-- an expression whose value is dropped -/
def tDrop (te : TE) : TS := fun D σ H => te σ H fun _ H1 => D.nx σ H1
theorem ps_expr (he : PE X e te) (hs : swapsWith e none pos.line X.env = pure false := by rfl) : PS X (.Expr e pos) (tDrop te) := by
  intro pins s σ H D I h
  exact wpAny_Expr_any (thn (he pins s σ H _ I h) fun v s1 ⟨x, H1, I1, r1, q1⟩ => ⟨σ, H1, I1, q1⟩) I.quiet hs
def tRet (te : TE) : TS := fun D σ H => te σ H D.rt
theorem ps_ret (he : PE X e te) : PS X (.Return (some e) pos) (tRet te) := by
  intro pins s σ H D I h
  exact wpAny_Return_some (thn (he pins s σ H _ I h) fun v s1 ⟨x, H1, I1, r1, q1⟩ => ⟨x, σ, H1, I1, r1, q1⟩)
def tRetN : TS := fun D _ H => D.rt .non H
theorem ps_retN : PS X (.Return none pos) tRetN := fun _ _ σ H _ I h => wpAny_Return_none ⟨.non, σ, H, I, rfl, h⟩
def tIfS (c : TT) (t u : TS) : TS := fun D σ H => c σ H fun b H1 => if b = true then t D σ H1 else u D σ H1
theorem ps_if {c : Expr} {a b : List Stmt} {tc : TT} (hc : PT X c tc) (ha : PSs X a t) (hb : PSs X b u) : PS X (.If c a b pos) (tIfS tc t u) := by
  intro pins s σ H D I h
  refine wpAny_If (thn (hc pins s σ H _ I h) fun d s1 ⟨H1, I1, q1⟩ => ?_)
  cases d with
  | true => exact ha pins s1 σ H1 D I1 q1
  | false => exact hb pins s1 σ H1 D I1 q1
/-- code that the proof never comes to -/
def tNever : TS := fun _ _ _ => False
theorem ps_never : PS X st tNever := fun _ _ _ _ _ _ h => h.elim
theorem pss_never {sts : List Stmt} : PSs X sts tNever := fun _ _ _ _ _ _ h => h.elim
end

/-! ### targets -/
abbrev TG := V → St → Hp → (St → Hp → Prop) → Prop
abbrev TGs := List V → St → Hp → (St → Hp → Prop) → Prop
def PG (X : Cx) (target : Expr) (t : TG) : Prop :=
  ∀ (pins : List (Addr × Obj)) (s : Shared) (σ : St) (H : Hp) (v : V) (u : Value) (Q : St → Hp → Prop), Inv X pins σ H s → RelV v u → t v σ H Q →
    wpAny (model X.prog X.w) X.A (assign target X.env u) (fun _ s' => ∃ σ' H', Inv X pins σ' H' s' ∧ Q σ' H') X.xe s
/-- several targets, one after another -/
def PGs (X : Cx) (ts : List Expr) (t : TGs) : Prop :=
  ∀ (pins : List (Addr × Obj)) (s : Shared) (σ : St) (H : Hp) (vs : List V) (us : List Value) (Q : St → Hp → Prop), Inv X pins σ H s → Vals vs us → t vs σ H Q →
    wpAny (model X.prog X.w) X.A (assignInOrder ((assignEach ts X.env).map (·.2)) us) (fun _ s' => ∃ σ' H', Inv X pins σ' H' s' ∧ Q σ' H') X.xe s
/-- o[i] = v, by values -/
abbrev TSet := V → V → V → Hp → (Hp → Prop) → Prop
def PSet (X : Cx) (t : TSet) : Prop :=
  ∀ (pins : List (Addr × Obj)) (s : Shared) (σ : St) (H : Hp) (o i v : V) (ov iv u : Value) (Q : Hp → Prop), Inv X pins σ H s → RelV o ov → RelV i iv → RelV v u → t o i v H Q →
    wpAny (model X.prog X.w) X.A (setItem ov iv u) (fun _ s' => ∃ H', Inv X pins σ H' s' ∧ Q H') X.xe s
/-- a op= b, by values -/
abbrev TIp := V → V → Hp → VK → Prop
def PIp (X : Cx) (op : Operator) (t : TIp) : Prop :=
  ∀ (pins : List (Addr × Obj)) (s : Shared) (σ : St) (H : Hp) (x y : V) (v u : Value) (Q : VK), Inv X pins σ H s → RelV x v → RelV y u → t x y H Q →
    wpAny (model X.prog X.w) X.A (inplaceOp op v u) (EP X pins σ Q) X.xe s
section
variable {X : Cx} {pos : Pos}
def gName (i : Nat) : TG := fun v σ H Q => Q (σ.set i (some v)) H
theorem pg_name {i : Nat} {x : Str} (hN : X.N.Nodup) (hi : X.N[i]? = some x) (hx : Loc X.env.scope x) (hf : X.fn x = true ∨ X.env.scope.names.lookup x = some .local := by first | exact .inl rfl | exact .inr rfl | assumption) : PG X (.Name x pos) (gName i) := by
  intro pins s σ H v u Q I r h
  exact wpAny_assign_Name (store_ok I hN hi hx r (fun s' I' => ⟨_, H, I', h⟩) hf)
def gNil : TGs := fun vs σ H Q => vs = [] ∧ Q σ H
def gCons (t : TG) (u : TGs) : TGs := fun vs σ H Q => ∃ v r, vs = v :: r ∧ t v σ H fun σ' H' => u r σ' H' Q
theorem pgs_nil : PGs X [] gNil := by
  intro pins s σ H vs us Q I r h
  obtain ⟨e, h⟩ := h
  subst e
  cases r
  exact assignInOrder_nil ⟨σ, H, I, h⟩
theorem pgs_cons {e : Expr} {es : List Expr} {t : TG} {u : TGs} (h1 : PG X e t) (h2 : PGs X es u)
    (hs : (assignEach (e :: es) X.env).map (·.2) = assign e X.env :: (assignEach es X.env).map (·.2) := by rfl) : PGs X (e :: es) (gCons t u) := by
  intro pins s σ H vs us Q I r h
  obtain ⟨v, vr, e1, h⟩ := h
  subst e1
  cases r with
  | cons r rr =>
    rw [hs]
    refine assignInOrder_cons (thn (h1 pins s σ H _ _ _ I r h) fun _ s1 ⟨σ1, H1, I1, q1⟩ => ?_)
    exact h2 pins s1 σ1 H1 _ _ Q I1 rr q1
/-- (a, b, ..) = a tuple of that length -/
def gTup (K : PySem.W.Frag) (n : Nat) (t : TGs) : TG := fun v σ H Q => ∃ a xs, v = .ref a ∧ SqT K H a xs ∧ xs.length = n ∧ t xs σ H Q
theorem pg_tup {es : List Expr} {k : Nat} {t : TGs} {n : Nat} (hc : X.calm = true) (h : PGs X es t)
    (hn : (assignEach es X.env).length = n := by rfl) (hst : (assignEach es X.env).findIdx? (·.1) = none := by rfl) : PG X (.Tuple es k pos) (gTup X.K n t) := by
  intro pins s σ H v u Q I r hw
  obtain ⟨a, xs, e1, hq, hl, hw⟩ := hw
  subst e1
  cases r
  obtain ⟨its, rv, ht, hz⟩ := I.tuple hq
  refine assign_Tuple_tuple (I.ok.hd hc) ht (by simp [hn, ← hl, rv.length]) hst fun h' hx => ?_
  have I1 : Inv X pins σ H { s with heap := h' } := I.kept (t' := s.toks) fun b o e => hx b o (Nat.ne_of_lt (Heap.lt_size e)) e
  exact h pins _ σ H xs _ Q I1 (by simpa using rv) hw
/-- o[i] = .. -/
def gSub (to ti : TE) (t : TSet) : TG := fun v σ H Q => to σ H fun o H1 => ti σ H1 fun i H2 => t o i v H2 fun H3 => Q σ H3
theorem pg_sub {o i : Expr} {to ti : TE} {t : TSet} (ho : PE X o to) (hi : PE X i ti) (hs : PSet X t)
    (ha : ∀ v, assign (.Subscript o i pos) X.env v = (do
      let ov ← holding [v] (eval o X.env)
      let iv ← holding [v, ov] (eval i X.env)
      standAt pos
      holding [v, ov, iv] (setItem ov iv v)
      release [v, ov, iv] []) := by intro _; rfl) : PG X (.Subscript o i pos) (gSub to ti t) := by
  intro pins s σ H v u Q I r h
  rw [ha]
  refine wpAny_bind (wpAny_holding (thn (ho pins s σ H _ I h) fun ov s1 ⟨x, H1, I1, r1, q1⟩ => ?_))
  refine wpAny_bind (wpAny_holding (thn (hi pins s1 σ H1 _ I1 q1) fun iv s2 ⟨y, H2, I2, r2, q2⟩ => ?_))
  refine wpAny_bind (wpAny_standAt (wpAny_bind (wpAny_holding (thn (hs pins s2 σ H2 x y v ov iv u _ I2 r1 r2 r q2) fun _ s3 ⟨H3, I3, q3⟩ => ?_))))
  exact wpAny_release ⟨σ, H3, I3, q3⟩
/-- target = value -/
def tAsg (te : TE) (g : TG) : TS := fun D σ H => te σ H fun x H1 => g x σ H1 D.nx
theorem ps_asg {tg e : Expr} {te : TE} {g : TG} (he : PE X e te) (hg : PG X tg g) (hs : swapsWithSole [tg] e pos.line X.env = pure false := by rfl) (hw : swappedStores [tg] e X.env = pure none := by rfl)
    (h1 : (assignEach [tg] X.env).map (·.2) = [assign tg X.env] := by rfl) : PS X (.Assign [tg] e pos) (tAsg te g) := by
  intro pins s σ H D I h
  refine wpAny_Assign_stores (thn (he pins s σ H _ I h) fun v s1 ⟨x, H1, I1, r1, q1⟩ => ?_) hs hw
  rw [h1]
  exact thn (hg pins s1 σ H1 x v _ I1 r1 q1) fun _ s2 q => q
/-- name = value -/
theorem ps_set {i : Nat} {x : Str} {e : Expr} {te : TE} {pos' : Pos} (hN : X.N.Nodup) (hi : X.N[i]? = some x) (hx : Loc X.env.scope x) (he : PE X e te) (hs : swapsWith e (some (.Name x pos')) pos.line X.env = pure false := by rfl) (hf : X.fn x = true ∨ X.env.scope.names.lookup x = some .local := by first | exact .inl rfl | exact .inr rfl | assumption) :
    PS X (.Assign [.Name x pos'] e pos) (tAsg te (gName i)) := by
  intro pins s σ H D I h
  refine wpAny_Assign_Name (thn (he pins s σ H _ I h) fun v s1 ⟨y, H1, I1, r1, q1⟩ => ?_) hs
  exact store_ok I1 hN hi hx r1 (fun s2 I2 => ⟨_, H1, I2, q1⟩) hf
/-- a, b = x, y with plain local names: stored from the right; the pair itself is not tracked (the opening rows as in PyProof/Rows/TupAssign.lean:23) -/
def tPar (i j : Nat) (ta : TA) : TS := fun D σ H => ta σ H fun vs H1 => ∃ v w, vs = [v, w] ∧ D.nx ((σ.set i (some v)).set j (some w)) H1
theorem ps_par {i j : Nat} {x y : Str} {a b : Expr} {ta : TA} {px py pt : Pos} {kt k2 pt2} (hc : X.calm = true) (hN : X.N.Nodup) (hi : X.N[i]? = some x) (hj : X.N[j]? = some y) (hij : i ≠ j)
    (hx : X.env.scope.names.lookup x = some .local) (hy : X.env.scope.names.lookup y = some .local) (ha : PA X [a, b] ta)
    (hw : swappedStores [.Tuple [.Name x px, .Name y py] kt pt] (.Tuple [a, b] k2 pt2) X.env = pure (some [x, y]))
    (hs : swapsWithSole [.Tuple [.Name x px, .Name y py] kt pt] (.Tuple [a, b] k2 pt2) pos.line X.env = pure false := by rfl) :
    PS X (.Assign [.Tuple [.Name x px, .Name y py] kt pt] (.Tuple [a, b] k2 pt2) pos) (tPar i j ta) := by
  intro pins s σ H D I h
  rw [exec_Assign_arm]
  refine wpAny_bind (wpAny_standAt ?_)
  rw [hs]
  refine wpAny_bind (wpAny_pure ?_)
  rw [if_neg (by decide)]
  refine wpAny_bind (Tuple_ (thn (ha _ pins s σ H _ I h) fun us s1 ⟨vs, H1, I1, r1, q1⟩ => ?_))
  obtain ⟨v, w, e1, q1⟩ := q1
  subst e1
  obtain ⟨u1, u2, rfl, rv, rw'⟩ : ∃ u1 u2, us = [u1, u2] ∧ RelV v u1 ∧ RelV w u2 := by
    cases r1 with
    | cons p q =>
      cases q with
      | cons p' q' =>
        cases q'
        exact ⟨_, _, rfl, p, p'⟩
  refine wpAny_newObj_type ?_ (by show 2 ≤ sizeLine; decide)
  have I2 : Inv X pins σ H1 { s1 with heap := s1.heap.push { cls := .type "tuple", data := .seq [u1, u2].toArray } } := I1.kept (t' := s1.toks) fun b o e => Heap.get?_push_of_some _ e
  rw [hw]
  refine wpAny_bind (wpAny_pure ?_)
  show wpAny (model X.prog X.w) X.A (do rule "assign.swapped-stores"; let items ← unpackItems (.ref s1.heap.objs.size) 2 none; assignInOrder [fun v => bindName X.env y v, fun v => bindName X.env x v] items.reverse; pure Flow.next) _ _ _
  refine wpAny_bind (wpAny_rule (wpAny_bind (unpackItems_tuple (items := #[u1, u2]) (I.ok.hd hc) (IsTup.new s1.heap _) fun h' hx' => ?_)))
  have I3 := I2.kept (h' := h') (t' := s1.toks) fun b o e => hx' b o (Nat.ne_of_lt (Heap.lt_size e)) e
  show wpAny _ _ (assignInOrder [fun v => bindName X.env y v, fun v => bindName X.env x v] [u2, u1] >>= fun _ => pure Flow.next) _ _ _
  refine wpAny_bind (assignInOrder_cons (wpAny_bindName (store_ok I3 hN hj (.inl hy) rw' (fun s2 I4 => ?_) (.inr hy))))
  refine assignInOrder_cons (wpAny_bindName (store_ok I4 hN hi (.inl hx) rv (fun s3 I5 => assignInOrder_nil (wpAny_pure ?_)) (.inr hx)))
  rw [List.set_comm _ _ (Ne.symm hij)] at I5
  exact ⟨_, H1, I5, q1⟩
/-- name op= e -/
def tAug (i : Nat) (te : TE) (ti : TIp) : TS := fun D σ H => ∃ x, σ[i]? = some (some x) ∧ te σ H fun y H1 => ti x y H1 fun z H2 => D.nx (σ.set i (some z)) H2
theorem ps_aug {i : Nat} {x : Str} {e : Expr} {te : TE} {op : Operator} {ti : TIp} {pos' : Pos} (hN : X.N.Nodup) (hi : X.N[i]? = some x) (hx : Loc X.env.scope x) (he : PE X e te) (ho : PIp X op ti) (hf : X.fn x = true ∨ X.env.scope.names.lookup x = some .local := by first | exact .inl rfl | exact .inr rfl | assumption) :
    PS X (.AugAssign (.Name x pos') op e pos) (tAug i te ti) := by
  intro pins s σ H D I h
  obtain ⟨v, e1, h⟩ := h
  obtain ⟨m, hn, hl⟩ := I.loc
  have vis : Vis X.env.scope x := by rcases hx with k | k; exact .inl k; exact .inr (.inl k)
  obtain ⟨u, r, l⟩ := hl i x v hi e1 vis
  refine wpAny_AugAssign_Name ?_
  have go : wpAny (model X.prog X.w) X.A (eval e X.env) (fun w s₂ => wpAny (model X.prog X.w) X.A (inplaceOp op u w) (fun r s₃ => wpAny (model X.prog X.w) X.A (storeName X.env x r) (fun _ => SP X pins D .next) X.xe s₃) X.xe s₂) X.xe s := by
    refine thn (he pins s σ H _ I h) fun w s1 ⟨y, H1, I1, r1, q1⟩ => ?_
    refine thn (ho pins s1 σ H1 v y u w _ I1 r r1 q1) fun z s2 ⟨zv, H2, I2, r2, q2⟩ => ?_
    exact store_ok I2 hN hi hx r2 (fun s3 I3 => ⟨_, H2, I3, q2⟩) hf
  rcases l with ⟨hk, hm⟩ | ⟨hk, c, hc, hcell⟩
  · exact wpAny_loadName_local I.ok.kind hk hn hm go
  · rcases hk with hk | hk
    · exact wpAny_loadName_cell I.ok.kind hk hc hcell go
    · rcases hx with k | k
      · have : X.env.scope.names.lookup x = some .free := hk
        rw [k] at this; cases this
      · have : X.env.scope.names.lookup x = some .free := hk
        rw [k] at this; cases this
/-- o[i] op= e -/
def tAugS (to ti te : TE) (tget : V → V → Hp → VK → Prop) (tip : TIp) (tset : TSet) : TS := fun D σ H => to σ H fun o H1 => ti σ H1 fun i H2 => tget o i H2 fun x H3 => te σ H3 fun y H4 => tip x y H4 fun z H5 => tset o i z H5 fun H6 => D.nx σ H6
/-- o[i], by values -/
def PGet (X : Cx) (t : V → V → Hp → VK → Prop) : Prop :=
  ∀ (pins : List (Addr × Obj)) (s : Shared) (σ : St) (H : Hp) (o i : V) (ov iv : Value) (Q : VK), Inv X pins σ H s → RelV o ov → RelV i iv → t o i H Q →
    wpAny (model X.prog X.w) X.A (getItem ov iv) (EP X pins σ Q) X.xe s
theorem ps_augS {o i e : Expr} {to ti te : TE} {tget : V → V → Hp → VK → Prop} {tip : TIp} {tset : TSet} {op : Operator} {tpos : Pos} (ho : PE X o to) (hi : PE X i ti) (hg : PGet X tget) (he : PE X e te) (hp : PIp X op tip) (hs : PSet X tset)
    (ha : ∀ ov iv new, augStore i ov iv new = (do holding [new, ov, iv] (setItem ov iv new); release [new, ov, iv] []; pure .next) := by intros; rfl) : PS X (.AugAssign (.Subscript o i tpos) op e pos) (tAugS to ti te tget tip tset) := by
  intro pins s σ H D I h
  refine wpAny_AugAssign_SubscriptAny (thn (ho pins s σ H _ I h) fun ov s1 ⟨x1, H1, I1, r1, q1⟩ => ?_) ha
  refine thn (hi pins s1 σ H1 _ I1 q1) fun iv s2 ⟨x2, H2, I2, r2, q2⟩ => ?_
  refine thn (hg pins s2 σ H2 x1 x2 ov iv _ I2 r1 r2 q2) fun old s3 ⟨x3, H3, I3, r3, q3⟩ => ?_
  refine thn (he pins s3 σ H3 _ I3 q3) fun v s4 ⟨x4, H4, I4, r4, q4⟩ => ?_
  refine thn (hp pins s4 σ H4 x3 x4 old v _ I4 r3 r4 q4) fun new s5 ⟨x5, H5, I5, r5, q5⟩ => ?_
  exact thn (hs pins s5 σ H5 x1 x2 x5 ov iv new _ I5 r1 r2 r5 q5) fun _ s6 ⟨H6, I6, q6⟩ => ⟨σ, H6, I6, q6⟩
/-- ints -/
def ipI (f : Int → Int → Int) : TIp := fun x y H Q => ∃ i j, x = .int i ∧ y = .int j ∧ Q (.int (f i j)) H
theorem ip_add : PIp X .Add (ipI fun i j => i + j) := by
  intro pins s σ H x y v u Q I r1 r2 h
  obtain ⟨i, j, e1, e2, q⟩ := h
  subst e1; subst e2
  obtain ⟨t, rfl⟩ := r1
  obtain ⟨t', rfl⟩ := r2
  exact iadd_int ⟨.int _, H, I.tok _, ⟨_, rfl⟩, q⟩
theorem ip_sub : PIp X .Sub (ipI fun i j => i - j) := by
  intro pins s σ H x y v u Q I r1 r2 h
  obtain ⟨i, j, e1, e2, q⟩ := h
  subst e1; subst e2
  obtain ⟨t, rfl⟩ := r1
  obtain ⟨t', rfl⟩ := r2
  exact isub_int ⟨.int _, H, I.tok _, ⟨_, rfl⟩, q⟩
end

/-! ### while -/
section
variable {X : Cx} {pos : Pos}
/-- the invariant W with its measure -/
def tWhile (c : TT) (tb : TS) : TS := fun D σ H => ∃ W : Nat → St → Hp → Prop, (∃ m, W m σ H) ∧ ∀ m σ H, W m σ H →
  c σ H fun b H1 => if b = true then ∃ N : St → Hp → Prop, (∀ σ' H', N σ' H' → ∃ m', m' < m ∧ W m' σ' H') ∧ tb { D with nx := N, ct := N, bk := D.nx } σ H1 else D.nx σ H1
theorem ps_while {c : Expr} {body : List Stmt} {tc : TT} {tb : TS} (hp : PassesOwn (model X.prog X.w) X.A X.env X.xe) (hc : PT X c tc) (hb : PSs X body tb) : PS X (.While c body [] pos) (tWhile tc tb) := by
  intro pins s σ H D I h
  obtain ⟨W, ⟨m0, w0⟩, turn⟩ := h
  refine wpAny_While (codeAny_whileLoop (fun n s' => ∃ σ' H', Inv X pins σ' H' s' ∧ W n σ' H') ?_ m0 ⟨σ, H, I, w0⟩)
  rintro n s1 ⟨σ1, H1, I1, w1⟩
  refine wpAny_passesOwn hp (thn (hc pins s1 σ1 H1 _ I1 (turn n σ1 H1 w1)) fun b s2 ⟨H2, I2, q2⟩ => ?_)
  cases b with
  | true =>
    obtain ⟨N, hN, q2⟩ := q2
    rw [if_pos rfl]
    refine wpAny_passesOwn hp (thn (hb pins s2 σ1 H2 _ I2 q2) fun f s3 q3 => ?_)
    cases f with
    | next =>
      obtain ⟨σ3, H3, I3, n3⟩ := q3
      obtain ⟨m', hm, w3⟩ := hN σ3 H3 n3
      exact ⟨m', hm, σ3, H3, I3, w3⟩
    | cont =>
      obtain ⟨σ3, H3, I3, n3⟩ := q3
      obtain ⟨m', hm, w3⟩ := hN σ3 H3 n3
      exact ⟨m', hm, σ3, H3, I3, w3⟩
    | brk => exact q3
    | ret v => exact q3
  | false =>
    rw [if_neg Bool.false_ne_true]
    exact wpAny_execs_nil ⟨σ1, H2, I2, q2⟩
end

/-! ### what a loop or a comprehension walks -/
/-- at turn i: it yields x (the heap may grow), or it stops -/
structure It where
  go : Nat → Hp → Prop
  yld : Nat → Hp → V → Hp → Prop
  stop : Nat → Hp → Prop
/-- the iterator's own objects may turn: they are not the frame's, not pinned, younger than the entry (or a comprehension's own) -/
def FpOk (X : Cx) (pins : List (Addr × Obj)) (H : Hp) (b : Addr) : Prop :=
  H b = none ∧ b ≠ X.env.locals ∧ b ∉ X.fs ∧ (b ∈ X.ex ∨ X.s₀.heap.objs.size ≤ b) ∧ (∀ x c, X.env.cells.lookup x = some c → c ≠ b) ∧ ∀ p ∈ X.pn ++ pins, p.1 ≠ b
theorem Inv.fpOk {X : Cx} {pins : List (Addr × Obj)} {σ : St} {H H' : Hp} {s : Shared} {b : Addr} (I : Inv X pins σ H s) (hb : s.heap.objs.size ≤ b) (hn : H' b = none) : FpOk X pins H' b := by
  refine ⟨hn, Nat.ne_of_gt (Nat.lt_of_lt_of_le I.lt hb), I.nofs hb, .inr (Nat.le_trans I.sz hb), fun x c e z => ?_, fun p hp z => ?_⟩
  · obtain ⟨v, q⟩ := I.cell x c e
    exact absurd (Nat.lt_of_lt_of_le q.lt (by rw [z]; exact hb)) (Nat.lt_irrefl _)
  · exact absurd (Nat.lt_of_lt_of_le (Heap.lt_size (I.pin p hp).1) (by rw [z]; exact hb)) (Nat.lt_irrefl _)
structure Turn (P : Program) (w : World) (K : PySem.W.Frag) (tg : Expr) (J : It) (fp : List Addr) (it : Addr) (tn : Nat → Heap → Prop) : Prop where
  mem : it ∈ fp
  obj : ∀ i h, tn i h → ∀ b ∈ fp, ∃ o, h.get? b = some o ∧ ∀ v, o.data ≠ .cell v
  keep : ∀ i h h', tn i h → (∀ b ∈ fp, ∀ o, h.get? b = some o → h'.get? b = some o) → tn i h'
  item : ∀ (X : Cx), X.prog = P → X.w = w → X.K = K → X.calm = true → ∀ (i : Nat) (pins : List (Addr × Obj)) (s : Shared) (σ : St) (H : Hp) (E : Value → Shared → Prop), Inv X pins σ H s → (∀ b ∈ fp, FpOk X pins H b) → tn i s.heap → J.go i H →
    wpAny (model P w) X.A (pyNext (.ref it)) (fun r s1 => ∃ u, r = some u ∧
      wpAny (model P w) X.A (letOwnedTupleGo tg (.ref it) u) (fun _ s2 => ∃ x H', Inv X pins σ H' s2 ∧ RelV x u ∧ J.yld i H x H' ∧ tn (i + 1) s2.heap ∧ ∀ b ∈ fp, H' b = none) E s1) E s
  done : ∀ (X : Cx), X.prog = P → X.w = w → X.K = K → X.calm = true → ∀ (i : Nat) (pins : List (Addr × Obj)) (s : Shared) (σ : St) (H : Hp) (E : Value → Shared → Prop), Inv X pins σ H s → (∀ b ∈ fp, FpOk X pins H b) → tn i s.heap → J.stop i H →
    wpAny (model P w) X.A (pyNext (.ref it)) (fun r s1 => r = none ∧ Inv X pins σ H s1) E s
  self : ∀ (A : Around) (i : Nat) (s : Shared) (Q : Value → Shared → Prop) (E : Value → Shared → Prop), tn i s.heap → Q (.ref it) s → wpAny (model P w) A (pyIter (.ref it)) Q E s
abbrev TI := St → Hp → (It → Hp → Prop) → Prop
/-- an iterator has come -/
def PIE (X : Cx) (pins : List (Addr × Obj)) (σ : St) (tg : Expr) (R : It → Hp → Prop) (itv : Value) (s2 : Shared) : Prop :=
  ∃ (it : Addr) (fp : List Addr) (tn : Nat → Heap → Prop) (J : It) (H' : Hp), itv = .ref it ∧ Inv X pins σ H' s2 ∧ Turn X.prog X.w X.K tg J fp it tn ∧ tn 0 s2.heap ∧ (∀ b ∈ fp, FpOk X pins H' b) ∧ R J H'
def PI (X : Cx) (tg iter : Expr) (wi : TI) : Prop :=
  ∀ (pins : List (Addr × Obj)) (s : Shared) (σ : St) (H : Hp) (R : It → Hp → Prop), Inv X pins σ H s → wi σ H R →
    wpAny (model X.prog X.w) X.A (eval iter X.env) (fun v s1 => wpAny (model X.prog X.w) X.A (pyIter v) (PIE X pins σ tg R) X.xe s1) X.xe s

/-- the step ahead of the store is nothing for an iterator that keeps no tuple -/
theorem go_of {M : Model} {A : Around} {E : Value → Shared → Prop} {s : Shared} {tg : Expr} {it : Addr} {u : Value} {o : Obj} {n : String} {vs : Array Value} {Q : Unit → Shared → Prop} (ho : s.heap.get? it = some o) (hc : o.cls = .type n) (hd : o.data = .fields vs)
    (hn : ["enumerate", "zip", "dict_itemiterator", "dict_reverseitemiterator", "odict_iterator", "itertools.zip_longest", "itertools.pairwise"].contains n = false) (hQ : Q () s) : wpAny M A (letOwnedTupleGo tg (.ref it) u) Q E s := by
  unfold letOwnedTupleGo
  cases tg <;> first
    | exact wpAny_pure hQ
    | (cases u <;> first
        | exact wpAny_pure hQ
        | (refine wpAny_bind (wpAny_load ho ?_)
           rw [hc, hd]
           show wpAny M A (if (["enumerate", "zip", "dict_itemiterator", "dict_reverseitemiterator", "odict_iterator", "itertools.zip_longest", "itertools.pairwise"].contains n && vs[0]? == some (rawInt _)) = true then _ else _) Q E s
           rw [if_neg (by intro h; rw [hn, Bool.false_and] at h; cases h)]
           exact wpAny_pure hQ))

/-- the list at a, as it stands at each turn (a loop may append to it) -/
def Itl (K : PySem.W.Frag) (a : Addr) : It :=
  ⟨fun i H => ∃ xs x, SqL K H a xs ∧ xs[i]? = some x, fun i H x H' => H' = H ∧ ∀ xs, SqL K H a xs → xs[i]? = some x, fun i H => ∃ xs, SqL K H a xs ∧ xs.length ≤ i⟩
def Itt (K : PySem.W.Frag) (a : Addr) : It :=
  ⟨fun i H => ∃ xs x, SqT K H a xs ∧ xs[i]? = some x, fun i H x H' => H' = H ∧ ∀ xs, SqT K H a xs → xs[i]? = some x, fun i H => ∃ xs, SqT K H a xs ∧ xs.length ≤ i⟩
/-- lo, lo + 1, .. (n of them) -/
def Itr (lo : Int) (n : Nat) : It := ⟨fun i _ => i < n, fun i H x H' => H' = H ∧ x = .int (lo + i), fun i _ => n ≤ i⟩
theorem turn_list {P : Program} {w : World} {K : PySem.W.Frag} {tg : Expr} (a it : Addr) : Turn P w K tg (Itl K a) [it] it (fun i h => h.IsListIter it a i) where
  mem := by simp
  obj := fun i h st b hb => by
    have e : b = it := by simpa using hb
    subst e
    obtain ⟨o, e, c, d⟩ := st
    exact ⟨o, e, fun v z => by rw [d] at z; cases z⟩
  keep := fun i h h' st k => st.at fun o e => k it (by simp) o e
  item := by
    intro X hP hw hK hc i pins s σ H E I hf st hg
    subst hP hw hK
    obtain ⟨xs, x, hq, hx⟩ := hg
    obtain ⟨its, rv, p, hz⟩ := I.list hq
    obtain ⟨u, hu, ru⟩ := rv.get hx
    obtain ⟨f0, f1, f2, f3, f4, f5⟩ := hf it (by simp)
    refine wpAny_pyNext_list_item st p.isList (x := u) (by simpa using hu) fun h' st' sb => ?_
    have I1 : Inv X pins σ H { s with heap := h' } := I.turned (t' := s.toks) (fun b o hb e => (sb.2 b hb).trans e) f0 f1 f3 f4 f5
    obtain ⟨o, e, c, d⟩ := id st'
    exact ⟨u, rfl, go_of (s := { s with heap := h' }) e c d (by decide) ⟨x, H, I1, ru, ⟨rfl, fun ys hy => by rw [I.list_inj hy hq]; exact hx⟩, st', fun b hb => (hf b hb).1⟩⟩
  done := by
    intro X hP hw hK hc i pins s σ H E I hf st hg
    subst hP hw hK
    obtain ⟨xs, hq, hx⟩ := hg
    obtain ⟨its, rv, p, hz⟩ := I.list hq
    obtain ⟨f0, f1, f2, f3, f4, f5⟩ := hf it (by simp)
    have hl := rv.length
    exact wpAny_pyNext_list_end (I.ok.hd hc) st p.isList (by simp; omega) fun h' eb => ⟨rfl, I.turned (t' := s.toks) (fun b o hb e => eb b o hb e) f0 f1 f3 f4 f5⟩
  self := fun _ _ _ _ _ st h => wpAny_pyIter_listiter st h
theorem turn_tuple {P : Program} {w : World} {K : PySem.W.Frag} {tg : Expr} (a it : Addr) : Turn P w K tg (Itt K a) [it] it (fun i h => h.IsTupleIter it a i) where
  mem := by simp
  obj := fun i h st b hb => by
    have e : b = it := by simpa using hb
    subst e
    obtain ⟨o, e, c, d⟩ := st
    exact ⟨o, e, fun v z => by rw [d] at z; cases z⟩
  keep := fun i h h' st k => st.at fun o e => k it (by simp) o e
  item := by
    intro X hP hw hK hc i pins s σ H E I hf st hg
    subst hP hw hK
    obtain ⟨xs, x, hq, hx⟩ := hg
    obtain ⟨its, rv, p, hz⟩ := I.tuple hq
    obtain ⟨u, hu, ru⟩ := rv.get hx
    obtain ⟨f0, f1, f2, f3, f4, f5⟩ := hf it (by simp)
    refine wpAny_pyNext_tuple_item st (show s.heap.IsTuple a its.toArray from p) (x := u) (by simpa using hu) fun h' st' sb => ?_
    have I1 : Inv X pins σ H { s with heap := h' } := I.turned (t' := s.toks) (fun b o hb e => (sb.2 b hb).trans e) f0 f1 f3 f4 f5
    obtain ⟨o, e, c, d⟩ := id st'
    exact ⟨u, rfl, go_of (s := { s with heap := h' }) e c d (by decide) ⟨x, H, I1, ru, ⟨rfl, fun ys hy => by rw [I.tuple_inj hy hq]; exact hx⟩, st', fun b hb => (hf b hb).1⟩⟩
  done := by
    intro X hP hw hK hc i pins s σ H E I hf st hg
    subst hP hw hK
    obtain ⟨xs, hq, hx⟩ := hg
    obtain ⟨its, rv, p, hz⟩ := I.tuple hq
    obtain ⟨f0, f1, f2, f3, f4, f5⟩ := hf it (by simp)
    have hl := rv.length
    exact wpAny_pyNext_tuple_end (I.ok.hd hc) st (show s.heap.IsTuple a its.toArray from p) (by simp; omega) fun h' eb => ⟨rfl, I.turned (t' := s.toks) (fun b o hb e => eb b o hb e) f0 f1 f3 f4 f5⟩
  self := fun _ _ _ _ _ st h => wpAny_pyIter_tupleiter st h
theorem turn_range {P : Program} {w : World} {K : PySem.W.Frag} {tg : Expr} (it : Addr) (lo : Int) (n : Nat) : Turn P w K tg (Itr lo n) [it] it (fun i h => IsRangeIter h it (lo + (i : Nat) * 1) ((n : Int) - (i : Nat)) 1) where
  mem := by simp
  obj := fun i h st b hb => by
    have e : b = it := by simpa using hb
    subst e
    exact ⟨_, st, fun v z => by
      have z' : Data.fields _ = Data.cell v := z
      cases z'⟩
  keep := fun i h h' st k => k it (by simp) _ st
  item := by
    intro X hP hw hK hc i pins s σ H E I hf st hg
    subst hP hw hK
    obtain ⟨f0, f1, f2, f3, f4, f5⟩ := hf it (by simp)
    have W := Walks.range (prog := X.prog) (w := X.w) (I.ok.hd hc) it lo 1 n
    refine W.item i s _ _ hg st fun v h' tk hv st' kk => ?_
    obtain ⟨t, rfl⟩ := hv
    have I1 : Inv X pins σ H { s with heap := h', toks := tk } := I.turned (fun b o hb e => kk b o (by simpa using hb) e) f0 f1 f3 f4 f5
    refine ⟨_, rfl, go_of (s := { s with heap := h', toks := tk }) (n := "range_iterator") st' rfl rfl (by decide) ⟨.int (lo + i), H, I1, ⟨t, ?_⟩, ⟨rfl, rfl⟩, st', fun b hb => (hf b hb).1⟩⟩
    rw [Int.mul_one]
  done := by
    intro X hP hw hK hc i pins s σ H E I hf st hg
    subst hP hw hK
    obtain ⟨f0, f1, f2, f3, f4, f5⟩ := hf it (by simp)
    exact wpAny_pyNext_range_end (I.ok.hd hc) st (by have : n ≤ i := hg; omega) fun h' eb => ⟨rfl, I.turned (t' := s.toks) (fun b o hb e => eb b o hb e) f0 f1 f3 f4 f5⟩
  self := fun _ _ _ _ _ st h => wpAny_pyIter_rangeiter st h
end L2

namespace L2
open PySem PySem.Spec PyProof.Rows
section
variable {X : Cx} {tg : Expr}
def iList (K : PySem.W.Frag) (tl : TE) : TI := fun σ H R => tl σ H fun x H1 => ∃ a, x = .ref a ∧ (∃ xs, SqL K H1 a xs) ∧ R (Itl K a) H1
def iTup (K : PySem.W.Frag) (tl : TE) : TI := fun σ H R => tl σ H fun x H1 => ∃ a, x = .ref a ∧ (∃ xs, SqT K H1 a xs) ∧ R (Itt K a) H1
theorem pi_list {l : Expr} {tl : TE} (hl : PE X l tl) : PI X tg l (iList X.K tl) := by
  intro pins s σ H R I h
  refine thn (hl pins s σ H _ I h) fun v s1 ⟨x, H1, I1, r1, q1⟩ => ?_
  obtain ⟨a, e, ⟨xs, hq⟩, q⟩ := q1
  subst e
  cases r1
  obtain ⟨its, rv, p, hz⟩ := I1.list hq
  refine wpAny_pyIter_list p.isList ?_
  refine ⟨s1.heap.objs.size, [s1.heap.objs.size], _, _, H1, rfl, I1.kept (t' := s1.toks) fun b o e => Heap.get?_push_of_some _ e, turn_list a _, ⟨_, Heap.get?_push_size _ rfl, rfl, rfl⟩, fun b hb => ?_, q⟩
  have e : b = s1.heap.objs.size := by simpa using hb
  subst e
  exact I1.fpOk (Nat.le_refl _) (I1.hok.fresh (Nat.le_refl _))
theorem pi_tup {l : Expr} {tl : TE} (hl : PE X l tl) : PI X tg l (iTup X.K tl) := by
  intro pins s σ H R I h
  refine thn (hl pins s σ H _ I h) fun v s1 ⟨x, H1, I1, r1, q1⟩ => ?_
  obtain ⟨a, e, ⟨xs, hq⟩, q⟩ := q1
  subst e
  cases r1
  obtain ⟨its, rv, p, hz⟩ := I1.tuple hq
  refine wpAny_pyIter_tuple (show s1.heap.IsTuple a its.toArray from p) ?_
  refine ⟨s1.heap.objs.size, [s1.heap.objs.size], _, _, H1, rfl, I1.kept (t' := s1.toks) fun b o e => Heap.get?_push_of_some _ e, turn_tuple a _, ⟨_, Heap.get?_push_size _ rfl, rfl, rfl⟩, fun b hb => ?_, q⟩
  have e : b = s1.heap.objs.size := by simpa using hb
  subst e
  exact I1.fpOk (Nat.le_refl _) (I1.hok.fresh (Nat.le_refl _))
/-- a range object just made, walked -/
theorem range_it {pins : List (Addr × Obj)} {σ : St} {H : Hp} {s : Shared} {R : It → Hp → Prop} {E : Value → Shared → Prop} {lo hi : Int} {t u v : Tok} {tk : Nat} (I : Inv X pins σ H s) (h1 : -(2 ^ 62) ≤ lo) (h2 : lo < 2 ^ 62) (h3 : -(2 ^ 62) ≤ hi) (h4 : hi < 2 ^ 62)
    (q : R (Itr lo (hi - lo).toNat) H) : wpAny (model X.prog X.w) X.A (pyIter (.ref s.heap.objs.size)) (PIE X pins σ tg R) E { s with heap := s.heap.push { cls := .type "range", data := .fields #[.int lo t, .int hi u, .int 1 v] }, toks := tk } := by
  refine wpAny_pyIter_range (IsRange.new ..) (small_one h1 h2 h3 h4) ?_
  have I1 : Inv X pins σ H { s with heap := s.heap.push { cls := .type "range", data := .fields #[.int lo t, .int hi u, .int 1 v] }, toks := tk } := I.kept fun b o e => Heap.get?_push_of_some _ e
  refine ⟨(s.heap.push { cls := .type "range", data := .fields #[.int lo t, .int hi u, .int 1 v] }).objs.size, [(s.heap.push { cls := .type "range", data := .fields #[.int lo t, .int hi u, .int 1 v] }).objs.size], _, _, H, rfl,
    I1.kept (t' := tk) fun b o e => Heap.get?_push_of_some _ e, turn_range _ lo (hi - lo).toNat, ?_, fun b hb => ?_, q⟩
  · have e1 : lo + ((0 : Nat) : Int) * 1 = lo := by simp
    have e2 : (((hi - lo).toNat : Nat) : Int) - ((0 : Nat) : Int) = Builtin.Range.rangeSize lo hi 1 := by rw [rangeSize_one]; split <;> omega
    show IsRangeIter _ _ (lo + ((0 : Nat) : Int) * 1) ((((hi - lo).toNat : Nat) : Int) - ((0 : Nat) : Int)) 1
    rw [e1, e2]
    exact Heap.get?_push_size _ rfl
  · have e : b = (s.heap.push { cls := .type "range", data := .fields #[.int lo t, .int hi u, .int 1 v] }).objs.size := by simpa using hb
    subst e
    exact I1.fpOk (Nat.le_refl _) (I1.hok.fresh (Nat.le_refl _))
def iRng1 (ta : TA) : TI := fun σ H R => ta σ H fun vs H1 => ∃ j : Int, vs = [.int j] ∧ -(2 ^ 62) ≤ j ∧ j < 2 ^ 62 ∧ R (Itr 0 j.toNat) H1
def iRng2 (ta : TA) : TI := fun σ H R => ta σ H fun vs H1 => ∃ i j : Int, vs = [.int i, .int j] ∧ (-(2 ^ 62) ≤ i ∧ i < 2 ^ 62 ∧ -(2 ^ 62) ≤ j ∧ j < 2 ^ 62) ∧ R (Itr i (j - i).toNat) H1
theorem pi_range1 {a : Expr} {ta : TA} {p pos : Pos} (hg : Gl X "range") (hm : X.mg "range" = none) (ha : PA X [a] ta) (hs : starEach [a] X.env = [(false, eval a X.env)] := by rfl) : PI X tg (.Call (.Name "range" p) [a] [] pos) (iRng1 ta) := by
  intro pins s σ H R I h
  refine Call_ (ld_blt I hg hm boot_range (PyProof.Rows.callWith_type1 (thn (ha pos pins s σ H _ I h) fun us s1 ⟨vs, H1, I1, r1, q1⟩ => ?_) hs rfl))
  obtain ⟨j, e, q1, q2, q⟩ := q1
  subst e
  cases r1 with
  | cons r rr =>
    cases rr
    obtain ⟨t, rfl⟩ := r
    exact call_range_1 (range_it I1 (by omega) (by omega) q1 q2 (by simpa using q))
theorem pi_range2 {a b : Expr} {ta : TA} {p pos : Pos} (hg : Gl X "range") (hm : X.mg "range" = none) (ha : PA X [a, b] ta) (hs : starEach [a, b] X.env = [(false, eval a X.env), (false, eval b X.env)] := by rfl) (hs2 : starEach [b] X.env = [(false, eval b X.env)] := by rfl) :
    PI X tg (.Call (.Name "range" p) [a, b] [] pos) (iRng2 ta) := by
  intro pins s σ H R I h
  refine Call_ (ld_blt I hg hm boot_range (PyProof.Rows.callWith_type1 (thn (ha pos pins s σ H _ I h) fun us s1 ⟨vs, H1, I1, r1, q1⟩ => ?_) (by rw [hs, hs2]) (by rw [hs2]; rfl)))
  obtain ⟨i, j, e, ⟨q1, q2, q3, q4⟩, q⟩ := q1
  subst e
  cases r1 with
  | cons r rr =>
    cases rr with
    | cons r' rr =>
      cases rr
      obtain ⟨t, rfl⟩ := r
      obtain ⟨t', rfl⟩ := r'
      exact call_range_2 (range_it I1 q1 q2 q3 q4 q)

/-! ### for -/
/-- W: the invariant by the turn and a measure; N: what the body is to reach -/
def tFor (wi : TI) (g : TG) (tb : TS) : TS := fun D σ H => wi σ H fun J H1 => ∃ W : Nat → Nat → St → Hp → Prop, (∃ m, W 0 m σ H1) ∧ ∀ i m σ H, W i m σ H →
  (J.stop i H ∧ D.nx σ H) ∨ (J.go i H ∧ ∃ N : St → Hp → Prop, (∀ σ' H', N σ' H' → ∃ m', m' < m ∧ W (i + 1) m' σ' H') ∧ ∀ x H', J.yld i H x H' → g x σ H' fun σ2 H2 => tb { D with nx := N, ct := N, bk := D.nx } σ2 H2)
/-- the records at fp as they stand -/
def pinsAt (fp : List Addr) (h : Heap) : List (Addr × Obj) := fp.filterMap fun b => (h.get? b).map fun o => (b, o)
theorem mem_pinsAt {fp : List Addr} {h : Heap} {b : Addr} {o : Obj} (hb : b ∈ fp) (e : h.get? b = some o) : (b, o) ∈ pinsAt fp h := List.mem_filterMap.mpr ⟨b, hb, by rw [e]; rfl⟩
theorem of_pinsAt {fp : List Addr} {h : Heap} {p : Addr × Obj} (hp : p ∈ pinsAt fp h) : p.1 ∈ fp ∧ h.get? p.1 = some p.2 := by
  obtain ⟨b, hb, e⟩ := List.mem_filterMap.mp hp
  cases q : h.get? b with
  | none => rw [q] at e; cases e
  | some o =>
    rw [q] at e
    have e' : (b, o) = p := Option.some.inj e
    subst e'
    exact ⟨hb, q⟩
theorem Inv.pinned {pins : List (Addr × Obj)} {σ : St} {H : Hp} {s : Shared} {fp : List Addr} (I : Inv X pins σ H s) (hf : ∀ b ∈ fp, FpOk X pins H b) (ho : ∀ b ∈ fp, ∃ o, s.heap.get? b = some o ∧ ∀ v, o.data ≠ .cell v) : Inv X (pins ++ pinsAt fp s.heap) σ H s :=
  I.pins_of fun p hp => (List.mem_append.mp hp).elim (fun z => I.pin p (List.mem_append_right _ z)) fun z => by
    obtain ⟨hb, e⟩ := of_pinsAt z
    obtain ⟨f0, f1, f2, _⟩ := hf p.1 hb
    obtain ⟨o, e', d⟩ := ho p.1 hb
    rw [e] at e'; cases e'
    exact ⟨e, f0, f1, f2, d⟩
theorem Inv.unpinned {pins pl : List (Addr × Obj)} {σ : St} {H : Hp} {s : Shared} (I : Inv X (pins ++ pl) σ H s) : Inv X pins σ H s := I.pins_of fun p hp => I.pin p (List.mem_append_right _ (List.mem_append_left _ hp))
theorem ps_for {iter : Expr} {body : List Stmt} {wi : TI} {g : TG} {tb : TS} {pos : Pos} (hp : PassesOwn (model X.prog X.w) X.A X.env X.xe) (hc : X.calm = true) (hi : PI X tg iter wi) (hg : PG X tg g) (hb : PSs X body tb)
    (hs : ∀ x, foldedSetIterable iter X.env x = pure x := by intro _; rfl) : PS X (.For tg iter body [] pos) (tFor wi g tb) := by
  intro pins s σ H D I h
  refine wpAny_For (thn (hi pins s σ H _ I h) fun v s1 h1 => thn h1 fun itv s2 h2 => ?_) hs
  obtain ⟨it, fp, tn, J, H2, e, I2, T, st2, f2, W, ⟨m0, w0⟩, turn⟩ := h2
  subst e
  -- what stays true of the iterator's objects through the loop
  have stat : ∀ {H' : Hp}, (∀ b ∈ fp, H' b = none) → ∀ b ∈ fp, FpOk X pins H' b := fun hn b hb => ⟨hn b hb, (f2 b hb).2⟩
  refine codeAny_forLoop_any (fun n s' => ∃ i σ' H', Inv X pins σ' H' s' ∧ tn i s'.heap ∧ (∀ b ∈ fp, H' b = none) ∧ W i n σ' H') ?_ m0 ⟨0, σ, H2, I2, st2, fun b hb => (f2 b hb).1, w0⟩
  rintro n s3 ⟨i, σ3, H3, I3, st3, fr3, w3⟩
  rcases turn i n σ3 H3 w3 with ⟨stop, qn⟩ | ⟨go, N, hN, step⟩
  · refine wpAny_passesOwn hp (thn (T.done X rfl rfl rfl hc i pins s3 σ3 H3 X.xe I3 (stat fr3) st3 stop) fun r s4 ⟨hr, I4⟩ => ?_)
    subst hr
    exact wpAny_execs_nil ⟨σ3, H3, I4, qn⟩
  · refine wpAny_passesOwn hp (thn (T.item X rfl rfl rfl hc i pins s3 σ3 H3 X.xe I3 (stat fr3) st3 go) fun r s4 ⟨u, hr, h4⟩ => ?_)
    subst hr
    refine wpAny_passesOwn hp (thn h4 fun _ s5 ⟨x, H5, I5, r5, y5, st5, fr5⟩ => ?_)
    have I5' := I5.pinned (stat fr5) (T.obj _ _ st5)
    refine wpAny_passesOwn hp (thn (hg _ s5 σ3 H5 x u _ I5' r5 (step x H5 y5)) fun _ s6 ⟨σ6, H6, I6, q6⟩ => ?_)
    refine wpAny_passesOwn hp (thn (hb _ s6 σ6 H6 _ I6 q6) fun f s7 q7 => ?_)
    have again : ∀ {σ7 : St} {H7 : Hp}, Inv X (pins ++ pinsAt fp s5.heap) σ7 H7 s7 → N σ7 H7 → ∃ m, m < n ∧ ∃ i σ' H', Inv X pins σ' H' s7 ∧ tn i s7.heap ∧ (∀ b ∈ fp, H' b = none) ∧ W i m σ' H' := fun {σ7 H7} I7 n7 => by
      obtain ⟨m', hm, w7⟩ := hN σ7 H7 n7
      refine ⟨m', hm, i + 1, σ7, H7, I7.unpinned, T.keep _ _ _ st5 fun b hb o e => (I7.pin (b, o) (List.mem_append_right _ (List.mem_append_right _ (mem_pinsAt hb e)))).1, fun b hb => ?_, w7⟩
      obtain ⟨o, e, d⟩ := T.obj _ _ st5 b hb
      exact (I7.pin (b, o) (List.mem_append_right _ (List.mem_append_right _ (mem_pinsAt hb e)))).2.1
    cases f with
    | next => obtain ⟨σ7, H7, I7, n7⟩ := q7; exact again I7 n7
    | cont => obtain ⟨σ7, H7, I7, n7⟩ := q7; exact again I7 n7
    | brk => obtain ⟨σ7, H7, I7, q7⟩ := q7; exact ⟨σ7, H7, I7.unpinned, q7⟩
    | ret v => obtain ⟨x7, σ7, H7, I7, r7, q7⟩ := q7; exact ⟨x7, σ7, H7, I7.unpinned, r7, q7⟩
end

/-! ### the forms one uses -/
/-- over a list that the body leaves as it is -/
theorem for_list {K : PySem.W.Frag} {a : Addr} {xs : List V} {g : TG} {tb : TS} {D : Ends} {σ : St} {H : Hp} (Pv : Nat → St → Hp → Prop) (h0 : Pv 0 σ H) (hl : ∀ i σ H, i ≤ xs.length → Pv i σ H → SqL K H a xs)
    (hs : ∀ i x σ H, xs[i]? = some x → Pv i σ H → g x σ H fun σ2 H2 => tb { D with nx := Pv (i + 1), ct := Pv (i + 1), bk := D.nx } σ2 H2) (hd : ∀ σ H, Pv xs.length σ H → D.nx σ H) :
    ∃ W : Nat → Nat → St → Hp → Prop, (∃ m, W 0 m σ H) ∧ ∀ i m σ H, W i m σ H →
      ((Itl K a).stop i H ∧ D.nx σ H) ∨ ((Itl K a).go i H ∧ ∃ N : St → Hp → Prop, (∀ σ' H', N σ' H' → ∃ m', m' < m ∧ W (i + 1) m' σ' H') ∧ ∀ x H', (Itl K a).yld i H x H' → g x σ H' fun σ2 H2 => tb { D with nx := N, ct := N, bk := D.nx } σ2 H2) := by
  refine ⟨fun i m σ H => m = xs.length - i ∧ i ≤ xs.length ∧ Pv i σ H, ⟨xs.length, by simp, Nat.zero_le _, h0⟩, ?_⟩
  rintro i m σ H ⟨rfl, hi, p⟩
  have q := hl i σ H hi p
  by_cases hlt : i < xs.length
  · refine .inr ⟨⟨xs, xs[i], q, by simp [hlt]⟩, Pv (i + 1), fun σ' H' p' => ⟨xs.length - (i + 1), by omega, rfl, hlt, p'⟩, fun x H' y => ?_⟩
    obtain ⟨e, y⟩ := y
    subst e
    exact hs i x σ _ (y xs q) p
  · have e : i = xs.length := by omega
    subst e
    exact .inl ⟨⟨xs, q, Nat.le_refl _⟩, hd σ H p⟩
theorem for_tup {K : PySem.W.Frag} {a : Addr} {xs : List V} {g : TG} {tb : TS} {D : Ends} {σ : St} {H : Hp} (Pv : Nat → St → Hp → Prop) (h0 : Pv 0 σ H) (hl : ∀ i σ H, i ≤ xs.length → Pv i σ H → SqT K H a xs)
    (hs : ∀ i x σ H, xs[i]? = some x → Pv i σ H → g x σ H fun σ2 H2 => tb { D with nx := Pv (i + 1), ct := Pv (i + 1), bk := D.nx } σ2 H2) (hd : ∀ σ H, Pv xs.length σ H → D.nx σ H) :
    ∃ W : Nat → Nat → St → Hp → Prop, (∃ m, W 0 m σ H) ∧ ∀ i m σ H, W i m σ H →
      ((Itt K a).stop i H ∧ D.nx σ H) ∨ ((Itt K a).go i H ∧ ∃ N : St → Hp → Prop, (∀ σ' H', N σ' H' → ∃ m', m' < m ∧ W (i + 1) m' σ' H') ∧ ∀ x H', (Itt K a).yld i H x H' → g x σ H' fun σ2 H2 => tb { D with nx := N, ct := N, bk := D.nx } σ2 H2) := by
  refine ⟨fun i m σ H => m = xs.length - i ∧ i ≤ xs.length ∧ Pv i σ H, ⟨xs.length, by simp, Nat.zero_le _, h0⟩, ?_⟩
  rintro i m σ H ⟨rfl, hi, p⟩
  have q := hl i σ H hi p
  by_cases hlt : i < xs.length
  · refine .inr ⟨⟨xs, xs[i], q, by simp [hlt]⟩, Pv (i + 1), fun σ' H' p' => ⟨xs.length - (i + 1), by omega, rfl, hlt, p'⟩, fun x H' y => ?_⟩
    obtain ⟨e, y⟩ := y
    subst e
    exact hs i x σ _ (y xs q) p
  · have e : i = xs.length := by omega
    subst e
    exact .inl ⟨⟨xs, q, Nat.le_refl _⟩, hd σ H p⟩
theorem for_range {lo : Int} {n : Nat} {g : TG} {tb : TS} {D : Ends} {σ : St} {H : Hp} (Pv : Nat → St → Hp → Prop) (h0 : Pv 0 σ H)
    (hs : ∀ i σ H, i < n → Pv i σ H → g (.int (lo + i)) σ H fun σ2 H2 => tb { D with nx := Pv (i + 1), ct := Pv (i + 1), bk := D.nx } σ2 H2) (hd : ∀ σ H, Pv n σ H → D.nx σ H) :
    ∃ W : Nat → Nat → St → Hp → Prop, (∃ m, W 0 m σ H) ∧ ∀ i m σ H, W i m σ H →
      ((Itr lo n).stop i H ∧ D.nx σ H) ∨ ((Itr lo n).go i H ∧ ∃ N : St → Hp → Prop, (∀ σ' H', N σ' H' → ∃ m', m' < m ∧ W (i + 1) m' σ' H') ∧ ∀ x H', (Itr lo n).yld i H x H' → g x σ H' fun σ2 H2 => tb { D with nx := N, ct := N, bk := D.nx } σ2 H2) := by
  refine ⟨fun i m σ H => m = n - i ∧ i ≤ n ∧ Pv i σ H, ⟨n, by simp, Nat.zero_le _, h0⟩, ?_⟩
  rintro i m σ H ⟨rfl, hi, p⟩
  by_cases hlt : i < n
  · refine .inr ⟨hlt, Pv (i + 1), fun σ' H' p' => ⟨n - (i + 1), by omega, rfl, hlt, p'⟩, fun x H' y => ?_⟩
    obtain ⟨e, y⟩ := y
    subst e y
    exact hs i σ _ hlt p
  · have e : i = n := by omega
    subst e
    exact .inl ⟨Nat.le_refl _, hd σ H p⟩
/-- while, by a word and a measure of the state -/
theorem while_by {c : TT} {tb : TS} {D : Ends} {σ : St} {H : Hp} (Pv : St → Hp → Prop) (μ : St → Hp → Nat) (h0 : Pv σ H)
    (hs : ∀ σ H, Pv σ H → c σ H fun b H1 => if b = true then tb { D with nx := fun σ' H' => Pv σ' H' ∧ μ σ' H' < μ σ H, ct := fun σ' H' => Pv σ' H' ∧ μ σ' H' < μ σ H, bk := D.nx } σ H1 else D.nx σ H1)
    (mono : ∀ σ H Q Q', (∀ b H1, Q b H1 → Q' b H1) → c σ H Q → c σ H Q') : tWhile c tb D σ H := by
  refine ⟨fun m σ H => m = μ σ H ∧ Pv σ H, ⟨_, rfl, h0⟩, ?_⟩
  rintro m σ H ⟨rfl, p⟩
  refine mono σ H _ _ (fun b H1 q => ?_) (hs σ H p)
  cases b with
  | true => exact ⟨_, fun σ' H' ⟨p', l⟩ => ⟨_, l, rfl, p'⟩, q⟩
  | false => exact q
end L2

namespace L2
open PySem PySem.Spec PyProof.Rows

abbrev R2 := V → V → Hp → VK → Prop
/-- a two-place operation on values: f is binaryOp op, inplaceOp op or compareOp op -/
def OpR (X : Cx) (f : Value → Value → Sem Value) (r : R2) : Prop :=
  ∀ (pins : List (Addr × Obj)) (s : Shared) (σ : St) (H : Hp) (x y : V) (v u : Value) (Q : VK), Inv X pins σ H s → RelV x v → RelV y u → r x y H Q →
    wpAny (model X.prog X.w) X.A (f v u) (EP X pins σ Q) X.xe s
/-- a one-place operation -/
def UnR (X : Cx) (f : Value → Sem Value) (r : V → Hp → VK → Prop) : Prop :=
  ∀ (pins : List (Addr × Obj)) (s : Shared) (σ : St) (H : Hp) (x : V) (v : Value) (Q : VK), Inv X pins σ H s → RelV x v → r x H Q →
    wpAny (model X.prog X.w) X.A (f v) (EP X pins σ Q) X.xe s
/-- a call of a value that is known (a builtin, a type) with values -/
def CallR (X : Cx) (f : Value) (r : List V → Hp → VK → Prop) : Prop :=
  ∀ (pins : List (Addr × Obj)) (s : Shared) (σ : St) (H : Hp) (xs : List V) (us : List Value) (Q : VK), Inv X pins σ H s → Vals xs us → r xs H Q →
    wpAny (model X.prog X.w) X.A (call f us) (EP X pins σ Q) X.xe s
/-- a value's truth -/
def TruR (X : Cx) (r : V → Hp → (Bool → Hp → Prop) → Prop) : Prop :=
  ∀ (pins : List (Addr × Obj)) (s : Shared) (σ : St) (H : Hp) (x : V) (v : Value) (Q : Bool → Hp → Prop), Inv X pins σ H s → RelV x v → r x H Q →
    wpAny (model X.prog X.w) X.A (truthy v) (TP X pins σ Q) X.xe s

def tOp (r : R2) (ta tb : TE) : TE := fun σ H Q => ta σ H fun x H1 => tb σ H1 fun y H2 => r x y H2 Q
def tUn (r : V → Hp → VK → Prop) (ta : TE) : TE := fun σ H Q => ta σ H fun x H1 => r x H1 Q
/-- ints in, under C, and a value out -/
def rI (C : Int → Int → Prop) (g : Int → Int → V) : R2 := fun x y H Q => ∃ i j, x = .int i ∧ y = .int j ∧ C i j ∧ Q (g i j) H
def rI0 (g : Int → Int → V) : R2 := fun x y H Q => ∃ i j, x = .int i ∧ y = .int j ∧ Q (g i j) H
def rU (g : Int → V) : V → Hp → VK → Prop := fun x H Q => ∃ i, x = .int i ∧ Q (g i) H

section
variable {X : Cx} {a b c : Expr} {ta tb tc : TE} {pos : Pos}

theorem binT (ha : PE X a ta) (hb : PE X b tb) {pins : List (Addr × Obj)} {s : Shared} {σ : St} {H : Hp} {R : V → V → Hp → Prop} (I : Inv X pins σ H s)
    (h : ta σ H fun x H1 => tb σ H1 fun y H2 => R x y H2) {Q : Value → Shared → Prop} {f : Value → Value → Sem Value}
    (hf : ∀ v u s2 x y H2, Inv X pins σ H2 s2 → RelV x v → RelV y u → R x y H2 → wpAny (model X.prog X.w) X.A (f v u) Q X.xe s2) :
    wpAny (model X.prog X.w) X.A (eval a X.env) (fun v s₁ => wpAny (model X.prog X.w) X.A (eval b X.env) (fun u s₂ => wpAny (model X.prog X.w) X.A (f v u) Q X.xe s₂) X.xe s₁) X.xe s := by
  refine thn (ha pins s σ H _ I h) fun v s1 ⟨x, H1, I1, r1, q1⟩ => ?_
  refine thn (hb pins s1 σ H1 _ I1 q1) fun u s2 ⟨y, H2, I2, r2, q2⟩ => ?_
  exact hf v u s2 x y H2 I2 r1 r2 q2

theorem pe_op {op : Operator} {r : R2} (ho : OpR X (binaryOp op) r) (ha : PE X a ta) (hb : PE X b tb) : PE X (.BinOp a op b pos) (tOp r ta tb) := by
  intro pins s σ H Q I h
  exact wpAny_BinOp (binT ha hb I h fun v u s2 x y H2 I2 rx ry q => ho pins s2 σ H2 x y v u Q I2 rx ry q)
theorem pe_un {op : UnaryOp} {r : V → Hp → VK → Prop} (ho : UnR X (unaryOp op) r) (ha : PE X a ta) : PE X (.UnaryOp op a pos) (tUn r ta) := by
  intro pins s σ H Q I h
  exact UnaryOp_ (thn (ha pins s σ H _ I h) fun v s1 ⟨x, H1, I1, r1, q1⟩ => ho pins s1 σ H1 x v Q I1 r1 q1)
/-- a op= e at a name: the name's slot i -/
theorem augR {op : Operator} {r : R2} (ho : OpR X (inplaceOp op) r) {pins : List (Addr × Obj)} {s : Shared} {σ : St} {H : Hp} {x y : V} {v u : Value} {Q : VK} (I : Inv X pins σ H s)
    (rx : RelV x v) (ry : RelV y u) (q : r x y H Q) : wpAny (model X.prog X.w) X.A (inplaceOp op v u) (EP X pins σ Q) X.xe s := ho pins s σ H x y v u Q I rx ry q

/-! ### ints -/
theorem opI {f : Value → Value → Sem Value} {C : Int → Int → Prop} {g : Int → Int → Int}
    (rule : ∀ (i j : Int) (t u : Tok) (s : Shared) (Q : Value → Shared → Prop) (E : Value → Shared → Prop), C i j → Q (.int (g i j) s.toks) { s with toks := s.toks + 1 } → wpAny (model X.prog X.w) X.A (f (.int i t) (.int j u)) Q E s) :
    OpR X f (rI C fun i j => .int (g i j)) := by
  intro pins s σ H x y v u Q I rx ry h
  obtain ⟨i, j, rfl, rfl, hc, q⟩ := h
  obtain ⟨t, rfl⟩ := rx
  obtain ⟨t', rfl⟩ := ry
  exact rule i j t t' s _ _ hc ⟨.int (g i j), H, I.tok _, ⟨_, rfl⟩, q⟩
theorem opI0 {f : Value → Value → Sem Value} {g : Int → Int → Int}
    (rule : ∀ (i j : Int) (t u : Tok) (s : Shared) (Q : Value → Shared → Prop) (E : Value → Shared → Prop), Q (.int (g i j) s.toks) { s with toks := s.toks + 1 } → wpAny (model X.prog X.w) X.A (f (.int i t) (.int j u)) Q E s) :
    OpR X f (rI0 fun i j => .int (g i j)) := by
  intro pins s σ H x y v u Q I rx ry h
  obtain ⟨i, j, rfl, rfl, q⟩ := h
  obtain ⟨t, rfl⟩ := rx
  obtain ⟨t', rfl⟩ := ry
  exact rule i j t t' s _ _ ⟨.int (g i j), H, I.tok _, ⟨_, rfl⟩, q⟩
theorem opB0 {f : Value → Value → Sem Value} {g : Int → Int → Bool}
    (rule : ∀ (i j : Int) (t u : Tok) (s : Shared) (Q : Value → Shared → Prop) (E : Value → Shared → Prop), Q (.bool (g i j)) s → wpAny (model X.prog X.w) X.A (f (.int i t) (.int j u)) Q E s) :
    OpR X f (rI0 fun i j => .bl (g i j)) := by
  intro pins s σ H x y v u Q I rx ry h
  obtain ⟨i, j, rfl, rfl, q⟩ := h
  obtain ⟨t, rfl⟩ := rx
  obtain ⟨t', rfl⟩ := ry
  exact rule i j t t' s _ _ ⟨.bl (g i j), H, I, rfl, q⟩

def CDiv (i j : Int) : Prop := 0 < j ∧ j < 1073741824
def CDivN (i j : Int) : Prop := j ≠ 0 ∧ j.natAbs < 1073741824
def CPow (i j : Int) : Prop := 0 ≤ j ∧ j ≤ 1000000 ∧ i.natAbs < 2 ^ 64
def CMul (i j : Int) : Prop := (-(2 ^ 64) < i ∧ i < 2 ^ 64) ∨ (-(2 ^ 64) < j ∧ j < 2 ^ 64)
theorem CMul.ok {i j : Int} (h : CMul i j) : IntMulOk i j := by
  rcases h with ⟨h1, h2⟩ | ⟨h1, h2⟩
  · exact .of_left (intBits_le_64 h1 h2)
  · exact .of_right (intBits_le_64 h1 h2)
theorem two_pow_nn (k : Nat) : (0 : Int) ≤ 2 ^ k := by
  rw [two_pow_cast]
  exact Int.natCast_nonneg _

theorem op_add : OpR X (binaryOp .Add) (rI0 fun i j => .int (i + j)) := opI0 fun _ _ _ _ _ _ _ q => add_int q
theorem op_sub : OpR X (binaryOp .Sub) (rI0 fun i j => .int (i - j)) := opI0 fun _ _ _ _ _ _ _ q => sub_int q
theorem op_mul : OpR X (binaryOp .Mult) (rI CMul fun i j => .int (i * j)) := opI fun _ _ _ _ _ _ _ hc q => mul_int q hc.ok
/-- // by a positive divisor -/
theorem op_fdiv : OpR X (binaryOp .FloorDiv) (rI CDiv fun i j => .int (i / j)) := opI fun i j _ _ _ _ _ hc q => by
  have h1 : (0 : Int) < j := hc.1
  have h2 : j < 1073741824 := hc.2
  exact floordiv_int (by omega) (by rw [Int.fdiv_eq_ediv_of_nonneg i (by omega)]; exact q) (.inl (PyProof.noPylong_small (by omega)))
theorem op_fdivN : OpR X (binaryOp .FloorDiv) (rI CDivN fun i j => .int (i.fdiv j)) := opI fun _ _ _ _ _ _ _ hc q => floordiv_int hc.1 q (.inl (PyProof.noPylong_small hc.2))
/-- % by a positive divisor of any size -/
theorem op_mod : OpR X (binaryOp .Mod) (rI (fun _ j => 0 < j) fun i j => .int (i % j)) := opI fun i j _ _ _ _ _ hc q => by
  have h1 : (0 : Int) < j := hc
  exact mod_int' (by omega) (by rw [Int.fmod_eq_emod_of_nonneg i (by omega)]; exact q)
theorem op_modN : OpR X (binaryOp .Mod) (rI (fun _ j => j ≠ 0) fun i j => .int (i.fmod j)) := opI fun _ _ _ _ _ _ _ hc q => mod_int' hc q
theorem op_pow : OpR X (binaryOp .Pow) (rI CPow fun i j => .int (i ^ j.toNat)) := opI fun _ _ _ _ _ _ _ hc q => pow_int_small hc.1 hc.2.1 hc.2.2 q
theorem op_shl : OpR X (binaryOp .LShift) (rI CPow fun i j => .int (i * 2 ^ j.toNat)) := opI fun _ _ _ _ _ _ _ hc q => lshift_int_small hc.1 hc.2.1 hc.2.2 q
theorem op_shr : OpR X (binaryOp .RShift) (rI (fun _ j => 0 ≤ j) fun i j => .int (i / 2 ^ j.toNat)) := opI fun i j _ _ _ _ _ hc q =>
  rshift_int hc (by rw [Int.fdiv_eq_ediv_of_nonneg i (two_pow_nn _)]; exact q)
theorem op_and : OpR X (binaryOp .BitAnd) (rI0 fun i j => .int (Builtin.bitAnd i j)) := opI0 fun _ _ _ _ _ _ _ q => and_int q
theorem op_or : OpR X (binaryOp .BitOr) (rI0 fun i j => .int (Builtin.bitOr i j)) := opI0 fun _ _ _ _ _ _ _ q => or_int q
theorem op_xor : OpR X (binaryOp .BitXor) (rI0 fun i j => .int (Builtin.bitXor i j)) := opI0 fun _ _ _ _ _ _ _ q => xor_int q

theorem iop_add : OpR X (inplaceOp .Add) (rI0 fun i j => .int (i + j)) := opI0 fun _ _ _ _ _ _ _ q => iadd_int q
theorem iop_sub : OpR X (inplaceOp .Sub) (rI0 fun i j => .int (i - j)) := opI0 fun _ _ _ _ _ _ _ q => isub_int q
theorem iop_mul : OpR X (inplaceOp .Mult) (rI CMul fun i j => .int (i * j)) := opI fun _ _ _ _ _ _ _ hc q => imul_int q hc.ok
theorem iop_fdiv : OpR X (inplaceOp .FloorDiv) (rI CDiv fun i j => .int (i / j)) := opI fun i j _ _ _ _ _ hc q => by
  have h1 : (0 : Int) < j := hc.1
  have h2 : j < 1073741824 := hc.2
  exact ifloordiv_int (by omega) (by rw [Int.fdiv_eq_ediv_of_nonneg i (by omega)]; exact q) (.inl (PyProof.noPylong_small (by omega)))
theorem iop_mod : OpR X (inplaceOp .Mod) (rI (fun _ j => 0 < j) fun i j => .int (i % j)) := opI fun i j _ _ _ _ _ hc q => by
  have h1 : (0 : Int) < j := hc
  exact imod_int (by omega) (by rw [Int.fmod_eq_emod_of_nonneg i (by omega)]; exact q)
theorem iop_shl : OpR X (inplaceOp .LShift) (rI CPow fun i j => .int (i * 2 ^ j.toNat)) := opI fun _ _ _ _ _ _ _ hc q => ilshift_int_small hc.1 hc.2.1 hc.2.2 q
theorem iop_shr : OpR X (inplaceOp .RShift) (rI (fun _ j => 0 ≤ j) fun i j => .int (i / 2 ^ j.toNat)) := opI fun i j _ _ _ _ _ hc q =>
  irshift_int hc (by rw [Int.fdiv_eq_ediv_of_nonneg i (two_pow_nn _)]; exact q)
theorem iop_and : OpR X (inplaceOp .BitAnd) (rI0 fun i j => .int (Builtin.bitAnd i j)) := opI0 fun _ _ _ _ _ _ _ q => iand_int q
theorem iop_or : OpR X (inplaceOp .BitOr) (rI0 fun i j => .int (Builtin.bitOr i j)) := opI0 fun _ _ _ _ _ _ _ q => ior_int q
theorem iop_xor : OpR X (inplaceOp .BitXor) (rI0 fun i j => .int (Builtin.bitXor i j)) := opI0 fun _ _ _ _ _ _ _ q => ixor_int q

theorem unI {f : Value → Sem Value} {g : Int → Int}
    (rule : ∀ (i : Int) (t : Tok) (s : Shared) (Q : Value → Shared → Prop) (E : Value → Shared → Prop), Q (.int (g i) s.toks) { s with toks := s.toks + 1 } → wpAny (model X.prog X.w) X.A (f (.int i t)) Q E s) :
    UnR X f (rU fun i => .int (g i)) := by
  intro pins s σ H x v Q I rx h
  obtain ⟨i, rfl, q⟩ := h
  obtain ⟨t, rfl⟩ := rx
  exact rule i t s _ _ ⟨.int (g i), H, I.tok _, ⟨_, rfl⟩, q⟩
theorem un_neg : UnR X (unaryOp .USub) (rU fun i => .int (-i)) := unI fun _ _ _ _ _ q => neg_int q
theorem un_inv : UnR X (unaryOp .Invert) (rU fun i => .int (Builtin.bitNot i)) := unI fun _ _ _ _ _ q => invert_int q

/-! ### bools among ints: n += (a < b) -/
theorem op_add_ib : OpR X (binaryOp .Add) (fun x y H Q => ∃ i k, x = .int i ∧ y = .bl k ∧ Q (.int (i + b2i k)) H) := by
  intro pins s σ H x y v u Q I rx ry h
  obtain ⟨i, k, rfl, rfl, q⟩ := h
  obtain ⟨t, rfl⟩ := rx
  cases ry
  exact add_int_bool ⟨.int (i + b2i k), H, I.tok _, ⟨_, rfl⟩, q⟩
end

/-! ### comparisons -/
/-- the scalars that == tells apart as data does -/
def scal : V → V → Bool
  | .non, .non => true | .non, .int _ => true | .int _, .non => true | .non, .bl _ => true | .bl _, .non => true | .non, .str _ => true | .str _, .non => true
  | .int _, .int _ => true | .bl _, .bl _ => true | .str _, .str _ => true | .byt _, .byt _ => true
  | .int _, .str _ => true | .str _, .int _ => true | .bl _, .str _ => true | .str _, .bl _ => true
  | _, _ => false
def rEq : R2 := fun x y H Q => scal x y = true ∧ Q (.bl (decide (x = y))) H
def rNe : R2 := fun x y H Q => scal x y = true ∧ Q (.bl (!decide (x = y))) H

theorem dec_int {i j : Int} : decide (V.int i = V.int j) = (i == j) := by
  rw [Bool.eq_iff_iff]
  simp
theorem dec_bl {i j : Bool} : decide (V.bl i = V.bl j) = (i == j) := by
  rw [Bool.eq_iff_iff]
  simp
theorem dec_str {i j : Str} : decide (V.str i = V.str j) = (i == j) := by
  rw [Bool.eq_iff_iff]
  simp
theorem dec_byt {i j : Array UInt8} : decide (V.byt i = V.byt j) = (i.toList == j.toList) := by
  rw [Bool.eq_iff_iff]
  cases i
  cases j
  simp

section
variable {X : Cx} {a b c : Expr} {ta tb tc : TE} {pos : Pos}
theorem fin_bl {pins : List (Addr × Obj)} {σ : St} {H : Hp} {s : Shared} {Q : VK} {k k' : Bool} (I : Inv X pins σ H s) (q : Q (.bl k) H) (e : k = k') : EP X pins σ Q (.bool k') s := by
  subst e
  exact ⟨.bl k, H, I, rfl, q⟩
theorem op_eq : OpR X (compareOp .Eq) rEq := by
  intro pins s σ H x y v u Q I rx ry h
  obtain ⟨hs, q⟩ := h
  cases x with
  | non =>
    cases rx
    cases y with
    | non => cases ry; exact PySem.EqNone.eq_none_none (fin_bl I q (by simp))
    | bl j => cases ry; exact PySem.EqNone.eq_none_bool (fin_bl I q (by simp))
    | int j => obtain ⟨t', rfl⟩ := ry; exact PySem.EqNone.eq_none_int (fin_bl I q (by simp))
    | str j => obtain ⟨t', rfl⟩ := ry; exact PySem.EqNone.eq_none_str (fin_bl I q (by simp))
    | _ => exact absurd (show false = true from hs) Bool.false_ne_true
  | bl i =>
    cases rx
    cases y with
    | non => cases ry; exact PySem.EqNone.eq_bool_none (fin_bl I q (by simp))
    | bl j => cases ry; exact eq_bool (fin_bl I q dec_bl)
    | str j => obtain ⟨t', rfl⟩ := ry; exact PySem.EqMixed.eq_bool_str (fin_bl I q (by simp))
    | _ => exact absurd (show false = true from hs) Bool.false_ne_true
  | int i =>
    obtain ⟨t, rfl⟩ := rx
    cases y with
    | non => cases ry; exact PySem.EqNone.eq_int_none (fin_bl I q (by simp))
    | int j => obtain ⟨t', rfl⟩ := ry; exact eq_int (fin_bl I q dec_int)
    | str j => obtain ⟨t', rfl⟩ := ry; exact PySem.EqMixed.eq_int_str (fin_bl I q (by simp))
    | _ => exact absurd (show false = true from hs) Bool.false_ne_true
  | str i =>
    obtain ⟨t, rfl⟩ := rx
    cases y with
    | non => cases ry; exact PySem.EqNone.eq_str_none (fin_bl I q (by simp))
    | bl j => cases ry; exact PySem.EqMixed.eq_str_bool (fin_bl I q (by simp))
    | int j => obtain ⟨t', rfl⟩ := ry; exact PySem.EqMixed.eq_str_int (fin_bl I q (by simp))
    | str j => obtain ⟨t', rfl⟩ := ry; exact eq_str (fin_bl I q dec_str)
    | _ => exact absurd (show false = true from hs) Bool.false_ne_true
  | byt i =>
    obtain ⟨t, rfl⟩ := rx
    cases y with
    | byt j => obtain ⟨t', rfl⟩ := ry; exact PySem.W.eq_bytes (fin_bl I q dec_byt)
    | _ => exact absurd (show false = true from hs) Bool.false_ne_true
  | _ => cases y <;> exact absurd (show false = true from hs) Bool.false_ne_true
theorem op_ne : OpR X (compareOp .NotEq) rNe := by
  intro pins s σ H x y v u Q I rx ry h
  obtain ⟨hs, q⟩ := h
  cases x with
  | non =>
    cases rx
    cases y with
    | non => cases ry; exact PySem.EqNone.ne_none_none (fin_bl I q (by simp))
    | bl j => cases ry; exact PySem.EqNone.ne_none_bool (fin_bl I q (by simp))
    | int j => obtain ⟨t', rfl⟩ := ry; exact PySem.EqNone.ne_none_int (fin_bl I q (by simp))
    | str j => obtain ⟨t', rfl⟩ := ry; exact PySem.EqNone.ne_none_str (fin_bl I q (by simp))
    | _ => exact absurd (show false = true from hs) Bool.false_ne_true
  | bl i =>
    cases rx
    cases y with
    | non => cases ry; exact PySem.EqNone.ne_bool_none (fin_bl I q (by simp))
    | bl j => cases ry; exact ne_bool (fin_bl I q (congrArg not dec_bl))
    | str j => obtain ⟨t', rfl⟩ := ry; exact PySem.EqMixed.ne_bool_str (fin_bl I q (by simp))
    | _ => exact absurd (show false = true from hs) Bool.false_ne_true
  | int i =>
    obtain ⟨t, rfl⟩ := rx
    cases y with
    | non => cases ry; exact PySem.EqNone.ne_int_none (fin_bl I q (by simp))
    | int j => obtain ⟨t', rfl⟩ := ry; exact ne_int (fin_bl I q (congrArg not dec_int))
    | str j => obtain ⟨t', rfl⟩ := ry; exact PySem.EqMixed.ne_int_str (fin_bl I q (by simp))
    | _ => exact absurd (show false = true from hs) Bool.false_ne_true
  | str i =>
    obtain ⟨t, rfl⟩ := rx
    cases y with
    | non => cases ry; exact PySem.EqNone.ne_str_none (fin_bl I q (by simp))
    | bl j => cases ry; exact PySem.EqMixed.ne_str_bool (fin_bl I q (by simp))
    | int j => obtain ⟨t', rfl⟩ := ry; exact PySem.EqMixed.ne_str_int (fin_bl I q (by simp))
    | str j => obtain ⟨t', rfl⟩ := ry; exact ne_str (fin_bl I q (congrArg not dec_str))
    | _ => exact absurd (show false = true from hs) Bool.false_ne_true
  | byt i =>
    obtain ⟨t, rfl⟩ := rx
    cases y with
    | byt j => obtain ⟨t', rfl⟩ := ry; exact PySem.W.ne_bytes (fin_bl I q (congrArg not dec_byt))
    | _ => exact absurd (show false = true from hs) Bool.false_ne_true
  | _ => cases y <;> exact absurd (show false = true from hs) Bool.false_ne_true

theorem op_lt : OpR X (compareOp .Lt) (rI0 fun i j => .bl (decide (i < j))) := opB0 fun _ _ _ _ _ _ _ q => lt_int q
theorem op_le : OpR X (compareOp .LtE) (rI0 fun i j => .bl (decide (i ≤ j))) := opB0 fun _ _ _ _ _ _ _ q => le_int q
theorem op_gt : OpR X (compareOp .Gt) (rI0 fun i j => .bl (decide (j < i))) := opB0 fun _ _ _ _ _ _ _ q => gt_int q
theorem op_ge : OpR X (compareOp .GtE) (rI0 fun i j => .bl (decide (j ≤ i))) := opB0 fun _ _ _ _ _ _ _ q => ge_int q
theorem op_lt_str : OpR X (compareOp .Lt) (fun x y H Q => ∃ i j, x = .str i ∧ y = .str j ∧ Q (.bl (decide (i.cps.toList < j.cps.toList))) H) := by
  intro pins s σ H x y v u Q I rx ry h
  obtain ⟨i, j, rfl, rfl, q⟩ := h
  obtain ⟨t, rfl⟩ := rx
  obtain ⟨t', rfl⟩ := ry
  exact lt_str (fin_bl I q rfl)
/-- the one string within the other -/
theorem op_in_str : OpR X (compareOp .In) (fun x y H Q => ∃ i j, x = .str i ∧ y = .str j ∧ Q (.bl (!(Builtin.Str.occurrences j i 0 j.length 1).isEmpty)) H) := by
  intro pins s σ H x y v u Q I rx ry h
  obtain ⟨i, j, rfl, rfl, q⟩ := h
  obtain ⟨t, rfl⟩ := rx
  obtain ⟨t', rfl⟩ := ry
  exact in_str (fin_bl I q rfl)

/-- is None, is not None: the right side a value none -/
theorem op_isN : OpR X (compareOp .Is) (fun x y H Q => y = .non ∧ Q (.bl (decide (x = .non))) H) := by
  intro pins s σ H x y v u Q I rx ry h
  obtain ⟨rfl, q⟩ := h
  cases ry
  refine is_none_gen (fin_bl I q ?_)
  cases x <;> first
    | (cases rx; rfl)
    | (obtain ⟨t, rfl⟩ := rx; rfl)
theorem op_notN : OpR X (compareOp .IsNot) (fun x y H Q => y = .non ∧ Q (.bl (!decide (x = .non))) H) := by
  intro pins s σ H x y v u Q I rx ry h
  obtain ⟨rfl, q⟩ := h
  cases ry
  refine isnot_none_gen (fin_bl I q ?_)
  cases x <;> first
    | (cases rx; rfl)
    | (obtain ⟨t, rfl⟩ := rx; rfl)

theorem op_notin_str : OpR X (compareOp .NotIn) (fun x y H Q => ∃ i j, x = .str i ∧ y = .str j ∧ Q (.bl (!(!(Builtin.Str.occurrences j i 0 j.length 1).isEmpty))) H) := by
  intro pins s σ H x y v u Q I rx ry h
  obtain ⟨i, j, rfl, rfl, q⟩ := h
  obtain ⟨t, rfl⟩ := rx
  obtain ⟨t', rfl⟩ := ry
  exact notIn_str (fin_bl I q rfl)
/-- is, is not of two objects that are tracked lists or instances -/
def isObj : HO → Bool
  | .lst _ => true
  | .ins _ _ _ => true
  | _ => false
theorem obj_there {pins : List (Addr × Obj)} {s : Shared} {σ : St} {H : Hp} {a : Addr} {o : HO} (I : Inv X pins σ H s) (h : H a = some o) (p : isObj o = true) : ∃ ob, s.heap.get? a = some ob ∧ ob.cls ≠ .type "tuple" := by
  cases o with
  | lst xs =>
    obtain ⟨_, its, n, _, e⟩ : xs.length ≤ sizeLine ∧ ∃ (its : List Value) (n : Nat), Vals xs its ∧ s.heap.get? a = some { cls := .type "list", data := .seq its.toArray n } := I.hok a _ h
    exact ⟨_, e, (by show Value.type "list" ≠ .type "tuple"; decide +kernel)⟩
  | ins C dx fs =>
    have x := I.hok a _ h
    obtain ⟨_, _, _, e, _⟩ := x
    exact ⟨_, e, (by show Value.ref C ≠ .type "tuple"; exact fun z => by cases z)⟩
  | _ => exact absurd (show false = true from p) Bool.false_ne_true
theorem op_is_ref : OpR X (compareOp .Is) (fun x y H Q => ∃ a b oa ob, x = .ref a ∧ y = .ref b ∧ H a = some oa ∧ isObj oa = true ∧ H b = some ob ∧ isObj ob = true ∧ Q (.bl (decide (a = b))) H) := by
  intro pins s σ H x y v u Q I rx ry h
  obtain ⟨a, b, oa, ob, rfl, rfl, ha, pa, hb, pb, q⟩ := h
  cases rx
  cases ry
  obtain ⟨o1, e1, n1⟩ := obj_there I ha pa
  obtain ⟨o2, e2, _⟩ := obj_there I hb pb
  by_cases z : a = b
  · subst z
    exact wpAny_is_ref_self (fin_bl I q (by simp))
  · exact wpAny_is_ref_other z e1 e2 n1 (fin_bl I q (by simp [z]))
theorem op_isnot_ref : OpR X (compareOp .IsNot) (fun x y H Q => ∃ a b oa ob, x = .ref a ∧ y = .ref b ∧ H a = some oa ∧ isObj oa = true ∧ H b = some ob ∧ isObj ob = true ∧ Q (.bl (!decide (a = b))) H) := by
  intro pins s σ H x y v u Q I rx ry h
  obtain ⟨a, b, oa, ob, rfl, rfl, ha, pa, hb, pb, q⟩ := h
  cases rx
  cases ry
  obtain ⟨o1, e1, n1⟩ := obj_there I ha pa
  obtain ⟨o2, e2, _⟩ := obj_there I hb pb
  by_cases z : a = b
  · subst z
    exact wpAny_isNot_ref_self (fin_bl I q (by simp))
  · exact wpAny_isNot_ref_other z e1 e2 n1 (fin_bl I q (by simp [z]))

/-- two rules for one operation: by cases -/
theorem OpR.or {f : Value → Value → Sem Value} {r r' : R2} (h : OpR X f r) (h' : OpR X f r') : OpR X f (fun x y H Q => r x y H Q ∨ r' x y H Q) := by
  intro pins s σ H x y v u Q I rx ry q
  rcases q with q | q
  · exact h pins s σ H x y v u Q I rx ry q
  · exact h' pins s σ H x y v u Q I rx ry q

theorem nomark (b : Expr) {op : CmpOp} (h : op ≠ .In := by decide) (h2 : op ≠ .NotIn := by decide) : behindInMarks op b = false := by
  have e1 : (op == CmpOp.In) = false := by cases op <;> first | rfl | exact absurd rfl h
  have e2 : (op == CmpOp.NotIn) = false := by cases op <;> first | rfl | exact absurd rfl h2
  cases b <;> simp [behindInMarks, e1, e2]
/-- a comparison as a value; hm: nomark b, or (for in, not in) by with_unfolding_all rfl -/
theorem pe_cmpR {op : CmpOp} {r : R2} (ho : OpR X (compareOp op) r) (ha : PE X a ta) (hb : PE X b tb) (hm : behindInMarks op b = false) : PE X (.Compare a [op] [b] pos) (tOp r ta tb) := by
  intro pins s σ H Q I h
  exact wpAny_Compare1 (binT ha hb I h fun v u s2 x y H2 I2 rx ry q => ho pins s2 σ H2 x y v u Q I2 rx ry q) hm
/-- a reading of a value as a test -/
def tTest (t : TE) : TT := fun σ H Q => t σ H fun x H' => ∃ k, x = .bl k ∧ Q k H'
theorem pt_cmpR {op : CmpOp} {r : R2} (ho : OpR X (compareOp op) r) (ha : PE X a ta) (hb : PE X b tb) (hm : behindInMarks op b = false) : PT X (.Compare a [op] [b] pos) (tTest (tOp r ta tb)) := by
  intro pins s σ H Q I h
  refine wpAny_isTrue_Compare1 (thn (ha pins s σ H _ I h) fun v s1 ⟨x, H1, I1, r1, q1⟩ => thn (hb pins s1 σ H1 _ I1 q1) fun u s2 ⟨y, H2, I2, r2, q2⟩ =>
    thn (ho pins s2 σ H2 x y v u _ I2 r1 r2 q2) fun c s3 ⟨z, H3, I3, r3, k, e, q3⟩ => ?_) hm
  subst e
  cases r3
  exact wpAny_truthy_bool ⟨H3, I3, q3⟩
/-- a op1 b op2 c -/
def tChain (r r' : R2) (ta tb tc : TE) : TE := fun σ H Q => ta σ H fun x H1 => tb σ H1 fun y H2 => r x y H2 fun z H3 => ∃ k, z = .bl k ∧
  (if k = true then tc σ H3 fun w' H4 => r' y w' H4 Q else Q (.bl false) H3)
theorem pe_chain {op op' : CmpOp} {r r' : R2} (ho : OpR X (compareOp op) r) (ho' : OpR X (compareOp op') r') (ha : PE X a ta) (hb : PE X b tb) (hc : PE X c tc)
    (hm : lastMarks [op, op'] [b, c] = false := by with_unfolding_all rfl) : PE X (.Compare a [op, op'] [b, c] pos) (tChain r r' ta tb tc) := by
  intro pins s σ H Q I h
  refine Compare_chain (thn (ha pins s σ H _ I h) fun v s1 ⟨x, H1, I1, r1, q1⟩ => chain_link (thn (hb pins s1 σ H1 _ I1 q1) fun u s2 ⟨y, H2, I2, r2, q2⟩ =>
    thn (ho pins s2 σ H2 x y v u _ I2 r1 r2 q2) fun d s3 ⟨z, H3, I3, r3, k, e, q3⟩ => ?_)) hm
  subst e
  cases r3
  refine wpAny_truthy_bool ?_
  cases k with
  | false => exact ite_ff ⟨.bl false, H3, I3, rfl, q3⟩
  | true => exact ite_tt (chain_last (thn (hc pins s3 σ H3 _ I3 q3) fun w' s4 ⟨z', H4, I4, r4, q4⟩ => ho' pins s4 σ H4 y z' u w' Q I4 r2 r4 q4))
theorem pt_chain {op op' : CmpOp} {r r' : R2} (ho : OpR X (compareOp op) r) (ho' : OpR X (compareOp op') r') (ha : PE X a ta) (hb : PE X b tb) (hc : PE X c tc)
    (hm : lastMarks [op, op'] [b, c] = false := by with_unfolding_all rfl) : PT X (.Compare a [op, op'] [b, c] pos) (tTest (tChain r r' ta tb tc)) := by
  intro pins s σ H Q I h
  refine isTrue_chain (thn (ha pins s σ H _ I h) fun v s1 ⟨x, H1, I1, r1, q1⟩ => test_link (thn (hb pins s1 σ H1 _ I1 q1) fun u s2 ⟨y, H2, I2, r2, q2⟩ =>
    thn (ho pins s2 σ H2 x y v u _ I2 r1 r2 q2) fun d s3 ⟨z, H3, I3, r3, k, e, q3⟩ => ?_)) hm
  subst e
  cases r3
  refine wpAny_truthy_bool ?_
  cases k with
  | false =>
    obtain ⟨k', e', q'⟩ := q3
    cases e'
    exact ite_ff ⟨H3, I3, q'⟩
  | true =>
    refine ite_tt (test_last (thn (hc pins s3 σ H3 _ I3 q3) fun w' s4 ⟨z', H4, I4, r4, q4⟩ => thn (ho' pins s4 σ H4 y z' u w' _ I4 r2 r4 q4) fun d' s5 ⟨z2, H5, I5, r5, k2, e2, q5⟩ => ?_))
    subst e2
    cases r5
    exact wpAny_truthy_bool ⟨H5, I5, q5⟩

/-! ### truth -/
/-- a value's truth by the abstract heap -/
def TruV (K : PySem.W.Frag) (x : V) (H : Hp) (k : Bool) : Prop :=
  match x with
  | .non => k = false
  | .bl b => k = b
  | .int i => k = (i != 0)
  | .str y => y.length ≤ sizeLine ∧ k = ((y.length : Int) != 0)
  | .byt y => y.size ≤ sizeLine ∧ k = ((y.size : Int) != 0)
  | .ref p => (∃ xs, SqL K H p xs ∧ k = !xs.isEmpty) ∨ (∃ xs, SqT K H p xs ∧ k = !xs.isEmpty) ∨ ∃ kvs, H p = some (.dK kvs) ∧ k = !kvs.isEmpty
  | _ => False
theorem isEmpty_kv {κ : Type} {kvs : List (κ × V)} {vs : List (κ × Value)} (r : KV kvs vs) : (!vs.isEmpty) = !kvs.isEmpty := by
  cases r <;> rfl
theorem isEmpty_of {xs : List V} {its : List Value} (r : Vals xs its) : (!its.toArray.isEmpty) = !xs.isEmpty := by
  cases r <;> simp
theorem line63 : (sizeLine : Nat) < 2 ^ 63 := by rw [sizeLine_eq]; decide
theorem tru_ok : TruR X (fun x H Q => ∃ k, TruV X.K x H k ∧ Q k H) := by
  intro pins s σ H x v Q I rx h
  obtain ⟨k, e, q⟩ := h
  have hl := line63
  have hs : sizeLine = 16777216 := sizeLine_eq
  cases x with
  | non =>
    cases rx
    have e' : k = false := e
    subst e'
    exact truthy_none ⟨H, I, q⟩
  | bl b =>
    cases rx
    have e' : k = b := e
    subst e'
    exact wpAny_truthy_bool ⟨H, I, q⟩
  | int i =>
    obtain ⟨t, rfl⟩ := rx
    have e' : k = (i != 0) := e
    subst e'
    exact PySem.P.truthy_int ⟨H, I, q⟩
  | str y =>
    obtain ⟨t, rfl⟩ := rx
    obtain ⟨hy, e'⟩ : y.length ≤ sizeLine ∧ k = ((y.length : Int) != 0) := e
    subst e'
    exact PySem.P.truthy_str (by omega) ⟨H, I.tok _, q⟩
  | byt y =>
    obtain ⟨t, rfl⟩ := rx
    obtain ⟨hy, e'⟩ : y.size ≤ sizeLine ∧ k = ((y.size : Int) != 0) := e
    subst e'
    exact PySem.W.truthy_bytes (by omega) ⟨H, I.tok _, q⟩
  | ref p =>
    cases rx
    have e' : (∃ xs, SqL X.K H p xs ∧ k = !xs.isEmpty) ∨ (∃ xs, SqT X.K H p xs ∧ k = !xs.isEmpty) ∨ ∃ kvs, H p = some (.dK kvs) ∧ k = !kvs.isEmpty := e
    rcases e' with ⟨xs, hx, e'⟩ | ⟨xs, hx, e'⟩ | ⟨kvs, hx, e'⟩
    · subst e'
      obtain ⟨its, r, pl, hz⟩ := I.list hx
      have hlen := r.length
      exact wpAny_truthy_list pl.isList (by simp only [List.size_toArray]; omega) ⟨H, I.tok _, by rw [isEmpty_of r]; exact q⟩
    · subst e'
      obtain ⟨its, r, pl, hz⟩ := I.tuple hx
      have hlen := r.length
      exact truthy_tuple pl (by simp only [List.size_toArray]; omega) ⟨H, I.tok _, by rw [isEmpty_of r]; exact q⟩
    · subst e'
      obtain ⟨hz, hS, vs, r, m⟩ : kvs.length ≤ sizeLine ∧ (p == sysModules) = false ∧ ∃ vs, KV kvs vs ∧ s.heap.DictOf (mixKind X.prog X.w) p vs := I.hok p _ hx
      have hlen : kvs.length = vs.length := Paired.length r
      exact wpAny_truthy_dict hS m (by omega) ⟨H, I.tok _, by rw [isEmpty_kv r]; exact q⟩
  | _ => exact (show False from e).elim
/-- any expression whose test is its value's truth (a name, a call, a subscript, a field ..: he by fun _ => rfl) -/
theorem pt_truth (ha : PE X a ta) (he : ∀ whole, isTrue a X.env whole = (do let v ← whole; standAt a.pos; holding [v] (truthy v))) :
    PT X a (fun σ H Q => ta σ H fun x H' => ∃ k, TruV X.K x H' k ∧ Q k H') := by
  intro pins s σ H Q I h
  exact isTrue_plain (thn (ha pins s σ H _ I h) fun v s1 ⟨x, H1, I1, r1, q1⟩ => tru_ok pins s1 σ H1 x v Q I1 r1 q1) (he _)

/-! ### strs and bytes -/
theorem pe_byt {x : List UInt8} {k : Nat} : PE X (.Constant (.bytes x) k pos) (fun _ H Q => Q (.byt x.toArray) H) := fun _ _ _ H _ I h => PySem.W.Constant_bytes ⟨.byt x.toArray, H, I.tok _, ⟨_, rfl⟩, h⟩
theorem op_add_str : OpR X (binaryOp .Add) (fun x y H Q => ∃ i j, x = .str i ∧ y = .str j ∧ i.length + j.length ≤ sizeLine ∧ Q (.str (i ++ j)) H) := by
  intro pins s σ H x y v u Q I rx ry h
  obtain ⟨i, j, rfl, rfl, hz, q⟩ := h
  obtain ⟨t, rfl⟩ := rx
  obtain ⟨t', rfl⟩ := ry
  exact add_str (fun t' tk => ⟨.str (i ++ j), H, I.tok _, ⟨_, rfl⟩, q⟩) hz
theorem iop_add_str : OpR X (inplaceOp .Add) (fun x y H Q => ∃ i j, x = .str i ∧ y = .str j ∧ i.length + j.length ≤ sizeLine ∧ Q (.str (i ++ j)) H) := by
  intro pins s σ H x y v u Q I rx ry h
  obtain ⟨i, j, rfl, rfl, hz, q⟩ := h
  obtain ⟨t, rfl⟩ := rx
  obtain ⟨t', rfl⟩ := ry
  exact iadd_str (fun t' tk => ⟨.str (i ++ j), H, I.tok _, ⟨_, rfl⟩, q⟩) hz
theorem op_add_byt : OpR X (binaryOp .Add) (fun x y H Q => ∃ i j, x = .byt i ∧ y = .byt j ∧ i.size + j.size ≤ 16777216 ∧ Q (.byt (i ++ j)) H) := by
  intro pins s σ H x y v u Q I rx ry h
  obtain ⟨i, j, rfl, rfl, hz, q⟩ := h
  obtain ⟨t, rfl⟩ := rx
  obtain ⟨t', rfl⟩ := ry
  exact PySem.W.KBy.add_bytes hz (fun t' tk => ⟨.byt (i ++ j), H, I.tok _, ⟨_, rfl⟩, q⟩)

def PlainIxT (b : Expr) : Prop := ∀ o i, subscripted b false o i = operate [o, i] (getItem o i)
/-- s[i], 0 ≤ i < len -/
theorem pe_item_str (ha : PE X a ta) (hb : PE X b tb) (hs : PlainIxT b) :
    PE X (.Subscript a b pos) (tOp (fun x y H Q => ∃ z i c, x = .str z ∧ y = .int i ∧ 0 ≤ i ∧ i < 2 ^ 63 ∧ i < z.length ∧ z.cps[i.toNat]? = some c ∧ Q (.str ⟨#[c]⟩) H) ta tb) := by
  intro pins s σ H Q I h
  refine Subscript_ (binT ha hb I h fun v u s2 x y H2 I2 rx ry q => ?_)
  obtain ⟨z, i, c, rfl, rfl, h0, h63, h1, hc, q⟩ := q
  obtain ⟨t, rfl⟩ := rx
  obtain ⟨t', rfl⟩ := ry
  have e : seqIndex? i z.length = some i.toNat := PySem.StrLaws.seqIndex_nonneg h0 h1
  exact tail_any (typeIs_str s2 z t) slot_str_getitem.lookup (getItem_str (c := c) (by
    have e1 : decide (i < -(2 ^ 63 : Int)) = false := decide_eq_false (by omega)
    have e2 : decide (i ≥ 2 ^ 63) = false := decide_eq_false (by omega)
    rw [e1, e2] <;> rfl) (by rw [e]; exact hc) ⟨.str ⟨#[c]⟩, H2, I2.tok _, ⟨_, rfl⟩, q⟩) (hs _ _)
/-- b[i], 0 ≤ i < len -/
theorem pe_item_byt (ha : PE X a ta) (hb : PE X b tb) (hs : PlainIxT b) :
    PE X (.Subscript a b pos) (tOp (fun x y H Q => ∃ (z : List UInt8) (i : Int), x = .byt z.toArray ∧ y = .int i ∧ z.length ≤ sizeLine ∧ 0 ≤ i ∧ i < z.length ∧ Q (.int ((z.getD i.toNat 0).toNat : Nat)) H) ta tb) := by
  intro pins s σ H Q I h
  refine Subscript_ (binT ha hb I h fun v u s2 x y H2 I2 rx ry q => ?_)
  obtain ⟨z, i, rfl, rfl, hz, h0, h1, q⟩ := q
  obtain ⟨t, rfl⟩ := rx
  obtain ⟨t', rfl⟩ := ry
  have hl : sizeLine = 16777216 := sizeLine_eq
  exact tail_any (PySem.W.typeIs_bytes s2 z.toArray t) PySem.W.FB.slot_bytes_getitem.lookup (PySem.W.getItem_bytes (by omega) h0 h1 ⟨.int ((z.getD i.toNat 0).toNat : Nat), H2, I2.tok _, ⟨_, rfl⟩, q⟩) (hs _ _)

/-! ### scalar builtins, by CallR -/
theorem vals1 {x : V} {us : List Value} (r : Vals [x] us) : ∃ u, us = [u] ∧ RelV x u := by
  cases r with
  | cons r1 r2 => cases r2; exact ⟨_, rfl, r1⟩
theorem vals2 {x y : V} {us : List Value} (r : Vals [x, y] us) : ∃ u w', us = [u, w'] ∧ RelV x u ∧ RelV y w' := by
  cases r with
  | cons r1 r2 =>
    cases r2 with
    | cons r3 r4 => cases r4; exact ⟨_, _, rfl, r1, r3⟩
theorem call_abs : CallR X (.builtin "abs") (fun xs H Q => ∃ i, xs = [.int i] ∧ Q (.int (if i < 0 then -i else i)) H) := by
  intro pins s σ H xs us Q I r h
  obtain ⟨i, rfl, q⟩ := h
  obtain ⟨u, rfl, t, rfl⟩ := vals1 r
  exact call_abs_int fun u tk => ⟨.int (if i < 0 then -i else i), H, I.tok _, ⟨_, rfl⟩, q⟩
theorem call_max2 (hc : X.calm = true) : CallR X (.builtin "max") (fun xs H Q => ∃ i j, xs = [.int i, .int j] ∧ Q (.int (if j > i then j else i)) H) := by
  intro pins s σ H xs us Q I r h
  obtain ⟨i, j, rfl, q⟩ := h
  obtain ⟨u, w', rfl, ⟨t, rfl⟩, ⟨t', rfl⟩⟩ := vals2 r
  refine max_two_ints (I.ok.hd hc) fun h' tk k => ⟨_, H, I.kept k, ?_, q⟩
  by_cases hj : j > i
  · rw [if_pos hj, if_pos hj]; exact ⟨_, rfl⟩
  · rw [if_neg hj, if_neg hj]; exact ⟨_, rfl⟩
theorem call_min2 (hc : X.calm = true) : CallR X (.builtin "min") (fun xs H Q => ∃ i j, xs = [.int i, .int j] ∧ Q (.int (if j < i then j else i)) H) := by
  intro pins s σ H xs us Q I r h
  obtain ⟨i, j, rfl, q⟩ := h
  obtain ⟨u, w', rfl, ⟨t, rfl⟩, ⟨t', rfl⟩⟩ := vals2 r
  refine min_two_ints (I.ok.hd hc) fun h' tk k => ⟨_, H, I.kept k, ?_, q⟩
  by_cases hj : j < i
  · rw [if_pos hj, if_pos hj]; exact ⟨_, rfl⟩
  · rw [if_neg hj, if_neg hj]; exact ⟨_, rfl⟩
theorem call_int1 : CallR X (.type "int") (fun xs H Q => (∃ i, xs = [.int i] ∧ Q (.int i) H) ∨ ∃ k, xs = [.bl k] ∧ Q (.int (if k then 1 else 0)) H) := by
  intro pins s σ H xs us Q I r h
  rcases h with ⟨i, rfl, q⟩ | ⟨k, rfl, q⟩
  · obtain ⟨u, rfl, t, rfl⟩ := vals1 r
    exact call_int_int ⟨.int i, H, I, ⟨_, rfl⟩, q⟩
  · obtain ⟨u, rfl, r1⟩ := vals1 r
    cases r1
    exact call_int_bool ⟨.int (if k then 1 else 0), H, I.tok _, ⟨_, rfl⟩, q⟩
theorem call_bool1 : CallR X (.type "bool") (fun xs H Q => (∃ i, xs = [.int i] ∧ Q (.bl (i != 0)) H) ∨ ∃ k, xs = [.bl k] ∧ Q (.bl k) H) := by
  intro pins s σ H xs us Q I r h
  rcases h with ⟨i, rfl, q⟩ | ⟨k, rfl, q⟩
  · obtain ⟨u, rfl, t, rfl⟩ := vals1 r
    exact call_bool_int ⟨.bl (i != 0), H, I, rfl, q⟩
  · obtain ⟨u, rfl, r1⟩ := vals1 r
    cases r1
    exact call_bool_bool ⟨.bl k, H, I, rfl, q⟩
theorem call_str_int : CallR X (.type "str") (fun xs H Q => ∃ i, xs = [.int i] ∧ i.natAbs.log2 < 1920 ∧ Q (.str (toString i)) H) := by
  intro pins s σ H xs us Q I r h
  obtain ⟨i, rfl, hz, q⟩ := h
  obtain ⟨u, rfl, t, rfl⟩ := vals1 r
  exact PySem.P.str_of_int hz ⟨.str _, H, I.tok _, ⟨_, rfl⟩, q⟩
theorem call_ord : CallR X (.builtin "ord") (fun xs H Q => ∃ x, xs = [.str x] ∧ x.length = 1 ∧ Q (.int (x.cps.getD 0 0 : Nat)) H) := by
  intro pins s σ H xs us Q I r h
  obtain ⟨x, rfl, hz, q⟩ := h
  obtain ⟨u, rfl, t, rfl⟩ := vals1 r
  exact ord_of_one hz ⟨.int _, H, I.tok _, ⟨_, rfl⟩, q⟩
theorem call_chr : CallR X (.builtin "chr") (fun xs H Q => ∃ i, xs = [.int i] ∧ 0 ≤ i ∧ i ≤ 1114111 ∧ Q (.str ⟨#[i.toNat]⟩) H) := by
  intro pins s σ H xs us Q I r h
  obtain ⟨i, rfl, h0, h1, q⟩ := h
  obtain ⟨u, rfl, t, rfl⟩ := vals1 r
  exact chr_of_range h0 h1 ⟨.str _, H, I.tok _, ⟨_, rfl⟩, q⟩
/-- len of a str, a bytes, a list, a tuple -/
def LenV (K : PySem.W.Frag) (x : V) (H : Hp) (n : Nat) : Prop :=
  match x with
  | .str y => y.length ≤ sizeLine ∧ n = y.length
  | .byt y => y.size ≤ sizeLine ∧ n = y.size
  | .ref p => (∃ xs, SqL K H p xs ∧ n = xs.length) ∨ ∃ xs, SqT K H p xs ∧ n = xs.length
  | _ => False
theorem call_len : CallR X (.builtin "len") (fun xs H Q => ∃ x n, xs = [x] ∧ LenV X.K x H n ∧ Q (.int n) H) := by
  intro pins s σ H xs us Q I r h
  obtain ⟨x, n, rfl, e, q⟩ := h
  obtain ⟨u, rfl, rx⟩ := vals1 r
  have hl := line63
  have hs : sizeLine = 16777216 := sizeLine_eq
  cases x with
  | str y =>
    obtain ⟨t, rfl⟩ := rx
    obtain ⟨hy, e'⟩ : y.length ≤ sizeLine ∧ n = y.length := e
    subst e'
    exact len_str (by omega) ⟨.int _, H, I.tok _, ⟨_, rfl⟩, q⟩
  | byt y =>
    obtain ⟨t, rfl⟩ := rx
    obtain ⟨hy, e'⟩ : y.size ≤ sizeLine ∧ n = y.size := e
    subst e'
    exact PySem.W.len_bytes (by omega) ⟨.int _, H, I.tok _, ⟨_, rfl⟩, q⟩
  | ref p =>
    cases rx
    have e' : (∃ xs, SqL X.K H p xs ∧ n = xs.length) ∨ ∃ xs, SqT X.K H p xs ∧ n = xs.length := e
    rcases e' with ⟨xs, hx, e'⟩ | ⟨xs, hx, e'⟩
    · subst e'
      obtain ⟨its, r', pl, hz⟩ := I.list hx
      have hlen := r'.length
      exact Calls.call_len_list pl.isList (by simp only [List.size_toArray]; omega) ⟨.int xs.length, H, I.tok _, ⟨_, by simp only [List.size_toArray]; rw [hlen]⟩, q⟩
    · subst e'
      obtain ⟨its, r', pl, hz⟩ := I.tuple hx
      have hlen := r'.length
      exact len_tuple pl (by simp only [List.size_toArray]; omega) ⟨.int xs.length, H, I.tok _, ⟨_, by simp only [List.size_toArray]; rw [hlen]⟩, q⟩
  | _ => exact (show False from e).elim
/-- divmod: a new tuple -/
theorem call_divmod : CallR X (.builtin "divmod") (fun xs H Q => ∃ i j, xs = [.int i, .int j] ∧ CDiv i j ∧ ∀ p, H p = none → Q (.ref p) (upd H p (.tup [.int (i / j), .int (i % j)]))) := by
  intro pins s σ H xs us Q I r h
  obtain ⟨i, j, rfl, ⟨h1, h2⟩, q⟩ := h
  obtain ⟨u, w', rfl, ⟨t, rfl⟩, ⟨t', rfl⟩⟩ := vals2 r
  refine divmod_int (by omega) ?_ (.inl (PyProof.noPylong_small (by omega)))
  rw [Int.fdiv_eq_ediv_of_nonneg i (by omega), Int.fmod_eq_emod_of_nonneg i (by omega)]
  have hn : H s.heap.objs.size = none := I.hok.fresh (Nat.le_refl _)
  refine ⟨.ref s.heap.objs.size, _, ?_, rfl, q _ hn⟩
  refine I.laid (fun b o e => Heap.get?_push_of_some _ e) (Nat.le_refl _) ⟨by simp only [List.length_cons, List.length_nil]; rw [sizeLine_eq]; decide, [.int (i / j) s.toks, .int (i % j) (s.toks + 1)], .cons ⟨_, rfl⟩ (.cons ⟨_, rfl⟩ .nil), ?_⟩
  exact ⟨_, Heap.get?_push_size s.heap rfl, rfl, 0, rfl⟩
end
end L2

namespace L2
open PySem PySem.Spec PyProof.Rows

/-! ### an instance, its attributes a map -/
structure ObjM (h : Heap) (x dx C : Addr) (mA : Str → Option Value) : Prop where
  obj : h.get? x = some (PySem.W.instObj C dx)
  ns : h.Ns1 dx mA
  ne : dx ≠ x

theorem lookIn_ns {h : Heap} {dx : Addr} {mA : Str → Option Value} (n : h.Ns1 dx mA) : ∃ od, h.get? dx = some od ∧ ∀ name, PySem.W.lookIn name od = some (mA name) := by
  obtain ⟨o, es, ep, ho, hd, hk, _, hm⟩ := n
  refine ⟨o, ho, fun name => ?_⟩
  have e := hm name
  unfold nsFind findBy at e
  rw [← Array.find?_toList] at e
  unfold PySem.W.lookIn
  rw [hd]
  dsimp only
  split
  · rename_i y q
    rw [q] at e
    exact congrArg some e
  · rename_i q
    rw [q] at e
    have a : es.toList.any (·.refKey) = false := by
      rw [List.any_eq_false]
      intro y hy
      obtain ⟨z, t, hkey⟩ := hk y (Array.mem_toList_iff.mp hy)
      simp [DictEntry.refKey, hkey]
    have a' : ¬ es.toList.any (·.refKey) = true := by rw [a]; exact Bool.false_ne_true
    rw [if_neg a']
    exact congrArg some e

theorem ObjM.look {h : Heap} {x dx C : Addr} {mA : Str → Option Value} (I : ObjM h x dx C mA) : ∃ od, PySem.W.InstAt h x (PySem.W.instObj C dx) C (some od) ∧ ∀ name, PySem.W.lookIn name od = some (mA name) :=
  let ⟨od, ho, hl⟩ := lookIn_ns I.ns
  ⟨od, ⟨I.obj, rfl, rfl, ho⟩, hl⟩

section
variable {prog : Program} {w : World} {A : Around} {E : Value → Shared → Prop} {s : Shared} {K : PySem.W.Frag} {x dx C f : Addr} {mA : Str → Option Value} {name : Str} {v : Value}

theorem get_map {expr : Bool} {Q : Value → Shared → Prop} (X : K.In s.heap) (I : ObjM s.heap x dx C mA) (hg : PySem.W.plainGet K C name = true) (hh : PySem.W.hasDictIn K C = true)
    (ha : PySem.W.findIn K (.ref C) name = some none) (hv : mA name = some v) (hv' : PySem.W.handedIn v = true) (h : Q v { s with toks := s.toks + 1 }) :
    wpAny (model prog w) A (getAttr (.ref x) name expr) Q E s := by
  obtain ⟨od, J, hl⟩ := I.look
  exact PySem.W.get_value X J (PySem.W.plainGet_of hg).1 (PySem.W.findObj_own hh ha rfl (by rw [hl, hv])) hv' h

theorem get_const {expr : Bool} {a : Value} {Q : Value → Shared → Prop} (X : K.In s.heap) (I : ObjM s.heap x dx C mA) (hg : PySem.W.plainGet K C name = true) (hh : PySem.W.hasDictIn K C = true)
    (ha : PySem.W.findIn K (.ref C) name = some (some a)) (hn : PySem.W.specialIn K a "__get__" = some none) (hc : PySem.W.copiedNames.contains name = false) (hv : mA name = none) (hv' : PySem.W.handedIn a = true)
    (h : Q a { s with toks := s.toks + 1 }) : wpAny (model prog w) A (getAttr (.ref x) name expr) Q E s := by
  obtain ⟨od, J, hl⟩ := I.look
  exact PySem.W.get_value X J (PySem.W.plainGet_of hg).1 (PySem.W.findObj_cls hh ha hn hv' hc (by rw [hl, hv])) hv' h

theorem get_meth {pl : Sem Bool} {Q : Value × List Value → Shared → Prop} (X : K.In s.heap) (I : ObjM s.heap x dx C mA) (hg : PySem.W.plainGet K C name = true)
    (hf : PySem.W.findIn K (.ref C) name = some (some (.ref f))) (ht : PySem.W.isFn K (.ref f) = true) (hv : mA name = none) (h : Q (.ref f, [.ref x]) s) :
    wpAny (model prog w) A (getMethod (.ref x) name pl) Q E s := by
  obtain ⟨od, J, hl⟩ := I.look
  exact PySem.W.method_fn X J (PySem.W.plainGet_of hg).1 (PySem.W.plainGet_of hg).2 hf (beq_iff_eq.mp ht) (by show (PySem.W.lookIn name od).map (·.isSome) = some false; rw [hl, hv]; rfl) h

theorem set_map {ns : List Str} {Q : Unit → Shared → Prop} (X : K.In s.heap) (I : ObjM s.heap x dx C mA)
    (hs : PySem.W.findIn K (.ref C) "__setattr__" = some (some (.builtin "object.__setattr__"))) (hp : PySem.W.plainOver K C = true) (ht : PySem.W.takerIn K C name = some none) (hh : PySem.W.hasDictIn K C = true)
    (hw : PySem.Within mA ns) (hsz : ns.length ≤ sizeLine)
    (h : ∀ h', ObjM h' x dx C (fun y => if y = name then some v else mA y) → Heap.SameBut dx s.heap h' → Q () { s with heap := h', toks := s.toks + 2 }) :
    wpAny (model prog w) A (setAttr (.ref x) name v) Q E s := by
  obtain ⟨od, J, hl⟩ := I.look
  refine PySem.W.set_plain X J hs (PySem.W.osa_open (s := { s with toks := s.toks + 1 }) (r := none) X J hp ht fun b => ?_)
  obtain ⟨cd, hc, hd'⟩ := PySem.W.any_some hh
  have hx : s.heap.get? x = some ⟨.ref C, some dx, .plain, #[]⟩ := I.obj
  refine wpAny_bind (wpAny_pure (wpAny_bind (wpAny_bind (wpAny_loadPart hx (wpAny_bind (PySem.W.Looks.here (s := { s with toks := s.toks + 1 }) (PySem.W.looks_clsIn X hc) ?_))))))
  rw [hd']
  refine wpAny_pure (a := some dx) (wpAny_bind (wpAny_pure (wpAny_bind ?_)))
  refine wpAny_nsSet1 (s := { s with toks := s.toks + 1 }) I.ns fun h' hn2 hs2 => ?_
  obtain ⟨oD, esD, epD, hoD, hdD, hcD⟩ := hn2.count (PySem.Within.cons name v hw)
  refine wpAny_bind (wpAny_lookBehind hoD (by rw [hdD]; exact pastItsLine_dict (Nat.le_trans hcD (by rw [List.length_cons]; omega))) ?_)
  exact wpAny_pure (h _ ⟨(hs2.2 _ (Ne.symm I.ne)).trans I.obj, hn2, I.ne⟩ hs2)

/-- C(..): the dict at the heap's end, the instance behind it; then its __init__ -/
theorem make_map {R : Result → Shared → Prop} {vs : List Value} {kw : List (Str × Value)} (X : K.In s.heap) (hm : PySem.W.makesIn K C = true)
    (hi : PySem.W.findIn K (.ref C) "__init__" = some (some (.ref f))) (hf : PySem.W.typeIn K (.ref f) = some (.type "function"))
    (h : codeAny (model prog w) (A.under (.builtin "type.__call__" ⟨.ref C :: vs, kw⟩)) (.call (.ref f) ⟨.ref (s.heap.objs.size + 1) :: vs, kw⟩) (PySem.W.InitBack (s.heap.objs.size + 1) R)
      { s with heap := (s.heap.push PySem.W.emptyDict).push (PySem.W.instObj C s.heap.objs.size) }) :
    codeAny (model prog w) A (.call (.ref C) ⟨vs, kw⟩) R s := by
  obtain ⟨hh, g, d, t, os⟩ := s
  exact PySem.W.make_core (PySem.W.makes_of X hm) (PySem.W.looks_findIn X hi) (fun self => PySem.W.bind_fn X self hf) (.inl rfl) h
/-- C() where there is no __init__ but object's -/
theorem make_map0 {R : Result → Shared → Prop} (X : K.In s.heap) (hm : PySem.W.makesIn K C = true)
    (hi : PySem.W.findIn K (.ref C) "__init__" = some (some (.builtin "object.__init__")))
    (hb : ∀ self, PySem.W.Looks (model prog w) s.heap (bindSpecial (.builtin "object.__init__") self) (.builtin "object.__init__", [self]))
    (h : codeAny (model prog w) (A.under (.builtin "type.__call__" ⟨[.ref C], []⟩)) (.call (.builtin "object.__init__") ⟨[.ref (s.heap.objs.size + 1)], []⟩) (PySem.W.InitBack (s.heap.objs.size + 1) R)
      { s with heap := (s.heap.push PySem.W.emptyDict).push (PySem.W.instObj C s.heap.objs.size) }) :
    codeAny (model prog w) A (.call (.ref C) ⟨[], []⟩) R s := by
  obtain ⟨hh, g, d, t, os⟩ := s
  exact PySem.W.make_core (PySem.W.makes_of X hm) (PySem.W.looks_findIn X hi) hb (.inr ⟨rfl, rfl⟩) h
end

/-! ### the attributes as a list of pairs -/
def putF (f : Str) (v : V) : List (Str × V) → List (Str × V)
  | [] => [(f, v)]
  | (g, x) :: r => if g = f then (g, v) :: r else (g, x) :: putF f v r
theorem lookup_putF (f g : Str) (v : V) : ∀ fs : List (Str × V), (putF f v fs).lookup g = if g = f then some v else fs.lookup g
  | [] => by
    show List.lookup g [(f, v)] = _
    by_cases h : g = f
    · have hb : (g == f) = true := beq_iff_eq.mpr h
      simp only [List.lookup, hb, if_pos h]
    · have hb : (g == f) = false := beq_eq_false_iff_ne.mpr h
      simp only [List.lookup, hb, if_neg h]
  | (k, x) :: r => by
    have ih := lookup_putF f g v r
    rw [show putF f v ((k, x) :: r) = (if k = f then (k, v) :: r else (k, x) :: putF f v r) from rfl]
    by_cases hk : k = f
    · rw [if_pos hk]
      by_cases h : g = k
      · have hb : (g == k) = true := beq_iff_eq.mpr h
        simp only [List.lookup, hb, if_pos (h.trans hk)]
      · have hb : (g == k) = false := beq_eq_false_iff_ne.mpr h
        simp only [List.lookup, hb, if_neg (fun e : g = f => h (e.trans hk.symm))]
    · rw [if_neg hk]
      by_cases h : g = k
      · have hb : (g == k) = true := beq_iff_eq.mpr h
        simp only [List.lookup, hb, if_neg (fun e : g = f => hk (h.symm.trans e))]
      · have hb : (g == k) = false := beq_eq_false_iff_ne.mpr h
        simp only [List.lookup, hb]
        exact ih
theorem keys_putF (f : Str) (v : V) : ∀ fs : List (Str × V), f ∈ (putF f v fs).map (·.1) ∧ ∀ g, g ∈ fs.map (·.1) → g ∈ (putF f v fs).map (·.1)
  | [] => ⟨by simp [putF], fun g h => by simp at h⟩
  | (k, x) :: r => by
    obtain ⟨i1, i2⟩ := keys_putF f v r
    rw [show putF f v ((k, x) :: r) = (if k = f then (k, v) :: r else (k, x) :: putF f v r) from rfl]
    by_cases hk : k = f
    · rw [if_pos hk]
      subst hk
      exact ⟨by simp, fun g h => by simpa using h⟩
    · rw [if_neg hk]
      refine ⟨?_, fun g h => ?_⟩
      · rw [List.map_cons]
        exact List.mem_cons_of_mem _ i1
      · rw [List.map_cons] at h ⊢
        rcases List.mem_cons.mp h with e | e
        · exact List.mem_cons.mpr (.inl e)
        · exact List.mem_cons_of_mem _ (i2 g e)
theorem length_putF (f : Str) (v : V) : ∀ fs : List (Str × V), (putF f v fs).length ≤ fs.length + 1
  | [] => by simp [putF]
  | (k, x) :: r => by
    have ih := length_putF f v r
    rw [show putF f v ((k, x) :: r) = (if k = f then (k, v) :: r else (k, x) :: putF f v r) from rfl]
    by_cases hk : k = f
    · rw [if_pos hk, List.length_cons, List.length_cons]; omega
    · rw [if_neg hk, List.length_cons, List.length_cons]; omega

theorem RelO.some_of {v : V} {o : Option Value} (r : RelO (some v) o) : ∃ u, o = some u ∧ RelV v u := by
  cases o with
  | none => exact (show False from r).elim
  | some u => exact ⟨u, rfl, r⟩
theorem RelO.none_of {o : Option Value} (r : RelO none o) : o = none := by
  cases o with
  | none => rfl
  | some u => exact (show False from r).elim
theorem handed_of {v : V} {u : Value} (r : RelV v u) : PySem.W.handedIn u = true := by
  cases v with
  | non => cases (show u = Value.none from r); rfl
  | bl b => cases (show u = Value.bool b from r); rfl
  | int i => obtain ⟨t, e⟩ := (show ∃ t, u = Value.int i t from r); cases e; rfl
  | str x => obtain ⟨t, e⟩ := (show ∃ t, u = Value.str x t from r); cases e; rfl
  | byt b => obtain ⟨t, e⟩ := (show ∃ t, u = Value.bytes b t from r); cases e; rfl
  | flt b => obtain ⟨t, e⟩ := (show ∃ t, u = Value.float b t from r); cases e; rfl
  | ref a => cases (show u = Value.ref a from r); rfl
  | ty n => cases (show u = Value.type n from r); rfl

section
variable {P : Program} {w : World} {H H' : Hp} {h h' : Heap} {a C dx : Addr} {fs fs' : List (Str × V)}
theorem ins_get (hok : HOk P w H h) (e : H a = some (.ins C dx fs)) : ∃ mA, ObjM h a dx C mA ∧ (∀ f, RelO (fs.lookup f) (mA f)) ∧ PySem.Within mA (fs.map (·.1)) ∧ fs.length ≤ 1000 ∧ H dx = some (.own a) := by
  obtain ⟨d, z, ne, ob, mA, n, r, q⟩ := (show ObjOk P w H h a (.ins C dx fs) from hok a _ e)
  exact ⟨mA, ⟨ob, n, ne⟩, r, q, z, d⟩
end

/-! ### what of the text a class must have -/
structure Cls (K : PySem.W.Frag) (C : Addr) : Prop where
  pg : PySem.W.plainGet K C Str.empty = true
  hd : PySem.W.hasDictIn K C = true
  po : PySem.W.plainOver K C = true
  sa : PySem.W.findIn K (.ref C) "__setattr__" = some (some (.builtin "object.__setattr__"))
theorem Cls.get {K : PySem.W.Frag} {C : Addr} (c : Cls K C) (f : Str) : PySem.W.plainGet K C f = true := c.pg
/-- no class of it has the name -/
def NoAttr (K : PySem.W.Frag) (C : Addr) (f : Str) : Prop := PySem.W.findIn K (.ref C) f = some none
theorem NoAttr.taker {K : PySem.W.Frag} {C : Addr} {f : Str} (n : NoAttr K C f) : PySem.W.takerIn K C f = some none := by
  unfold PySem.W.takerIn
  rw [show PySem.W.findIn K (.ref C) f = some none from n]
  rfl
/-- a constant of the class -/
structure Con (K : PySem.W.Frag) (C : Addr) (f : Str) (v : V) (u : Value) : Prop where
  at_ : PySem.W.findIn K (.ref C) f = some (some u)
  rel : RelV v u
  get : PySem.W.specialIn K u "__get__" = some none
  cp : PySem.W.copiedNames.contains f = false
/-- a method: a plain def of the class or of one above it -/
structure Meth (K : PySem.W.Frag) (C : Addr) (m : Str) (f : Addr) : Prop where
  at_ : PySem.W.findIn K (.ref C) m = some (some (.ref f))
  fn : PySem.W.isFn K (.ref f) = true
  kp : PySem.W.keepIn K (.ref f) = true

section
variable {X : Cx} {pins : List (Addr × Obj)} {σ : St} {H : Hp} {s : Shared} {a C dx : Addr} {fs : List (Str × V)} {f : Str} {v : V} {A : Around} {E : Value → Shared → Prop}

theorem getattr_ok {b : Bool} {Q : Value → Shared → Prop} (I : Inv X pins σ H s) (e : H a = some (.ins C dx fs)) (c : Cls X.K C) (n : NoAttr X.K C f) (l : fs.lookup f = some v)
    (h : ∀ u s', Inv X pins σ H s' → RelV v u → Q u s') : wpAny (model X.prog X.w) A (getAttr (.ref a) f b) Q E s := by
  obtain ⟨mA, O, r, _, _, _⟩ := ins_get I.hok e
  obtain ⟨u, hu, ru⟩ := RelO.some_of (v := v) (o := mA f) (by rw [← l]; exact r f)
  exact get_map I.kIn O (c.get f) c.hd n hu (handed_of ru) (h u _ (I.tok _) ru)

theorem getcon_ok {b : Bool} {u : Value} {Q : Value → Shared → Prop} (I : Inv X pins σ H s) (e : H a = some (.ins C dx fs)) (c : Cls X.K C) (k : Con X.K C f v u) (l : fs.lookup f = none)
    (h : ∀ s', Inv X pins σ H s' → Q u s') : wpAny (model X.prog X.w) A (getAttr (.ref a) f b) Q E s := by
  obtain ⟨mA, O, r, _, _, _⟩ := ins_get I.hok e
  have hn : mA f = none := RelO.none_of (by rw [← l]; exact r f)
  exact get_const I.kIn O (c.get f) c.hd k.at_ k.get k.cp hn (handed_of k.rel) (h _ (I.tok _))

theorem getmeth_ok {m : Str} {g : Addr} {pl : Sem Bool} {Q : Value × List Value → Shared → Prop} (I : Inv X pins σ H s) (e : H a = some (.ins C dx fs)) (c : Cls X.K C) (k : Meth X.K C m g) (l : fs.lookup m = none)
    (h : Q (.ref g, [.ref a]) s) : wpAny (model X.prog X.w) A (getMethod (.ref a) m pl) Q E s := by
  obtain ⟨mA, O, r, _, _, _⟩ := ins_get I.hok e
  have hn : mA m = none := RelO.none_of (by rw [← l]; exact r m)
  exact get_meth I.kIn O (c.get m) k.at_ k.fn hn h

theorem setattr_ok {y : V} {u : Value} {Q : Unit → Shared → Prop} (I : Inv X pins σ H s) (e : H a = some (.ins C dx fs)) (c : Cls X.K C) (n : NoAttr X.K C f) (hl : fs.length < 1000) (ry : RelV y u)
    (h : ∀ s', Inv X pins σ (upd H a (.ins C dx (putF f y fs))) s' → Q () s') : wpAny (model X.prog X.w) A (setAttr (.ref a) f u) Q E s := by
  obtain ⟨mA, O, r, wi, _, ho⟩ := ins_get I.hok e
  have hz : (fs.map (·.1)).length ≤ sizeLine := by rw [List.length_map, sizeLine_eq]; omega
  refine set_map I.kIn O c.sa c.po n.taker c.hd wi hz fun h' O' sb => h _ ?_
  have hd : ∃ o, h'.get? dx = some o := let ⟨o, _, _, e', _⟩ := O'.ns; ⟨o, e'⟩
  refine I.write (x := a) (e := dx) (by rw [e]; exact True.intro) (.inr ho) (fun b q hb z => (sb.2 b hb).trans z) hd ?_
  refine ⟨by rw [upd_ne O.ne]; exact ho, ?_, O.ne, O'.obj, _, O'.ns, fun g => ?_, fun g hg => ?_⟩
  · have := length_putF f y fs; omega
  · show RelO ((putF f y fs).lookup g) (if g = f then some u else mA g)
    rw [lookup_putF]
    by_cases q : g = f
    · rw [if_pos q, if_pos q]; exact ry
    · rw [if_neg q, if_neg q]; exact r g
  · by_cases q : g = f
    · rw [q]; exact (keys_putF f y fs).1
    · refine (keys_putF f y fs).2 g (wi g fun z => hg ?_)
      show (if g = f then some u else mA g) = none
      rw [if_neg q]; exact z

/-- a new instance, tracked, without attributes -/
theorem Inv.made (I : Inv X pins σ H s) : Inv X pins σ (upd (upd H s.heap.objs.size (.own (s.heap.objs.size + 1))) (s.heap.objs.size + 1) (.ins C s.heap.objs.size []))
    { s with heap := (s.heap.push PySem.W.emptyDict).push (PySem.W.instObj C s.heap.objs.size) } := by
  have e1 : (s.heap.push PySem.W.emptyDict).get? s.heap.objs.size = some PySem.W.emptyDict := Heap.get?_push_size s.heap rfl
  have e2 : ((s.heap.push PySem.W.emptyDict).push (PySem.W.instObj C s.heap.objs.size)).get? (s.heap.objs.size + 1) = some (PySem.W.instObj C s.heap.objs.size) := by
    have := Heap.get?_push_size (s.heap.push PySem.W.emptyDict) (o := PySem.W.instObj C s.heap.objs.size) rfl
    rwa [Heap.size_push] at this
  have e3 : (s.heap.push PySem.W.emptyDict).Ns s.heap.objs.size (fun _ => none) := ⟨PySem.W.emptyDict, #[], _, e1, rfl, (fun e he => absurd he (by simp)), fun _ => rfl⟩
  have I1 := I.laid (a := s.heap.objs.size) (o := .own (s.heap.objs.size + 1)) (h' := s.heap.push PySem.W.emptyDict) (t' := s.toks) (fun b u q => Heap.get?_push_of_some _ q) (Nat.le_refl _) ⟨_, e1⟩
  refine I1.laid (a := s.heap.objs.size + 1) (o := .ins C s.heap.objs.size []) (t' := s.toks) (fun b u q => Heap.get?_push_of_some _ q) (Nat.le_of_eq (Heap.size_push _ _)) ?_
  have ne : s.heap.objs.size ≠ s.heap.objs.size + 1 := Nat.ne_of_lt (Nat.lt_succ_self _)
  refine ⟨by rw [upd_ne ne, upd_same], Nat.zero_le _, ne, e2, fun _ => none, (Heap.Ns1.of_empty e3).at fun o q => Heap.get?_push_of_some _ q, fun _ => True.intro, fun y hy => absurd rfl hy⟩

/-- e.f where nothing but the object is asked: through attributeBase (super) and the last hold -/
theorem attr_of {prog : Program} {w : World} {env : Env} {e : Expr} {f : Str} {pos : Pos} {s : Shared} {Q : Value → Shared → Prop} (hb : attributeBase e f env (eval e env) = eval e env)
    (h : wpAny (model prog w) A (eval e env) (fun o s₁ => wpAny (model prog w) A (getAttr o f true) Q E s₁) E s) : wpAny (model prog w) A (eval (.Attribute e f pos) env) Q E s :=
  Attribute_any_ h (by rw [arm_eval_Attribute, hb])
end

/-! ### readings and rules -/
/-- e.f, an attribute of the instance -/
def tFld (K : PySem.W.Frag) (ta : TE) (f : Str) : TE := fun σ H Q => ta σ H fun x H1 => ∃ a C dx fs v, x = .ref a ∧ H1 a = some (.ins C dx fs) ∧ Cls K C ∧ NoAttr K C f ∧ fs.lookup f = some v ∧ Q v H1
/-- e.f, a constant of the class -/
def tCon (K : PySem.W.Frag) (ta : TE) (f : Str) : TE := fun σ H Q => ta σ H fun x H1 => ∃ a C dx fs v u, x = .ref a ∧ H1 a = some (.ins C dx fs) ∧ Cls K C ∧ Con K C f v u ∧ fs.lookup f = none ∧ Q v H1
/-- e.f = value -/
def sFld (K : PySem.W.Frag) (ta tv : TE) (f : Str) : TS := fun D σ H => tv σ H fun y H1 => ta σ H1 fun x H2 => ∃ a C dx fs, x = .ref a ∧ H2 a = some (.ins C dx fs) ∧ Cls K C ∧ NoAttr K C f ∧ fs.length < 1000 ∧
  D.nx σ (upd H2 a (.ins C dx (putF f y fs)))
/-- an augmented operator on two values -/
def InOp (X : Cx) (op : Operator) (rd : V → V → Hp → VK → Prop) : Prop :=
  ∀ (pins : List (Addr × Obj)) (s : Shared) (σ : St) (H : Hp) (x y : V) (u v : Value) (Q : VK), Inv X pins σ H s → RelV x u → RelV y v → rd x y H Q → wpAny (model X.prog X.w) X.A (inplaceOp op u v) (EP X pins σ Q) X.xe s
/-- e.f op= value -/
def sFldAug (K : PySem.W.Frag) (ta tv : TE) (rd : V → V → Hp → VK → Prop) (f : Str) : TS := fun D σ H => ta σ H fun x H1 => ∃ a C dx fs v, x = .ref a ∧ H1 a = some (.ins C dx fs) ∧ Cls K C ∧ NoAttr K C f ∧ fs.lookup f = some v ∧
  tv σ H1 fun y H2 => rd v y H2 fun z H3 => ∃ dx' fs', H3 a = some (.ins C dx' fs') ∧ fs'.length < 1000 ∧ D.nx σ (upd H3 a (.ins C dx' (putF f z fs')))

section
variable {X : Cx} {o e value : Expr} {f : Str} {pos pos' tpos : Pos} {ta tv : TE}
theorem pe_fld (he : PE X e ta) (hb : attributeBase e f X.env (eval e X.env) = eval e X.env) : PE X (.Attribute e f pos) (tFld X.K ta f) := by
  intro pins s σ H Q I h
  refine attr_of hb (thn (he pins s σ H _ I h) fun u s1 ⟨x, H1, I1, rx, a, C, dx, fs, v, ex, ea, c, n, l, q⟩ => ?_)
  subst ex
  obtain rfl : u = Value.ref a := rx
  exact getattr_ok I1 ea c n l fun u' s2 I2 ru => ⟨v, H1, I2, ru, q⟩
theorem pe_con (he : PE X e ta) (hb : attributeBase e f X.env (eval e X.env) = eval e X.env) : PE X (.Attribute e f pos) (tCon X.K ta f) := by
  intro pins s σ H Q I h
  refine attr_of hb (thn (he pins s σ H _ I h) fun u s1 ⟨x, H1, I1, rx, a, C, dx, fs, v, u0, ex, ea, c, k, l, q⟩ => ?_)
  subst ex
  obtain rfl : u = Value.ref a := rx
  exact getcon_ok I1 ea c k l fun s2 I2 => ⟨v, H1, I2, k.rel, q⟩
theorem ps_fld (ha : PE X o ta) (hv : PE X value tv) (hs : swapsWith value (some (.Attribute o f pos')) pos.line X.env = pure false) : PS X (.Assign [.Attribute o f pos'] value pos) (sFld X.K ta tv f) := by
  intro pins s σ H D I h
  refine plainObj_wpAny_Assign_Attribute (thn (hv pins s σ H _ I h) fun u s1 ⟨y, H1, I1, ry, q⟩ => thn (ha pins s1 σ H1 _ I1 q) fun ov s2 ⟨x, H2, I2, rx, a, C, dx, fs, ex, ea, c, n, l, q2⟩ => ?_) hs
  subst ex
  obtain rfl : ov = Value.ref a := rx
  exact setattr_ok I2 ea c n l ry fun s3 I3 => ⟨σ, _, I3, q2⟩
theorem ps_fldaug {op : Operator} {rd : V → V → Hp → VK → Prop} (ha : PE X o ta) (hv : PE X value tv) (hop : InOp X op rd) : PS X (.AugAssign (.Attribute o f tpos) op value pos) (sFldAug X.K ta tv rd f) := by
  intro pins s σ H D I h
  refine wpAny_AugAssign_AttributeAny (thn (ha pins s σ H _ I h) fun ov s1 ⟨x, H1, I1, rx, a, C, dx, fs, v, ex, ea, c, n, l, q⟩ => ?_)
  subst ex
  obtain rfl : ov = Value.ref a := rx
  refine getattr_ok I1 ea c n l fun u s2 I2 ru => thn (hv pins s2 σ H1 _ I2 q) fun w3 s3 ⟨y, H2, I3, ry, q3⟩ => thn (hop pins s3 σ H2 v y u w3 _ I3 ru ry q3) fun w4 s4 ⟨z, H3, I4, rz, dx', fs', ea', l', q4⟩ => ?_
  exact setattr_ok I4 ea' c n l' rz fun s5 I5 => ⟨σ, _, I5, q4⟩
def rAdd : V → V → Hp → VK → Prop := fun x y H Q => ∃ i j, x = .int i ∧ y = .int j ∧ Q (.int (i + j)) H
def rSub : V → V → Hp → VK → Prop := fun x y H Q => ∃ i j, x = .int i ∧ y = .int j ∧ Q (.int (i - j)) H
theorem in_add : InOp X .Add rAdd := by
  rintro pins s σ H x y u v Q I rx ry ⟨i, j, rfl, rfl, q⟩
  obtain ⟨t, rfl⟩ := (show ∃ t, u = Value.int i t from rx)
  obtain ⟨t', rfl⟩ := (show ∃ t', v = Value.int j t' from ry)
  exact PyProof.Rows.iadd_int ⟨.int (i + j), H, I.tok _, ⟨_, rfl⟩, q⟩
theorem in_sub : InOp X .Sub rSub := by
  rintro pins s σ H x y u v Q I rx ry ⟨i, j, rfl, rfl, q⟩
  obtain ⟨t, rfl⟩ := (show ∃ t, u = Value.int i t from rx)
  obtain ⟨t', rfl⟩ := (show ∃ t', v = Value.int j t' from ry)
  exact PyProof.Rows.isub_int ⟨.int (i - j), H, I.tok _, ⟨_, rfl⟩, q⟩

/-- what is between an instance and its method: the tree of a method call -/
theorem methcall_of {pl : Sem Bool} {m : Str} {apos : Pos} {args : List Expr} {pins : List (Addr × Obj)} {s : Shared} {σ : St} {H : Hp} {Q : Value → Shared → Prop} {te : TE} (he : PE X e te) (I : Inv X pins σ H s)
    (h : te σ H fun x H1 => ∃ a C dx fs g, x = .ref a ∧ H1 a = some (.ins C dx fs) ∧ Cls X.K C ∧ Meth X.K C m g ∧ fs.lookup m = none ∧
      ∀ s1, Inv X pins σ H1 s1 → wpAny (model X.prog X.w) X.A (callWith pos (.ref g) [.ref a] (backTo pos (starEach args X.env)) (backToKw pos (keywordEach [] X.env))) Q X.xe s1)
    (ht : eval (.Call (.Attribute e m apos) args [] pos) X.env = (do
      let ov ← eval e X.env
      standAt apos.atName
      let (f, first) ← holding [ov] (getMethod ov m pl)
      callWith pos f first (backTo pos (starEach args X.env)) (backToKw pos (keywordEach [] X.env)))) :
    wpAny (model X.prog X.w) X.A (eval (.Call (.Attribute e m apos) args [] pos) X.env) Q X.xe s := by
  refine PySem.W.methodCall_KW (pl := pl) (thn (he pins s σ H _ I h) fun u s1 ⟨x, H1, I1, rx, a, C, dx, fs, g, ex, ea, c, k, l, q⟩ => ?_) ht
  subst ex
  obtain rfl : u = Value.ref a := rx
  exact getmeth_ok I1 ea c k l (q s1 I1)
end

/-! ### isinstance -/
section
variable {X : Cx} {pins : List (Addr × Obj)} {σ : St} {H : Hp} {s : Shared} {A : Around} {E : Value → Shared → Prop} {Q : Value → Shared → Prop} {c : Value} {b : Bool}
/-- the type of a value, as the fragment's deciders take it; for an instance its class -/
inductive TyOf (K : PySem.W.Frag) (H : Hp) : V → Value → Prop where
  | non : TyOf K H .non (.type "NoneType")
  | bl (x : Bool) : TyOf K H (.bl x) (.type "bool")
  | int (i : Int) : TyOf K H (.int i) (.type "int")
  | str (x : Str) : TyOf K H (.str x) (.type "str")
  | flt (x : UInt64) : TyOf K H (.flt x) (.type "float")
  | lst {a : Addr} {xs : List V} (e : H a = some (.lst xs)) : TyOf K H (.ref a) (.type "list")
  | frz {a : Addr} {o : Obj} {xs : List V} (e : H a = some (.frz o (.lst xs))) : TyOf K H (.ref a) (.type "list")
  | tup {a : Addr} {xs : List V} (e : H a = some (.tup xs)) : TyOf K H (.ref a) (.type "tuple")
  | dK {a : Addr} {kvs : List (Key × V)} (e : H a = some (.dK kvs)) : TyOf K H (.ref a) (.type "dict")
  | dT {a : Addr} {kvs : List (List Key × V)} (e : H a = some (.dT kvs)) : TyOf K H (.ref a) (.type "dict")
  | ins {a C dx : Addr} {fs : List (Str × V)} (e : H a = some (.ins C dx fs)) (cl : Cls K C) (ha : PySem.W.findIn K (.ref C) "__class__" = some (some (.builtin "object.__class__")))
      (hn : PySem.W.specialIn K (.builtin "object.__class__") "__get__" = some (some (.builtin "getset_descriptor.__get__"))) (htk : PySem.W.takesIn K (.builtin "object.__class__") = some true)
      (hm : PySem.W.mroIn K C (.type "object") = some true) : TyOf K H (.ref a) (.ref C)
/-- isinstance(x, c) for one class c, a built-in or an own one: kitOne's answer -/
theorem isinst_ok {x : V} {u t : Value} (I : Inv X pins σ H s) (rx : RelV x u) (ty : TyOf X.K H x t) (e : PySem.W.kitOne X.K t c = some b) (h : ∀ tk, Q (.bool b) { s with toks := tk }) :
    wpAny (model X.prog X.w) A (call (.builtin "isinstance") [u, c]) Q E s := by
  cases ty with
  | non => cases (show u = Value.none from rx); exact PySem.W.kia_one PySem.W.kitx_none I.kIn True.intro e (fun z => nomatch z) h
  | bl y => cases (show u = Value.bool y from rx); exact PySem.W.kia_one PySem.W.kitx_bool I.kIn True.intro e (fun z => nomatch z) h
  | int i => obtain ⟨t, q⟩ := (show ∃ t, u = Value.int i t from rx); cases q; exact PySem.W.kia_one PySem.W.kitx_int I.kIn True.intro e (fun z => nomatch z) h
  | str y => obtain ⟨t, q⟩ := (show ∃ t, u = Value.str y t from rx); cases q; exact PySem.W.kia_one PySem.W.kitx_str I.kIn True.intro e (fun z => nomatch z) h
  | flt y => obtain ⟨t, q⟩ := (show ∃ t, u = Value.float y t from rx); cases q; exact PySem.W.kia_one PySem.W.kitx_float I.kIn True.intro e (fun z => nomatch z) h
  | @lst a xs ea =>
    cases (show u = Value.ref a from rx)
    obtain ⟨_, _, n, _, h1⟩ := (show ObjOk X.prog X.w H s.heap a (.lst xs) from I.hok a _ ea)
    exact PySem.W.kia_one PySem.W.kitx_list I.kIn ⟨_, h1, rfl⟩ e (fun z => nomatch z) h
  | @frz a ob xs ea =>
    cases (show u = Value.ref a from rx)
    obtain ⟨_, _, _, n, _, h1⟩ := (show ObjOk X.prog X.w H s.heap a (.frz ob (.lst xs)) from I.hok a _ ea)
    exact PySem.W.kia_one PySem.W.kitx_list I.kIn ⟨_, h1, rfl⟩ e (fun z => nomatch z) h
  | @tup a xs ea =>
    cases (show u = Value.ref a from rx)
    obtain ⟨_, _, _, p⟩ := (show ObjOk X.prog X.w H s.heap a (.tup xs) from I.hok a _ ea)
    obtain ⟨o, h1, h2, _⟩ := p
    exact PySem.W.kia_one PySem.W.kitx_tuple I.kIn ⟨o, h1, h2⟩ e (fun z => nomatch z) h
  | @dK a kvs ea =>
    cases (show u = Value.ref a from rx)
    obtain ⟨_, _, vs, _, p⟩ := (show ObjOk X.prog X.w H s.heap a (.dK kvs) from I.hok a _ ea)
    obtain ⟨o, es, ep, h1, h2, _⟩ := p
    exact PySem.W.kia_one PySem.W.kitx_dict I.kIn ⟨o, h1, h2.1⟩ e (fun z => nomatch z) h
  | @dT a kvs ea =>
    cases (show u = Value.ref a from rx)
    obtain ⟨_, _, xs, _, o, es, ep, h1, h2, _⟩ := (show ObjOk X.prog X.w H s.heap a (.dT kvs) from I.hok a _ ea)
    exact PySem.W.kia_one PySem.W.kitx_dict I.kIn ⟨o, h1, h2.1⟩ e (fun z => nomatch z) h
  | @ins a C dx fs ea cl ha hn htk hm =>
    cases (show u = Value.ref a from rx)
    obtain ⟨mA, O, _⟩ := ins_get I.hok ea
    obtain ⟨od, J, _⟩ := O.look
    exact PySem.W.kia_one (PySem.W.kitx_own (cl.get _) cl.hd ha hn htk hm) I.kIn J e (fun z => nomatch z) h
end
end L2

namespace L2
open PySem PySem.Spec PyProof.Rows

/-! ### room -/
structure Room (k : Nat) (A : Around) : Prop where
  hd : A.handled = none
  dp : A.depth + 3 * k + 5 < recursionLimit
  un : A.units + 16 * k + 200 < cLine
theorem Room.mono {j k : Nat} {A : Around} (r : Room k A) (h : j ≤ k) : Room j A := ⟨r.hd, by have := r.dp; omega, by have := r.un; omega⟩
theorem Room.deeper {k : Nat} {A : Around} (r : Room (k + 1) A) (env : Env) : Room k (A.deeper env) :=
  ⟨r.hd, by have := r.dp; show A.depth + 1 + 3 * k + 5 < _; omega, by have := r.un; show A.units + 3 + 16 * k + 200 < _; omega⟩
theorem Room.in1 {k : Nat} {A : Around} (r : Room (k + 1) A) : Room k A.in1 :=
  ⟨r.hd, by have := r.dp; show A.depth + 3 * k + 5 < _; omega, by have := r.un; show A.units + 1 + 16 * k + 200 < _; omega⟩
theorem make_depth {A : Around} {C : Addr} {us : List Value} {kw : List (Str × Value)} : (A.under (.builtin "type.__call__" ⟨.ref C :: us, kw⟩)).depth = A.depth + 1 := by
  first | rfl | simp [Around.under, Code.weight, Code.isCreation, Code.isGuard, Code.isCaller, Code.frames, Code.isFrame, guardIds]
theorem make_units {A : Around} {C : Addr} {us : List Value} {kw : List (Str × Value)} : (A.under (.builtin "type.__call__" ⟨.ref C :: us, kw⟩)).units = A.units + 1 := by
  first | rfl | simp [Around.under, Code.cUnits, Code.frames, Code.isFrame]
theorem Room.make {k : Nat} {A : Around} (r : Room (k + 1) A) (C : Addr) (us : List Value) (kw : List (Str × Value)) : Room k (A.under (.builtin "type.__call__" ⟨.ref C :: us, kw⟩)) :=
  ⟨r.hd, by have := r.dp; rw [make_depth]; omega, by have := r.un; rw [make_units]; omega⟩
theorem Room.depth {k : Nat} {A : Around} (r : Room k A) : A.depth < recursionLimit := by have := r.dp; omega
theorem Room.units {k : Nat} {A : Around} (r : Room k A) : A.units + 64 < cLine := by have := r.un; omega
theorem Room.units0 {k : Nat} {A : Around} (r : Room k A) : A.units < cLine := by have := r.un; omega

/-! ### argument lists and displays -/
def tNil : TA := fun _ H Q => Q [] H
def tCons (ta : TE) (tr : TA) : TA := fun σ H Q => ta σ H fun x H1 => tr σ H1 fun xs H2 => Q (x :: xs) H2
section
variable {X : Cx} {e : Expr} {es : List Expr} {te : TE} {t : TA} {pos : Pos}
theorem pa_nil : PA X [] tNil := fun _ _ _ _ H Q I h => Calls.spliced_nil ⟨[], H, I, .nil, h⟩
theorem pa_cons (ha : PE X e te) (hr : PA X es t) (hs : starEach (e :: es) X.env = (false, eval e X.env) :: starEach es X.env := by rfl) : PA X (e :: es) (tCons te t) := by
  intro pos pins s σ H Q I h
  rw [hs]
  show wpAny _ _ (spliced ((false, eval e X.env) :: backTo pos (starEach es X.env))) _ _ s
  refine Calls.spliced_cons (thn (ha pins s σ H _ I h) fun u s1 ⟨x, H1, I1, r1, q1⟩ => ?_)
  exact thn (hr pos pins s1 σ H1 _ I1 q1) fun us s2 ⟨xs, H2, I2, r2, q2⟩ => ⟨x :: xs, H2, I2, .cons r1 r2, q2⟩

/-- a tuple, a list of written items -/
def tTup (t : TA) : TE := fun σ H Q => t σ H fun xs H1 => xs.length ≤ sizeLine ∧ ∀ p, H1 p = none → Q (.ref p) (upd H1 p (.tup xs))
def tLst (t : TA) : TE := fun σ H Q => t σ H fun xs H1 => xs.length ≤ sizeLine ∧ ∀ p, H1 p = none → Q (.ref p) (upd H1 p (.lst xs))
theorem pe_tup {x1} (h : PA X es t) : PE X (.Tuple es x1 pos) (tTup t) := by
  intro pins s σ H Q I hq
  refine wpAny_Tuple_spliced (thn (h pos pins s σ H _ I hq) fun us s1 ⟨xs, H1, I1, r, z, q⟩ => ⟨by rw [← r.length]; exact z, ?_⟩)
  have hf : H1 s1.heap.objs.size = none := I1.hok.fresh (Nat.le_refl _)
  refine ⟨.ref s1.heap.objs.size, upd H1 s1.heap.objs.size (.tup xs), I1.laid (t' := s1.toks) (fun b u e => Heap.get?_push_of_some _ e) (Nat.le_refl _) ?_, rfl, q _ hf⟩
  exact ⟨z, us, r, ⟨_, Heap.get?_push_size _ rfl, rfl, _, rfl⟩⟩
theorem pe_lst (h : PA X es t) : PE X (.List es pos) (tLst t) := by
  intro pins s σ H Q I hq
  refine wpAny_List_spliced (thn (h pos pins s σ H _ I hq) fun us s1 ⟨xs, H1, I1, r, z, q⟩ => ⟨by rw [← r.length]; exact z, ?_⟩)
  have hf : H1 s1.heap.objs.size = none := I1.hok.fresh (Nat.le_refl _)
  refine ⟨.ref s1.heap.objs.size, upd H1 s1.heap.objs.size (.lst xs), I1.laid (t' := s1.toks) (fun b u e => Heap.get?_push_of_some _ e) (Nat.le_refl _) ?_, rfl, q _ hf⟩
  exact ⟨z, us, 0, r, Heap.get?_push_size _ rfl⟩
end

/-! ### what a def promises -/
/-- a def's promise: the bound arguments in the parameters' order, the heap, the wanted end, the wanted exception -/
abbrev Sp := List V → Hp → VK → XK → Prop
/-- how an exception lies behind a call (file 08 gives it): the callers' frames, abstract heap and state ahead of the call, the wish, the exception, the state -/
abbrev CXT := List Env → Hp → Shared → XK → Value → Shared → Prop

/-- the state at a call -/
structure Env0 (P : Program) (w : World) (K : PySem.W.Frag) (mg : Str → Option Value) (base : Heap) (A : Around) (outer : List Env) (s : Shared) (H : Hp) : Prop where
  frames : A.frames = some outer
  mod : Mod K mg base
  bs : ∀ b o, base.get? b = some o → s.heap.get? b = some o ∧ H b = none
  bsz : base.objs.size ≤ s.heap.objs.size
  funs : s.heap.FunFrames base outer
  frf : ∀ b ∈ frs outer, H b = none
  hok : HOk P w H s.heap
  bare : AllBare s.gens
/-- a call's end -/
def CE (outer : List Env) (P : Program) (w : World) (H : Hp) (s : Shared) (Q : VK) (u : Value) (s' : Shared) : Prop :=
  ∃ v H', s'.os = s.os ∧ AllBare s'.gens ∧ Un (frs outer) [] H H' s.heap s'.heap ∧ HOk P w H' s'.heap ∧ RelV v u ∧ Q v H'
def CR (CX : CXT) (outer : List Env) (P : Program) (w : World) (H : Hp) (s : Shared) (Q : VK) (E : XK) (r : Result) (s' : Shared) : Prop :=
  match r with
  | .ok (.ret u) => CE outer P w H s Q u s'
  | .ok _ => False
  | .error e => CX outer H s E e s'
structure FnOk (P : Program) (w : World) (K : PySem.W.Frag) (mg : Str → Option Value) (base : Heap) (CX : CXT) (k : Nat) (f : Addr) (fd : FuncData) (ps : List Str) (sp : Sp) : Prop where
  len : ∀ vs H Q E, sp vs H Q E → vs.length = ps.length
  run : ∀ (A : Around) (outer : List Env) (s : Shared) (H : Hp) (args : Args) (us : List Value) (vs : List V) (Q : VK) (E : XK), Room k A → Env0 P w K mg base A outer s H → BindsTo s fd args (ps.zip us) → Vals vs us → sp vs H Q E →
    codeAny (model P w) A (.call (.ref f) args) (CR CX outer P w H s Q E) s
theorem FnOk.mono {P : Program} {w : World} {K : PySem.W.Frag} {mg : Str → Option Value} {base : Heap} {CX : CXT} {j k : Nat} {f : Addr} {fd : FuncData} {ps : List Str} {sp : Sp} (F : FnOk P w K mg base CX j f fd ps sp) (h : j ≤ k) :
    FnOk P w K mg base CX k f fd ps sp := ⟨F.len, fun A outer s H args us vs Q E hr => F.run A outer s H args us vs Q E (hr.mono h)⟩
/-- a weaker promise -/
theorem FnOk.imp {P : Program} {w : World} {K : PySem.W.Frag} {mg : Str → Option Value} {base : Heap} {CX : CXT} {k : Nat} {f : Addr} {fd : FuncData} {ps : List Str} {sp sp' : Sp} (F : FnOk P w K mg base CX k f fd ps sp)
    (h : ∀ vs H Q E, sp' vs H Q E → sp vs H Q E) : FnOk P w K mg base CX k f fd ps sp' :=
  ⟨fun vs H Q E q => F.len vs H Q E (h _ _ _ _ q), fun A outer s H args us vs Q E hr he hb hv hs => F.run A outer s H args us vs Q E hr he hb hv (h _ _ _ _ hs)⟩

theorem Env0.make {P : Program} {w : World} {K : PySem.W.Frag} {mg : Str → Option Value} {base : Heap} {A : Around} {outer : List Env} {s : Shared} {H : Hp} (e : Env0 P w K mg base A outer s H) (C : Addr) (us : List Value) (kw : List (Str × Value)) :
    Env0 P w K mg base (A.under (.builtin "type.__call__" ⟨.ref C :: us, kw⟩)) outer s H := ⟨by first | exact e.frames | (simpa [Around.under, Code.envs, Code.isFrame, pushEnvs] using e.frames), e.mod, e.bs, e.bsz, e.funs, e.frf, e.hok, e.bare⟩
theorem Env0.in1 {P : Program} {w : World} {K : PySem.W.Frag} {mg : Str → Option Value} {base : Heap} {A : Around} {outer : List Env} {s : Shared} {H : Hp} (e : Env0 P w K mg base A outer s H) :
    Env0 P w K mg base A.in1 outer s H := ⟨e.frames, e.mod, e.bs, e.bsz, e.funs, e.frf, e.hok, e.bare⟩

section
variable {X : Cx} {pins : List (Addr × Obj)} {σ : St} {H : Hp} {s s' : Shared}
/-- from a body: what a callee wants -/
theorem Inv.env0 (I : Inv X pins σ H s) : Env0 X.prog X.w X.K X.mg X.base X.A X.stack s H :=
  ⟨I.ok.frames, I.ok.mod, I.bs, Nat.le_trans I.ok.bsz I.sz, I.stack, I.stkFree, I.hok, I.bare⟩
/-- behind a call -/
theorem Inv.after {Q : VK} {u : Value} (I : Inv X pins σ H s) (h : CE X.stack X.prog X.w H s Q u s') : EP X pins σ Q u s' := by
  obtain ⟨v, H', os, bare, un, hok, r, q⟩ := h
  obtain ⟨hh, g, d, t, os'⟩ := s'
  obtain rfl : os' = s.os := os
  exact ⟨v, H', I.call (h' := hh) (g' := g) (d' := d) (t' := t) (ch := []) un hok bare (fun b z => absurd z (by simp)), r, q⟩
end

/-! ### calls -/
/-- f(..): the written arguments, then the defaults dvs; E: what is wanted of an exception -/
def tCall (sp : Sp) (dvs : List V) (E : XK) (t : TA) : TE := fun σ H Q => t σ H fun vs H1 => sp (vs ++ dvs) H1 Q E
/-- o.m(..) of an instance of the class at C -/
def tMeth (C : Addr) (m : Str) (sp : Sp) (dvs : List V) (E : XK) (ta : TE) (t : TA) : TE := fun σ H Q => ta σ H fun x H1 => ∃ a dx fs, x = .ref a ∧ H1 a = some (.ins C dx fs) ∧ fs.lookup m = none ∧
  t σ H1 fun vs H2 => sp (x :: (vs ++ dvs)) H2 Q E
/-- C(..): a new instance and its dict, then __init__ -/
def tMake (C : Addr) (sp : Sp) (dvs : List V) (E : XK) (t : TA) : TE := fun σ H Q => t σ H fun vs H1 => ∀ x dx, H1 x = none → H1 dx = none → dx ≠ x →
  sp (.ref x :: (vs ++ dvs)) (upd (upd H1 dx (.own x)) x (.ins C dx [])) (fun v H2 => v = .non ∧ Q (.ref x) H2) E

/-- how the parameters are bound: us the positional arguments, kw the keywords' values by name, ds the defaults that fill up -/
def Binds (K : PySem.W.Frag) (fd : FuncData) (ps : List Str) (ds : List Value) : Prop :=
  ∀ (s : Shared) (us : List Value), K.In s.heap → (us ++ ds).length = ps.length → BindsTo s fd ⟨us, []⟩ (ps.zip (us ++ ds))
/-- every parameter is given -/
theorem Binds.all {K : PySem.W.Frag} {fd : FuncData} {ps : List Str} (h : ∀ us : List Value, us.length = ps.length → bindArgs fd ⟨us, []⟩ = pure (ps.zip us)) : Binds K fd ps [] := fun s us _ hl => by
  rw [List.append_nil] at hl ⊢
  exact .of_eq (h us hl)

/-- an exception of a callee reaches what this body wants of exceptions -/
def Passes (CX : CXT) (X : Cx) (E : XK) : Prop := ∀ (pins : List (Addr × Obj)) (σ : St) (H : Hp) (s : Shared) (e : Value) (s' : Shared), Inv X pins σ H s → CX X.stack H s E e s' → X.xe e s'

section
variable {X : Cx} {CX : CXT} {k : Nat} {f C : Addr} {fd : FuncData} {ps : List Str} {sp : Sp} {dvs : List V} {ds : List Value} {E : XK} {x m : Str} {p pos apos : Pos} {e o : Expr} {es : List Expr} {ta : TE} {t : TA}

/-- the callee runs -/
theorem run_fn {pins : List (Addr × Obj)} {σ : St} {H : Hp} {s : Shared} {Q : VK} {us : List Value} {vs : List V} (F : FnOk X.prog X.w X.K X.mg X.base CX k f fd ps sp) (hr : Room k X.A) (hb : Binds X.K fd ps ds) (hd : Vals dvs ds) (hx : Passes CX X E)
    (I : Inv X pins σ H s) (r : Vals vs us) (h : sp (vs ++ dvs) H Q E) : wpAny (model X.prog X.w) X.A (call (.ref f) us) (EP X pins σ Q) X.xe s := by
  have r2 : Vals (vs ++ dvs) (us ++ ds) := r.append hd
  have hl : (us ++ ds).length = ps.length := by rw [← r2.length]; exact F.len _ _ _ _ h
  refine wpAny_call (codeAny_mono (F.run X.A X.stack s H ⟨us, []⟩ (us ++ ds) (vs ++ dvs) Q E hr I.env0 (hb s us I.kIn hl) r2 h) fun r s' hq => ?_)
  cases r with
  | error e => exact hx pins σ H s e s' I hq
  | ok fl =>
    cases fl with
    | ret u => exact I.after hq
    | next => exact False.elim hq
    | brk => exact False.elim hq
    | cont => exact False.elim hq

theorem pe_call (F : FnOk X.prog X.w X.K X.mg X.base CX k f fd ps sp) (hr : Room k X.A) (hg : Gl X x) (hm : X.mg x = some (.ref f)) (hk : PySem.W.keepIn X.K (.ref f) = true) (hb : Binds X.K fd ps ds) (hd : Vals dvs ds) (hx : Passes CX X E)
    (ha : PA X (e :: es) t) (hdb : (x == ("__debug__" : Str)) = false := by decide) (he : starEach (e :: es) X.env = (false, eval e X.env) :: starEach es X.env := by rfl) (hpl : (backTo pos (starEach es X.env)).any (·.1) = false := by rfl) :
    PE X (.Call (.Name x p) (e :: es) [] pos) (tCall sp dvs E t) := by
  intro pins s σ H Q I h
  refine wpAny_Call_Name_kw (ld_glob I hg hm ?_ hdb)
  refine PySem.W.callWith_K (h₀ := X.base) I.ok.mod.kin hk (thn (ha pos pins s σ H _ I h) fun us s1 ⟨vs, H1, I1, r, q⟩ => ⟨I1.kIn, ?_⟩) he hpl
  exact run_fn F hr hb hd hx I1 r q
theorem pe_call0 (F : FnOk X.prog X.w X.K X.mg X.base CX k f fd ps sp) (hr : Room k X.A) (hg : Gl X x) (hm : X.mg x = some (.ref f)) (hk : PySem.W.keepIn X.K (.ref f) = true) (hb : Binds X.K fd ps ds) (hd : Vals dvs ds) (hx : Passes CX X E)
    (hdb : (x == ("__debug__" : Str)) = false := by decide) : PE X (.Call (.Name x p) [] [] pos) (tCall sp dvs E tNil) := by
  intro pins s σ H Q I h
  refine wpAny_Call_Name_kw (ld_glob I hg hm ?_ hdb)
  exact PySem.W.callWith_K0 I.kIn hk (run_fn (us := []) F hr hb hd hx I .nil h)

/-- o.m(e, ..) -/
theorem pe_meth {pl : Sem Bool} (he : PE X o ta) (c : Cls X.K C) (hm : Meth X.K C m f) (F : FnOk X.prog X.w X.K X.mg X.base CX k f fd ps sp) (hr : Room k X.A) (hb : Binds X.K fd ps ds) (hd : Vals dvs ds) (hx : Passes CX X E) (ha : PA X (e :: es) t)
    (hst : starEach (e :: es) X.env = (false, eval e X.env) :: starEach es X.env := by rfl) (hpl : (backTo pos (starEach es X.env)).any (·.1) = false := by rfl)
    (ht : eval (.Call (.Attribute o m apos) (e :: es) [] pos) X.env = (do
      let ov ← eval o X.env
      standAt apos.atName
      let (f, first) ← holding [ov] (getMethod ov m pl)
      callWith pos f first (backTo pos (starEach (e :: es) X.env)) (backToKw pos (keywordEach [] X.env))) := by rfl) :
    PE X (.Call (.Attribute o m apos) (e :: es) [] pos) (tMeth C m sp dvs E ta t) := by
  intro pins s σ H Q I h
  refine PySem.W.methodCall_KW (pl := pl) (thn (he pins s σ H _ I h) fun u s1 ⟨x, H1, I1, rx, a, dx, fs, ex, ea, l, q⟩ => ?_) ht
  subst ex
  obtain rfl : u = Value.ref a := rx
  refine getmeth_ok I1 ea c hm l ?_
  refine PySem.W.callWith_K (first := [.ref a]) (h₀ := X.base) I.ok.mod.kin hm.kp (thn (ha pos pins s1 σ H1 _ I1 q) fun us s2 ⟨vs, H2, I2, r, q2⟩ => ⟨I2.kIn, ?_⟩) hst hpl
  exact run_fn (us := .ref a :: us) (vs := .ref a :: vs) F hr hb hd hx I2 (.cons rfl r) q2
/-- o.m() -/
theorem pe_meth0 {pl : Sem Bool} (he : PE X o ta) (c : Cls X.K C) (hm : Meth X.K C m f) (F : FnOk X.prog X.w X.K X.mg X.base CX k f fd ps sp) (hr : Room k X.A) (hb : Binds X.K fd ps ds) (hd : Vals dvs ds) (hx : Passes CX X E)
    (ht : eval (.Call (.Attribute o m apos) [] [] pos) X.env = (do
      let ov ← eval o X.env
      standAt apos.atName
      let (f, first) ← holding [ov] (getMethod ov m pl)
      callWith pos f first (backTo pos (starEach [] X.env)) (backToKw pos (keywordEach [] X.env))) := by rfl) :
    PE X (.Call (.Attribute o m apos) [] [] pos) (tMeth C m sp dvs E ta tNil) := by
  intro pins s σ H Q I h
  refine PySem.W.methodCall_KW (pl := pl) (thn (he pins s σ H _ I h) fun u s1 ⟨x, H1, I1, rx, a, dx, fs, ex, ea, l, q⟩ => ?_) ht
  subst ex
  obtain rfl : u = Value.ref a := rx
  refine getmeth_ok I1 ea c hm l ?_
  exact PySem.W.callWith_K0 (first := [.ref a]) I1.kIn hm.kp (run_fn (us := [.ref a]) (vs := [.ref a]) F hr hb hd hx I1 (.cons rfl .nil) q)

/-- what a class must have to be made -/
structure Mk (K : PySem.W.Frag) (C f : Addr) : Prop where
  makes : PySem.W.makesIn K C = true
  init : PySem.W.findIn K (.ref C) "__init__" = some (some (.ref f))
  fn : PySem.W.isFn K (.ref f) = true
  kp : PySem.W.keepIn K (.ref C) = true

theorem run_make {pins : List (Addr × Obj)} {σ : St} {H : Hp} {s : Shared} {Q : VK} {us : List Value} {vs : List V} (M : Mk X.K C f) (F : FnOk X.prog X.w X.K X.mg X.base CX k f fd ps sp) (hr : Room (k + 1) X.A) (hb : Binds X.K fd ps ds) (hd : Vals dvs ds)
    (hx : Passes CX X E) (I : Inv X pins σ H s) (r : Vals vs us)
    (h : ∀ x dx, H x = none → H dx = none → dx ≠ x → sp (.ref x :: (vs ++ dvs)) (upd (upd H dx (.own x)) x (.ins C dx [])) (fun v H2 => v = .non ∧ Q (.ref x) H2) E) :
    wpAny (model X.prog X.w) X.A (call (.ref C) us) (EP X pins σ Q) X.xe s := by
  have hq := h (s.heap.objs.size + 1) s.heap.objs.size (I.hok.fresh (Nat.le_succ _)) (I.hok.fresh (Nat.le_refl _)) (Nat.ne_of_lt (Nat.lt_succ_self _))
  have I2 := Inv.made (C := C) I
  have r2 : Vals (V.ref (s.heap.objs.size + 1) :: (vs ++ dvs)) (Value.ref (s.heap.objs.size + 1) :: (us ++ ds)) := .cons rfl (r.append hd)
  have hl : (Value.ref (s.heap.objs.size + 1) :: us ++ ds).length = ps.length := by
    have e := r2.length
    rw [F.len _ _ _ _ hq] at e
    exact e.symm
  refine wpAny_call (make_map (f := f) I.kIn M.makes M.init (beq_iff_eq.mp M.fn) (codeAny_mono (F.run _ X.stack _ _ ⟨Value.ref (s.heap.objs.size + 1) :: us, []⟩ (Value.ref (s.heap.objs.size + 1) :: (us ++ ds)) _ _ E (hr.make C us [])
    (I2.env0.make C us []) (hb _ (Value.ref (s.heap.objs.size + 1) :: us) I2.kIn hl) r2 hq) fun r s' hq' => ?_))
  cases r with
  | error e => exact hx pins σ _ _ e s' I2 hq'
  | ok fl =>
    cases fl with
    | ret u =>
      obtain ⟨v, H', I3, rv, ev, q3⟩ := I2.after hq'
      subst ev
      exact ⟨rv, ⟨V.ref (s.heap.objs.size + 1), H', I3, rfl, q3⟩⟩
    | next => exact False.elim hq'
    | brk => exact False.elim hq'
    | cont => exact False.elim hq'
theorem pe_make (M : Mk X.K C f) (F : FnOk X.prog X.w X.K X.mg X.base CX k f fd ps sp) (hr : Room (k + 1) X.A) (hg : Gl X x) (hm : X.mg x = some (.ref C)) (hb : Binds X.K fd ps ds) (hd : Vals dvs ds) (hx : Passes CX X E)
    (ha : PA X (e :: es) t) (hdb : (x == ("__debug__" : Str)) = false := by decide) (he : starEach (e :: es) X.env = (false, eval e X.env) :: starEach es X.env := by rfl) (hpl : (backTo pos (starEach es X.env)).any (·.1) = false := by rfl) :
    PE X (.Call (.Name x p) (e :: es) [] pos) (tMake C sp dvs E t) := by
  intro pins s σ H Q I h
  refine wpAny_Call_Name_kw (ld_glob I hg hm ?_ hdb)
  refine PySem.W.callWith_K (h₀ := X.base) I.ok.mod.kin M.kp (thn (ha pos pins s σ H _ I h) fun us s1 ⟨vs, H1, I1, r, q⟩ => ⟨I1.kIn, ?_⟩) he hpl
  exact run_make M F hr hb hd hx I1 r q
theorem pe_make0 (M : Mk X.K C f) (F : FnOk X.prog X.w X.K X.mg X.base CX k f fd ps sp) (hr : Room (k + 1) X.A) (hg : Gl X x) (hm : X.mg x = some (.ref C)) (hb : Binds X.K fd ps ds) (hd : Vals dvs ds) (hx : Passes CX X E)
    (hdb : (x == ("__debug__" : Str)) = false := by decide) : PE X (.Call (.Name x p) [] [] pos) (tMake C sp dvs E tNil) := by
  intro pins s σ H Q I h
  refine wpAny_Call_Name_kw (ld_glob I hg hm ?_ hdb)
  exact PySem.W.callWith_K0 I.kIn M.kp (run_make (us := []) M F hr hb hd hx I .nil h)
end

/-! ### keywords -/
/-- the values of the keywords, from the left -/
def PK (X : Cx) (kws : List Keyword) (t : TA) : Prop :=
  ∀ (pos : Pos) (pins : List (Addr × Obj)) (s : Shared) (σ : St) (H : Hp) (Q : List V → Hp → Prop), Inv X pins σ H s → t σ H Q → wpAny (model X.prog X.w) X.A (evalAll ((backToKw pos (keywordEach kws X.env)).map (·.2))) (AP X pins σ Q) X.xe s
section
variable {X : Cx} {CX : CXT} {k : Nat} {f C : Addr} {fd : FuncData} {ps ks : List Str} {sp : Sp} {E : XK} {x m : Str} {p pos apos kpos : Pos} {e o : Expr} {es : List Expr} {kws : List Keyword} {te ta : TE} {t tk : TA} {nm : Option Str}
theorem pk_nil : PK X [] tNil := fun _ _ _ _ H Q I h => wpAny_evalAll_nil ⟨[], H, I, .nil, h⟩
theorem pk_cons (ha : PE X e te) (hr : PK X kws t) : PK X (⟨nm, e, kpos⟩ :: kws) (tCons te t) := by
  intro pos pins s σ H Q I h
  show wpAny _ _ (evalAll ((do let v ← eval e X.env; standAt pos; pure v) :: (backToKw pos (keywordEach kws X.env)).map (·.2))) _ _ s
  refine wpAny_evalAll_cons (wpAny_bind (thn (ha pins s σ H _ I h) fun u s1 ⟨x, H1, I1, r1, q1⟩ => wpAny_bind (wpAny_standAt (wpAny_pure ?_))))
  exact thn (hr pos pins s1 σ H1 _ I1 q1) fun us s2 ⟨xs, H2, I2, r2, q2⟩ => ⟨x :: xs, H2, I2, .cons r1 r2, q2⟩

/-- how a call with keywords binds: g puts the positional values us and the keywords' values ws (names ks) in the parameters' order, defaults among them -/
structure KBinds (K : PySem.W.Frag) (fd : FuncData) (ps ks : List Str) (g : List Value → List Value → List Value) (gV : List V → List V → List V) : Prop where
  to : ∀ (s : Shared) (us ws : List Value), K.In s.heap → (g us ws).length = ps.length → BindsTo s fd ⟨us, ks.zip ws⟩ (ps.zip (g us ws))
  rel : ∀ {vs : List V} {us : List Value} {zs : List V} {ws : List Value}, Vals vs us → Vals zs ws → Vals (gV vs zs) (g us ws)
def tCallK (sp : Sp) (gV : List V → List V → List V) (E : XK) (t tk : TA) : TE := fun σ H Q => t σ H fun vs H1 => tk σ H1 fun zs H2 => sp (gV vs zs) H2 Q E
variable {g : List Value → List Value → List Value} {gV : List V → List V → List V}
theorem run_fnk {pins : List (Addr × Obj)} {σ : St} {H : Hp} {s : Shared} {Q : VK} {us ws : List Value} {vs zs : List V} (F : FnOk X.prog X.w X.K X.mg X.base CX k f fd ps sp) (hr : Room k X.A) (hb : KBinds X.K fd ps ks g gV) (hx : Passes CX X E)
    (I : Inv X pins σ H s) (r : Vals vs us) (rz : Vals zs ws) (h : sp (gV vs zs) H Q E) : wpAny (model X.prog X.w) X.A (call (.ref f) us (ks.zip ws)) (EP X pins σ Q) X.xe s := by
  have r2 := hb.rel r rz
  have hl : (g us ws).length = ps.length := by rw [← r2.length]; exact F.len _ _ _ _ h
  refine wpAny_call (codeAny_mono (F.run X.A X.stack s H ⟨us, ks.zip ws⟩ (g us ws) (gV vs zs) Q E hr I.env0 (hb.to s us ws I.kIn hl) r2 h) fun r s' hq => ?_)
  cases r with
  | error e => exact hx pins σ H s e s' I hq
  | ok fl =>
    cases fl with
    | ret u => exact I.after hq
    | next => exact False.elim hq
    | brk => exact False.elim hq
    | cont => exact False.elim hq
/-- f(e, .., k = v, ..) -/
theorem pe_callK (F : FnOk X.prog X.w X.K X.mg X.base CX k f fd ps sp) (hr : Room k X.A) (hg : Gl X x) (hm : X.mg x = some (.ref f)) (hk : PySem.W.keepIn X.K (.ref f) = true) (hb : KBinds X.K fd ps ks g gV) (hx : Passes CX X E)
    (ha : PA X (e :: es) t) (hkw : PK X kws tk) (hall : (backToKw pos (keywordEach kws X.env)).all (·.1.isSome) = true := by rfl) (hks : (backToKw pos (keywordEach kws X.env)).filterMap (·.1) = ks := by rfl)
    (hdb : (x == ("__debug__" : Str)) = false := by decide) (he : starEach (e :: es) X.env = (false, eval e X.env) :: starEach es X.env := by rfl)
    (hpl : ((backTo pos (starEach (e :: es) X.env)).any (·.1) || (backToKw pos (keywordEach kws X.env)).any (·.1.isNone)) = false := by rfl) :
    PE X (.Call (.Name x p) (e :: es) kws pos) (tCallK sp gV E t tk) := by
  intro pins s σ H Q I h
  refine wpAny_Call_Name_kw (ld_glob I hg hm ?_ hdb)
  refine PySem.W.callWith_KW (h₀ := X.base) I.ok.mod.kin hk hall (thn (ha pos pins s σ H _ I h) fun us s1 ⟨vs, H1, I1, r, q⟩ => ?_) hpl he
  refine thn (hkw pos pins s1 σ H1 _ I1 q) fun ws s2 ⟨zs, H2, I2, rz, q2⟩ => ⟨I2.kIn, ?_⟩
  rw [hks]
  exact run_fnk F hr hb hx I2 r rz q2
end

/-! ### a def's body keeps its promise -/
/-- names: the parameters first -/
structure FnScope (N P : List Str) (sc : Scope) : Prop where
  kind : sc.kind = .function
  co : sc.isCoroutine = false
  gen : sc.isGenerator = false
  nd : N.Nodup
  pre : N.take P.length = P
  par : ∀ x ∈ P, sc.names.lookup x = some .local ∨ sc.names.lookup x = some .cell
  nofree : ∀ y ∈ sc.names, y.2 ≠ .free

theorem bindL_out {kindOf : Str → Option NameKind} {x : Str} : ∀ {binds : List (Str × Value)} {m : Str → Option Value}, (∀ v, (x, v) ∉ binds) → bindL kindOf binds m x = m x
  | [], _, _ => rfl
  | (n, v) :: r, m, h => by
    unfold bindL
    rw [bindL_out fun w hw => h w (List.mem_cons_of_mem _ hw)]
    split
    · have : x ≠ n := by rintro rfl; exact h v List.mem_cons_self
      simp [this]
    · rfl
theorem bindC_out {kindOf : Str → Option NameKind} {x : Str} : ∀ {binds : List (Str × Value)} {m : Str → Option Value}, (∀ v, (x, v) ∉ binds) → bindC kindOf binds m x = m x
  | [], _, _ => rfl
  | (n, v) :: r, m, h => by
    unfold bindC
    rw [bindC_out fun w hw => h w (List.mem_cons_of_mem _ hw)]
    split
    · rfl
    · have : x ≠ n := by rintro rfl; exact h v List.mem_cons_self
      simp [this]
theorem bindL_get {kindOf : Str → Option NameKind} {x : Str} {v : Value} : ∀ {P : List Str} {vs : List Value} {i : Nat} {m : Str → Option Value}, P.Nodup → P[i]? = some x → vs[i]? = some v → kindOf x = some .local →
    bindL kindOf (P.zip vs) m x = some v
  | [], _, _, _, _, h, _, _ => by simp at h
  | _ :: _, [], _, _, _, _, h, _ => by simp at h
  | p :: P, w :: vs, 0, m, nd, h1, h2, hk => by
    simp at h1 h2; subst h1; subst h2
    show bindL kindOf ((p, w) :: P.zip vs) m p = _
    unfold bindL
    rw [bindL_out fun v hv => (List.nodup_cons.mp nd).1 (List.of_mem_zip hv).1, if_pos hk]
    simp
  | p :: P, w :: vs, i + 1, m, nd, h1, h2, hk => by
    show bindL kindOf ((p, w) :: P.zip vs) m x = _
    unfold bindL
    exact bindL_get (i := i) (List.nodup_cons.mp nd).2 (by simpa using h1) (by simpa using h2) hk
theorem bindC_get {kindOf : Str → Option NameKind} {x : Str} {v : Value} : ∀ {P : List Str} {vs : List Value} {i : Nat} {m : Str → Option Value}, P.Nodup → P[i]? = some x → vs[i]? = some v → kindOf x ≠ some .local →
    bindC kindOf (P.zip vs) m x = some v
  | [], _, _, _, _, h, _, _ => by simp at h
  | _ :: _, [], _, _, _, _, h, _ => by simp at h
  | p :: P, w :: vs, 0, m, nd, h1, h2, hk => by
    simp at h1 h2; subst h1; subst h2
    show bindC kindOf ((p, w) :: P.zip vs) m p = _
    unfold bindC
    rw [bindC_out fun v hv => (List.nodup_cons.mp nd).1 (List.of_mem_zip hv).1, if_neg hk]
    simp
  | p :: P, w :: vs, i + 1, m, nd, h1, h2, hk => by
    show bindC kindOf ((p, w) :: P.zip vs) m x = _
    unfold bindC
    exact bindC_get (i := i) (List.nodup_cons.mp nd).2 (by simpa using h1) (by simpa using h2) hk

/-- the names' values at the entry -/
def start (N : List Str) (vs : List V) : St := vs.map some ++ List.replicate (N.length - vs.length) none

/-- the context of a def's body, at its entry; an exception leaves the frame, then lies as CX says -/
def cxOf (CX : CXT) (P : Program) (w : World) (K : PySem.W.Frag) (mg : Str → Option Value) (base : Heap) (N : List Str) (qual : Str) (scope : Scope) (f : Addr) (cd : Value) (A : Around) (outer : List Env) (s : Shared) (H : Hp) (E : XK) : Cx where
  prog := P
  w := w
  K := K
  mg := mg
  base := base
  A := A.deeper (envOfC qual scope s.heap.objs.size f cd)
  N := N
  s₀ := s
  H₀ := H
  env := envOfC qual scope s.heap.objs.size f cd
  outer := outer
  stack := envOfC qual scope s.heap.objs.size f cd :: outer
  ex := []
  calm := true
  fn := fun _ => true
  pn := []
  xe := fun e s' => wpAny (model P w) (A.deeper (envOfC qual scope s.heap.objs.size f cd)) (leaving (envOfC qual scope s.heap.objs.size f cd) e) (fun _ s'' => CX outer H s E e s'') (fun e' s'' => CX outer H s E e' s'') s'

theorem cell_has {sc : Scope} {n : Nat} {x : Str} (h : sc.names.lookup x = some .cell) : ∃ c, (cellsFrom n sc.names []).lookup x = some c := by
  have q := PySem.W.cellsFrom_some sc.names n [] (.inl h)
  exact Option.isSome_iff_exists.mp q

theorem inv_start {CX : CXT} {P : Program} {w : World} {K : PySem.W.Frag} {mg : Str → Option Value} {base : Heap} {N ps : List Str} {qual : Str} {scope : Scope} {f : Addr} {cd : Value} {A : Around} {outer : List Env} {s s1 : Shared} {H : Hp} {E : XK} {us : List Value} {vs : List V}
    (S : FnScope N ps scope) (hd : A.handled = none) (e0 : Env0 P w K mg base A outer s H) (hl : vs.length = ps.length) (r : Vals vs us)
    (x : InCallC s s.heap.objs.size (bindL (envOfC qual scope s.heap.objs.size f cd).kindOf (ps.zip us) fun _ => none) (cellsFrom (s.heap.objs.size + 1) scope.names []) (bindC (envOfC qual scope s.heap.objs.size f cd).kindOf (ps.zip us) fun _ => none) s1) :
    Inv (cxOf CX P w K mg base N qual scope f cd A outer s H E) [] (start N vs) H s1 := by
  have hpl : ps.length ≤ N.length := by have := congrArg List.length S.pre; rw [List.length_take] at this; omega
  obtain ⟨h1, tk, rfl, hk⟩ := x.done
  have noA : ∀ b : Addr, b ∉ (cxOf CX P w K mg base N qual scope f cd A outer s H E).ex := fun b z => absurd (show b ∈ ([] : List Addr) from z) (by simp)
  refine ⟨⟨e0.mod, S.kind, rfl, rfl, Nat.le_refl _, fun y z c h1 h2 => ?_, fun y hy => ?_, fun y c _ h => ?_, fun _ => hd, Around.frames_deeper e0.frames, .inr ⟨rfl, rfl⟩, fun b z => absurd z (noA b), e0.bs, e0.bsz, fun b _ _ => noA b, fun b z => absurd z (noA b), e0.funs, e0.frf⟩,
    rfl, e0.bare, Un.kept hk, ⟨_, x.toInCall.ns, fun i y v h1 h2 h3 => ?_⟩, fun y c h => ⟨_, x.cell y c h⟩, e0.hok.fresh (Nat.le_refl _), fun y c h => ?_, fun p hp => absurd (show p ∈ ([] : List (Addr × Obj)) from hp) (by simp), e0.hok.kept hk, ?_⟩
  · exact name_of_addr x.apart (PySem.mem_of_lookup h1) (PySem.mem_of_lookup h2)
  · have hy : scope.names.lookup y = some .cell ∨ scope.names.lookup y = some .free := hy
    rcases hy with hy | hy
    · exact cell_has hy
    · exact absurd rfl (S.nofree _ (PySem.mem_of_lookup hy))
  · exact Nat.le_of_lt (x.above y c (PySem.mem_of_lookup h))
  · have hi : i < vs.length := by
      unfold start at h2
      by_cases hi : i < vs.length
      · exact hi
      · rw [List.getElem?_append_right (by simpa using hi)] at h2
        rw [List.getElem?_replicate] at h2
        split at h2 <;> cases h2
    have ha : vs[i]? = some v := by
      unfold start at h2
      rw [List.getElem?_append_left (by simpa using hi), List.getElem?_map] at h2
      cases e : vs[i]? with
      | none => rw [e] at h2; cases h2
      | some a => rw [e] at h2; cases h2; rfl
    obtain ⟨u, hu, rv⟩ := r.get ha
    have hp : ps[i]? = some y := by
      rw [← S.pre, List.getElem?_take_of_lt (by omega)]; exact h1
    have ndP : ps.Nodup := by rw [← S.pre]; exact S.nd.sublist (List.take_sublist _ _)
    refine ⟨u, rv, ?_⟩
    rcases S.par y (List.mem_of_getElem? hp) with k | k
    · exact .inl ⟨k, bindL_get ndP hp hu k⟩
    · obtain ⟨c, e⟩ := cell_has (n := s.heap.objs.size + 1) k
      refine .inr ⟨.inl k, c, e, ?_⟩
      have q := x.cell y c e
      rw [bindC_get ndP hp hu (by show scope.names.lookup y ≠ _; rw [k]; decide)] at q
      exact q
  · exact e0.hok.fresh (Nat.le_of_lt (x.above y c (PySem.mem_of_lookup h)))
  · unfold start
    show _ = N.length
    rw [List.length_append, List.length_map, List.length_replicate]
    omega

/-- THE RULE: a def (or a method) of the text, by its body. The body's reading t is chosen for each entry; it is run at the parameters' values -/
theorem fn_of {CX : CXT} {P : Program} {w : World} {K : PySem.W.Frag} {mg : Str → Option Value} {base : Heap} {k : Nat} {f : Addr} {name qual : Str} {params : Arguments} {body : List Stmt} {scope : Scope} {dV kV doc pm cdv ct oc : Value} {an od : Option Addr}
    {osl : Array (Option Value)} {N ps : List Str} {sp : Sp} (lk : K.lookup f = some ⟨oc, od, .func (PySem.W.fnOf name qual params body scope dV kV doc pm an cdv ct), osl⟩) (hcd : PySem.W.codeIn K cdv qual = true) (S : FnScope N ps scope)
    (len : ∀ vs H Q E, sp vs H Q E → vs.length = ps.length)
    (hbody : ∀ (A : Around) (outer : List Env) (s : Shared) (H : Hp) (vs : List V) (Q : VK) (E : XK), Room k (A.deeper (envOfC qual scope s.heap.objs.size f cdv)) → sp vs H Q E →
      ∃ t, PSs (cxOf CX P w K mg base N qual scope f cdv A outer s H E) body t ∧ t { nx := fun _ H' => Q .non H', rt := Q } (start N vs) H) :
    FnOk P w K mg base CX (k + 1) f (PySem.W.fnOf name qual params body scope dV kV doc pm an cdv ct) ps sp := by
  refine ⟨len, fun A outer s H args us vs Q E hr e0 hb r hsp => ?_⟩
  have hl := len _ _ _ _ hsp
  have KX : K.In s.heap := e0.mod.kin.keeps fun b o e => (e0.bs b o e).1
  have lim : s.heap.NoLimit := e0.mod.nolimit.keeps fun b o e => (e0.bs b o e).1
  have hkind : ∀ y ∈ ps.zip us, scope.names.lookup y.1 = some .local ∨ (scope.names.lookup y.1 = some .cell ∧ ((cellsFrom (s.heap.objs.size + 1) scope.names []).lookup y.1).isSome = true) := fun ⟨n, v⟩ hy => by
    rcases S.par n (List.of_mem_zip hy).1 with q | q
    · exact .inl q
    · exact .inr ⟨q, PySem.W.cellsFrom_some _ _ _ (.inl q)⟩
  refine codeAny_call_function hr.depth (KX _ _ lk) rfl S.co S.gen rfl (PySem.W.codeRec_of KX hcd) (hb _ _ _ _ ?_)
  refine wpAny_newFunctionEnv_cells S.kind hkind fun env he s1 x => ?_
  subst he
  refine ⟨lim.keeps x.toInCall.keep, codeAny_func ?_⟩
  obtain ⟨t, ht, hq⟩ := hbody A outer s H vs Q E (hr.deeper _) hsp
  have I : Inv (cxOf CX P w K mg base N qual scope f cdv A outer s H E) [] (start N vs) H s1 := inv_start S hr.hd e0 hl r x
  refine wpAny_mono (ht [] s1 (start N vs) H _ I hq) (fun fl s' hs => ?_) fun e s' hs => hs
  have fin : ∀ {σ' : St} {H' : Hp} {v : V} {u : Value}, Inv (cxOf CX P w K mg base N qual scope f cdv A outer s H E) [] σ' H' s' → RelV v u → Q v H' → CE outer P w H s Q u s' :=
    fun {σ' H' v u} J rv q => ⟨v, H', J.os, J.bare, J.base, J.hok, rv, q⟩
  cases fl with
  | ret u =>
    obtain ⟨v, σ', H', J, rv, q⟩ := hs
    exact fin J rv q
  | next =>
    obtain ⟨σ', H', J, q⟩ := hs
    exact fin (v := V.non) (u := Value.none) J rfl q
  | brk =>
    obtain ⟨_, _, _, q⟩ := hs
    exact False.elim q
  | cont =>
    obtain ⟨_, _, _, q⟩ := hs
    exact False.elim q
end L2

namespace L2
open PySem PySem.Spec PyProof.Rows
section
variable {X : Cx} {x : Str} {p pos : Pos} {e : Expr} {es : List Expr} {t : TA} {id T : String} {r : List V → Hp → VK → Prop}

def tCB (r : List V → Hp → VK → Prop) (t : TA) : TE := fun σ H Q => t σ H fun vs H1 => r vs H1 Q
/-- f(e, ..), f a built-in function -/
theorem pe_callB (hc : CallR X (.builtin id) r) (hg : Gl X x) (hm : X.mg x = none) (hv : bootBuiltins x = some (.builtin id)) (ha : PA X (e :: es) t) (hn : x ≠ "__name__" := by decide) (hdb : (x == ("__debug__" : Str)) = false := by decide)
    (he : starEach (e :: es) X.env = (false, eval e X.env) :: starEach es X.env := by rfl) (hpl : (backTo pos (starEach es X.env)).any (·.1) = false := by rfl) : PE X (.Call (.Name x p) (e :: es) [] pos) (tCB r t) := by
  intro pins s σ H Q I h
  refine wpAny_Call_Name_kw (ld_blt I hg hm hv ?_ hn hdb)
  exact PyProof.Rows.callWith_builtin1 (thn (ha pos pins s σ H _ I h) fun us s1 ⟨vs, H1, I1, r1, q1⟩ => hc pins s1 σ H1 vs us Q I1 r1 q1) he hpl
/-- T(e, ..), T a built-in type -/
theorem pe_callTy (hc : CallR X (.type T) r) (hg : Gl X x) (hm : X.mg x = none) (hv : bootBuiltins x = some (.type T)) (ha : PA X (e :: es) t) (hn : x ≠ "__name__" := by decide) (hdb : (x == ("__debug__" : Str)) = false := by decide)
    (he : starEach (e :: es) X.env = (false, eval e X.env) :: starEach es X.env := by rfl) (hpl : (backTo pos (starEach es X.env)).any (·.1) = false := by rfl) : PE X (.Call (.Name x p) (e :: es) [] pos) (tCB r t) := by
  intro pins s σ H Q I h
  refine wpAny_Call_Name_kw (ld_blt I hg hm hv ?_ hn hdb)
  exact PyProof.Rows.callWith_type1 (thn (ha pos pins s σ H _ I h) fun us s1 ⟨vs, H1, I1, r1, q1⟩ => hc pins s1 σ H1 vs us Q I1 r1 q1) he hpl
/-- T() -/
theorem pe_callTy0 (hc : CallR X (.type T) r) (hg : Gl X x) (hm : X.mg x = none) (hv : bootBuiltins x = some (.type T)) (hn : x ≠ "__name__" := by decide) (hdb : (x == ("__debug__" : Str)) = false := by decide) :
    PE X (.Call (.Name x p) [] [] pos) (tCB r tNil) := by
  intro pins s σ H Q I h
  refine wpAny_Call_Name_kw (ld_blt I hg hm hv ?_ hn hdb)
  exact PyProof.Rows.callWith_type0 (hc pins s σ H [] [] Q I .nil h)
end
end L2

namespace HT
open PySem PyProof.Rows

/-- t < u of tuples of ints -/
def lexLt : List Int → List Int → Bool
  | [], [] => false
  | [], _ :: _ => true
  | _ :: _, [] => false
  | x :: xs, y :: ys => if x = y then lexLt xs ys else decide (x < y)
theorem lexLt_cons (x y : Int) (xs ys : List Int) : lexLt (x :: xs) (y :: ys) = if x = y then lexLt xs ys else decide (x < y) := rfl
theorem lexLt_nil_nil : lexLt [] [] = false := rfl
theorem lexLt_nil_cons (y : Int) (ys : List Int) : lexLt [] (y :: ys) = true := rfl
theorem lexLt_cons_nil (x : Int) (xs : List Int) : lexLt (x :: xs) [] = false := rfl

theorem eqAt_int (A : Around) (s : Shared) (a : Int) (t : Tok) (c : Int) (u : Tok) : ∃ e, SeqAt.EqAt A s (.int a t) (.int c u) e ∧ (e = true ↔ a = c) :=
  ⟨(a == c), SeqAt.EqAt.int_int a t c u, by simp⟩
theorem rcLt_int (A : Around) (s : Shared) (a : Int) (t : Tok) (c : Int) (u : Tok) (prog : Program) (w : World) (E : Value → Shared → Prop) (Q : Value → Shared → Prop) (h : Q (.bool (decide (a < c))) s) :
    wpAny (model prog w) A (richCompare .Lt (.int a t) (.int c u)) Q E s :=
  (PyProof.Rows.lt_int h : wpAny (model prog w) A (compareOp .Lt (.int a t) (.int c u)) Q E s)

section
open PySem.SeqAt
open PySem.AutoSeq1 (wpAny_loadPart')
open PySem.MeetsSeq PySem.MeetsSeq2 PySem.MeetsSeq3

theorem tuple_lt_ints (l b : Addr) (items items2 : Array Value) (n n2 : Nat) (dd dd2 : Option Addr) (sl sl2 : Array (Option Value)) (ns ms : List Int) (hi : IntsAre items.toList ns) (hj : IntsAre items2.toList ms) :
    Meets (Builtin.«tuple.__lt__» ⟨[.ref l, .ref b], []⟩)
      (fun _ R s => s.heap.get? l = some { cls := .type "tuple", dict := dd, data := .seq items n, slots := sl } ∧ s.heap.get? b = some { cls := .type "tuple", dict := dd2, data := .seq items2 n2, slots := sl2 } ∧
        R (.ok (.ret (.bool (lexLt ns ms)))) s) :=
  .of_wp fun prog w A R s h => by
    obtain ⟨hp, g, d, tk, os⟩ := s; obtain ⟨hl, hb, h⟩ := h
    have f2 := AutoSeq1.sub_tuple_tuple
    have z1 : items.size = ns.length := by rw [← hi.length]; simp
    have z2 : items2.size = ms.length := by rw [← hj.length]; simp
    wp_walk using wpAny_loadPart' hl, wpAny_loadPart' hb, wpAny_forIn_list _ (fun rest b s' => b.1 = none ∧ s' = ⟨hp, g, d, tk, os⟩ ∧ ∃ (vs ws : List Value) (ns' ms' : List Int), rest = vs.zip ws ∧
      IntsAre vs ns' ∧ IntsAre ws ms' ∧ ns'.length + items2.size = ms'.length + items.size ∧ R (.ok (.ret (.bool (lexLt ns' ms')))) ⟨hp, g, d, tk, os⟩) _
    case turn =>
      rintro ⟨y, x⟩ rest b s' ⟨hb', rfl, vs, ws, ns', ms', hz, hvi, hwi, hlen, hR⟩
      cases hvi with
      | nil => rw [List.zip_nil_left] at hz; cases hz
      | cons a t hvi' =>
        cases hwi with
        | nil => rw [List.zip_nil_right] at hz; cases hz
        | cons c u hwi' =>
          rw [List.zip_cons_cons] at hz
          injection hz with hyx hrest
          injection hyx with hy hx
          subst hy hx
          rw [lexLt_cons] at hR
          simp only [List.length_cons] at hlen
          obtain ⟨e, he, hiff⟩ := eqAt_int A.in1 ⟨hp, g, d, tk, os⟩ a t c u
          refine wpAny_bind (he prog w _ _ ?_)
          cases e with
          | true =>
            rw [if_pos (hiff.mp rfl)] at hR
            wp_walk
            exact ⟨rfl, rfl, _, _, _, _, hrest, hvi', hwi', by omega, hR⟩
          | false =>
            rw [if_neg (fun q => absurd (hiff.mpr q) Bool.false_ne_true)] at hR
            have hri := rcLt_int A.in1 ⟨hp, g, d, tk, os⟩ a t c u prog w
            wp_walk using hri
            exact ⟨_, rfl, by simpa using hR⟩
    case fin =>
      rintro ⟨b1, b2⟩ s' ⟨hb', rfl, vs, ws, ns', ms', hz, hvi, hwi, hlen, hR⟩
      simp only at hb'
      subst hb'
      have hv : lexLt ns' ms' = decide (items.size < items2.size) := by
        cases hvi with
        | nil =>
          cases hwi with
          | nil =>
            simp only [List.length_nil] at hlen
            rw [lexLt_nil_nil]
            exact (decide_eq_false (by omega)).symm
          | cons c u hw =>
            simp only [List.length_nil, List.length_cons] at hlen
            rw [lexLt_nil_cons]
            exact (decide_eq_true (by omega)).symm
        | cons a t hv =>
          cases hwi with
          | nil =>
            simp only [List.length_nil, List.length_cons] at hlen
            rw [lexLt_cons_nil]
            exact (decide_eq_false (by omega)).symm
          | cons c u hw =>
            rw [List.zip_cons_cons] at hz
            cases hz
      rw [hv] at hR
      wp_walk
      exact ⟨_, rfl, by simpa [Builtin.Tuple.tupleCompareSizes] using hR⟩
    case h =>
      exact ⟨rfl, rfl, items.toList, items2.toList, ns, ms, rfl, hi, hj, by omega, h⟩
end

section
variable {prog : Program} {w : World} {A : Around} {E : Value → Shared → Prop} {s : Shared}

theorem lt_tupInts {l b : Addr} {items items2 : Array Value} {ns ms : List Int} {Q : Value → Shared → Prop} (hl : IsTup s.heap l items) (hb : IsTup s.heap b items2) (hi : IntsAre items.toList ns) (hj : IntsAre items2.toList ms)
    (hu : A.units < cLine) (h : Q (.bool (lexLt ns ms)) s) : wpAny (model prog w) A (compareOp .Lt (.ref l) (.ref b)) Q E s := by
  obtain ⟨⟨cls, dd, data, sl⟩, ho, hc, n, hd⟩ := id hl
  obtain ⟨⟨cls2, dd2, data2, sl2⟩, ho2, hc2, n2, hd2⟩ := id hb
  simp only at hc hd hc2 hd2
  subst hc hd hc2 hd2
  exact richCompare_meets_room (op := .Lt) ⟨_, ho, rfl⟩ ⟨_, ho2, rfl⟩ PySem.F.slot_tuple_lt PySem.F.entry_tuple_lt (PySem.F.args_tuple_lt_2 _ _) (tuple_lt_ints l b items items2 n n2 dd dd2 sl sl2 ns ms hi hj)
    ⟨ho, ho2, show Value.bool (lexLt ns ms) ≠ Value.notImplemented ∧ Q (.bool (lexLt ns ms)) s from ⟨(fun x => nomatch x), h⟩⟩ hu

/-- t + u, t not empty -/
theorem cat_tup {t b : Addr} {vs ws : List Value} {Q : Value → Shared → Prop} (ht : IsTup s.heap t vs.toArray) (hb : IsTup s.heap b ws.toArray) (hv : vs ≠ [])
    (h1 : ws = [] → Q (.ref t) s) (h2 : ws ≠ [] → Q (.ref s.heap.objs.size) { s with heap := s.heap.push { cls := .type "tuple", data := .seq (vs ++ ws).toArray } })
    (hsz : vs.length + ws.length ≤ sizeLine) : wpAny (model prog w) A (binaryOp .Add (.ref t) (.ref b)) Q E s := by
  obtain ⟨⟨cls, dd, data, sl⟩, ho, hc, n, hd⟩ := id ht
  obtain ⟨⟨cls2, dd2, data2, sl2⟩, ho2, hc2, n2, hd2⟩ := id hb
  simp only at hc hd hc2 hd2
  subst hc hd hc2 hd2
  have e : vs.toArray ++ ws.toArray = (vs ++ ws).toArray := by simp
  by_cases hw : ws = []
  · exact concat_meets ⟨_, ho, rfl⟩ ⟨_, ho2, rfl⟩ noFill_tuple_add seq_tuple_add PySem.F.slot_tuple_add PySem.F.entry_tuple_add (PySem.F.args_tuple_add_2 _ _)
      (tuple_addW1 t b vs.toArray ws.toArray n n2 dd dd2 sl sl2 (by simpa using hv) (by simp [hw])) ⟨ho, ho2, h1 hw⟩
  · refine concat_meets ⟨_, ho, rfl⟩ ⟨_, ho2, rfl⟩ noFill_tuple_add seq_tuple_add PySem.F.slot_tuple_add PySem.F.entry_tuple_add (PySem.F.args_tuple_add_2 _ _)
      (tuple_addW2 t b vs.toArray ws.toArray n n2 dd dd2 sl sl2 (by simpa using hv) (by simpa using hw) (by rw [List.size_toArray, List.size_toArray]; exact hsz)) ⟨ho, ho2, ?_⟩
    rw [e]
    exact h2 hw

/-! ### t[a:b], not the whole -/
/-- a slice's bound as a place among n (d where it is left out) -/
def sIx (n d : Nat) : Option Int → Nat
  | none => d
  | some v => if v < 0 then (v + (n : Int)).toNat else min v.toNat n
theorem sIx_none (n d : Nat) : sIx n d none = d := rfl
theorem sIx_nat (n d k : Nat) : sIx n d (some (k : Int)) = min k n := by
  show (if (k : Int) < 0 then ((k : Int) + (n : Int)).toNat else min (k : Int).toNat n) = min k n
  rw [if_neg (by omega), Int.toNat_natCast]
theorem sIx_le (n d : Nat) (hd : d ≤ n) (o : Option Int) : sIx n d o ≤ n := by
  cases o with
  | none => exact hd
  | some v =>
    show (if v < 0 then (v + (n : Int)).toNat else min v.toNat n) ≤ n
    by_cases hv : v < 0
    · rw [if_pos hv]; omega
    · rw [if_neg hv]; exact Nat.min_le_right _ _
theorem clip_eq (v : Int) (n d : Nat) : (if v < 0 then max (v + (n : Int)) 0 else min v (n : Int)) = ((sIx n d (some v) : Nat) : Int) := by
  show (if v < 0 then max (v + (n : Int)) 0 else min v (n : Int)) = (((if v < 0 then (v + (n : Int)).toNat else min v.toNat n) : Nat) : Int)
  by_cases hv : v < 0
  · simp only [if_pos hv]; omega
  · simp only [if_neg hv]; omega
theorem adjust_gen (lo hi : Option Int) (n : Nat) : Builtin.Slice.sliceAdjust lo hi 1 (n : Int) = (((sIx n 0 lo : Nat) : Int), ((sIx n n hi : Nat) : Int)) := by
  have h1 : ¬ ((1 : Int) < 0) := by omega
  unfold Builtin.Slice.sliceAdjust
  simp only [h1, if_false]
  refine Prod.ext ?_ ?_
  · cases lo with
    | none => rfl
    | some v => exact clip_eq v n 0
  · cases hi with
    | none => rfl
    | some v => exact clip_eq v n n
theorem places_gen (i j : Nat) : Builtin.Slice.slicePlaces (i : Int) (j : Int) 1 = j - i := by
  unfold Builtin.Slice.slicePlaces
  have h1 : (1 : Int) > 0 := by omega
  simp only [h1, if_true, Int.ediv_one]
  split <;> omega
theorem slicePart_ {v : Value} {o : Option Int} {Q : Option Int → Shared → Prop} (p : IsPart v o) (h : Q o s) : wpAny (model prog w) A (Builtin.Slice.slicePartIndex v) Q E s := by
  cases p with
  | none => exact slicePart_none h
  | int i t => exact slicePart_int h
theorem sliceApplied_gen {sl : Addr} {vl vu : Value} {lo hi : Option Int} {n : Nat} {Q : Int × Int × Nat → Shared → Prop} (hs : s.heap.IsSliceOf sl vl vu .none) (pl : IsPart vl lo) (pu : IsPart vu hi)
    (h : Q (((sIx n 0 lo : Nat) : Int), 1, sIx n n hi - sIx n 0 lo) s) : wpAny (model prog w) A (Builtin.Slice.sliceApplied (.ref sl) (pure (n : Int))) Q E s := by
  obtain ⟨os, hos, hcs, hds⟩ := id hs
  unfold Builtin.Slice.sliceApplied Builtin.Slice.sliceFields
  refine wpAny_bind (wpAny_bind (wpAny_field hos hds (x := vl) rfl (wpAny_bind (wpAny_field hos hds (x := vu) rfl (wpAny_bind (wpAny_field hos hds (x := .none) rfl (wpAny_pure ?_)))))))
  refine wpAny_bind (slicePart_none ?_)
  show wpAny _ _ (if ((1 : Int) == 0) = true then _ else _) _ _ s
  rw [if_neg (by decide)]
  refine wpAny_bind (slicePart_ pl (wpAny_bind (slicePart_ pu (wpAny_bind (wpAny_pure ?_)))))
  show wpAny _ _ (match Builtin.Slice.sliceAdjust lo hi 1 (n : Int) with | (lo, hi) => pure (lo, (1 : Int), Builtin.Slice.slicePlaces lo hi 1)) _ _ s
  rw [adjust_gen lo hi n]
  show wpAny _ _ (pure (((sIx n 0 lo : Nat) : Int), (1 : Int), Builtin.Slice.slicePlaces ((sIx n 0 lo : Nat) : Int) ((sIx n n hi : Nat) : Int) 1)) _ _ s
  rw [places_gen]
  exact wpAny_pure h
theorem pick_gen (xs : Array Value) (i k : Nat) : ((List.range k).filterMap fun (m : Nat) => xs[((i : Int) + (m : Int) * 1).toNat]?).toArray = ((xs.toList.drop i).take k).toArray := by
  have e : (fun (m : Nat) => xs[((i : Int) + (m : Int) * 1).toNat]?) = fun m => xs[i + m]? := by
    funext m
    have : ((i : Int) + (m : Int) * 1).toNat = i + m := by omega
    rw [this]
  rw [e]
  have := pick_run xs i k
  rw [List.filterMap_map] at this
  have e2 : ((fun x => xs[x]?) ∘ fun x => i + x) = fun m => xs[i + m]? := rfl
  rw [e2] at this
  rw [this]

theorem getItem_tuple_cut {t sl : Addr} {items : Array Value} {vl vu : Value} {lo hi : Option Int} {Q : Value → Shared → Prop} (ht : IsTup s.heap t items) (hs : s.heap.IsSliceOf sl vl vu .none) (pl : IsPart vl lo) (pu : IsPart vu hi)
    (hw : ¬ (sIx items.size 0 lo = 0 ∧ sIx items.size items.size hi = items.size))
    (h : Q (.ref s.heap.objs.size) { s with heap := s.heap.push { cls := .type "tuple", data := .seq ((items.toList.drop (sIx items.size 0 lo)).take (sIx items.size items.size hi - sIx items.size 0 lo)).toArray } })
    (hsz : items.size ≤ sizeLine) : wpAny (model prog w) A (getItem (.ref t) (.ref sl)) Q E s := by
  have htake : sizeOk (.seq ((items.toList.drop (sIx items.size 0 lo)).take (sIx items.size items.size hi - sIx items.size 0 lo)).toArray) := by
    show ((items.toList.drop (sIx items.size 0 lo)).take (sIx items.size items.size hi - sIx items.size 0 lo)).toArray.size ≤ sizeLine
    rw [List.size_toArray, List.length_take, List.length_drop, Array.length_toList]
    omega
  have hj : sIx items.size items.size hi ≤ items.size := sIx_le _ _ (Nat.le_refl _) hi
  obtain ⟨os, hos, hcs, hds⟩ := id hs
  have hTs : s.TypeIs (.ref sl) "slice" := ⟨os, hos, hcs⟩
  unfold getItem
  try with_reducible refine wpAny_holding ?_
  first | refine wpAny_bind (wpAny_pure ?_) | skip
  refine wpAny_bind (wpAny_sequenceKey ht.typeIs (by decide) ?_)
  refine wpAny_bind (wpAny_callSpecial?_slot (name := Str.ofString "__getitem__") ht.typeIs PyProof.Rows.slot_tuple_getitem
    (wpAny_call_entry PyProof.Rows.slot_tuple_getitem ht.typeIs entry_tuple_getitem ?_ (args_tuple_getitem _ _)))
  show wpAny _ _ (Builtin.Tuple.tupleItemsOf (.ref t) >>= _) _ _ s
  refine wpAny_bind (tupleItemsOf_ ht ?_)
  refine wpAny_bind (wpAny_typeOf hTs ?_)
  rw [if_pos (by decide)]
  refine wpAny_bind (sliceApplied_gen hs pl pu ?_)
  have hno : ¬ ((((sIx items.size 0 lo : Nat) : Int) == 0 && (1 : Int) == 1 && (sIx items.size items.size hi - sIx items.size 0 lo) == items.size) = true) := by
    intro q
    rw [Bool.and_eq_true, Bool.and_eq_true] at q
    have q1 : ((sIx items.size 0 lo : Nat) : Int) = 0 := eq_of_beq q.1.1
    have q2 : sIx items.size items.size hi - sIx items.size 0 lo = items.size := eq_of_beq q.2
    exact hw ⟨by omega, by omega⟩
  show wpAny _ _ (if (((sIx items.size 0 lo : Nat) : Int) == 0 && (1 : Int) == 1 && (sIx items.size items.size hi - sIx items.size 0 lo) == items.size) = true then _ else _) _ _ s
  rw [if_neg hno, pick_gen]
  first
    | exact wpAny_bind (m := Builtin.Tuple.tupleExact _) (wpAny_newObj_type (wpAny_pure ⟨_, rfl, wpAny_pure h⟩) htake)
    | exact wpAny_bind (m := Builtin.Tuple.tupleExact _) (wpAny_newObj_type (wpAny_bind (wpAny_pure (wpAny_pure ⟨_, rfl, wpAny_pure h⟩))) htake)
    | exact wpAny_bind (wpAny_bind (m := Builtin.Tuple.tupleExact _) (wpAny_newObj_type (wpAny_pure (wpAny_pure ⟨_, rfl, wpAny_pure h⟩)) htake))
    | exact wpAny_bind (wpAny_bind (m := Builtin.Tuple.tupleExact _) (wpAny_newObj_type (wpAny_pure ⟨_, rfl, wpAny_pure h⟩) htake))
end
end HT

namespace L2
open PySem PySem.Spec PyProof.Rows

/-! ### the parts of a slice -/
abbrev TO := St → Hp → (Option Int → Hp → Prop) → Prop
/-- a slice's part (left out, or an int) -/
def PO (X : Cx) (e : Option Expr) (t : TO) : Prop :=
  ∀ (pins : List (Addr × Obj)) (s : Shared) (σ : St) (H : Hp) (Q : Option Int → Hp → Prop), Inv X pins σ H s → t σ H Q →
    wpAny (model X.prog X.w) X.A (evalPart e X.env) (fun u s' => ∃ o H', Inv X pins σ H' s' ∧ IsPart u o ∧ Q o H') X.xe s
def tNoPart : TO := fun _ H Q => Q none H
def tPart (t : TE) : TO := fun σ H Q => t σ H fun x H1 => ∃ i, x = .int i ∧ Q (some i) H1

theorem intsAre_of {ns : List Int} : ∀ {us : List Value}, Vals (ns.map V.int) us → IntsAre us ns := by
  induction ns with
  | nil => intro us r; rw [List.map_nil] at r; cases r; exact .nil
  | cons n ns ih =>
    intro us r
    rw [List.map_cons] at r
    cases r with
    | cons r1 r2 =>
      obtain ⟨t, e⟩ := r1
      subst e
      exact .cons n t (ih r2)

section
variable {X : Cx} {e : Expr} {te : TE} {lo hi : Option Expr} {tl th : TO} {pos p2 : Pos}

theorem po_none : PO X none tNoPart := by
  intro pins s σ H Q I h
  rw [evalPart_none]
  exact wpAny_pure ⟨none, H, I, .none, h⟩
theorem po_some (h : PE X e te) : PO X (some e) (tPart te) := by
  intro pins s σ H Q I hw
  rw [evalPart_some]
  refine thn (h pins s σ H _ I hw) fun u s1 ⟨x, H1, I1, r1, q1⟩ => ?_
  obtain ⟨i, rfl, q⟩ := q1
  obtain ⟨t, rfl⟩ := r1
  exact ⟨some i, H1, I1, .int i t, q⟩

/-- what a slice of a value is, by values: the slice object stands at sl -/
def SlR (X : Cx) (r : V → Option Int → Option Int → Hp → VK → Prop) : Prop :=
  ∀ (pins : List (Addr × Obj)) (s : Shared) (σ : St) (H : Hp) (x : V) (v vl vu : Value) (lo hi : Option Int) (sl : Addr) (Q : VK), Inv X pins σ H s → RelV x v → s.heap.IsSliceOf sl vl vu .none → IsPart vl lo → IsPart vu hi → r x lo hi H Q →
    ∃ T id, typeLookup (.type T) "__getitem__" = pure (some (.builtin id)) ∧ s.TypeIs v T ∧ wpAny (model X.prog X.w) X.A (getItem v (.ref sl)) (EP X pins σ Q) X.xe s
theorem SlR.or {r r' : V → Option Int → Option Int → Hp → VK → Prop} (h : SlR X r) (h' : SlR X r') : SlR X (fun x lo hi H Q => r x lo hi H Q ∨ r' x lo hi H Q) := by
  intro pins s σ H x v vl vu lo hi sl Q I rx hs pl pu q
  rcases q with q | q
  · exact h pins s σ H x v vl vu lo hi sl Q I rx hs pl pu q
  · exact h' pins s σ H x v vl vu lo hi sl Q I rx hs pl pu q
def tSl (r : V → Option Int → Option Int → Hp → VK → Prop) (te : TE) (tl th : TO) : TE := fun σ H Q => te σ H fun x H1 => tl σ H1 fun l H2 => th σ H2 fun u H3 => r x l u H3 Q
/-- a[lo:hi], any a -/
theorem pe_slice {r : V → Option Int → Option Int → Hp → VK → Prop} (hr : SlR X r) (he : PE X e te) (hl : PO X lo tl) (hu : PO X hi th) : PE X (.Subscript e (.Slice lo hi none p2) pos) (tSl r te tl th) := by
  intro pins s σ H Q I h
  refine Subscript_ (thn (he pins s σ H _ I h) fun v s1 ⟨x, H1, I1, r1, q1⟩ => ?_)
  refine wpAny_Slice (thn (hl pins s1 σ H1 _ I1 q1) fun vl s2 ⟨l, H2, I2, pl, q2⟩ => thn (hu pins s2 σ H2 _ I2 q2) fun vu s3 ⟨u, H3, I3, pu, q3⟩ => ?_)
  rw [evalPart_none]
  refine wpAny_pure ?_
  have I4 : Inv X pins σ H3 { s3 with heap := s3.heap.push { cls := .type "slice", data := .fields #[vl, vu, .none] } } := I3.kept (t' := s3.toks) fun b ob q => Heap.get?_push_of_some _ q
  obtain ⟨T, id, hT, ht, hg⟩ := hr pins { s3 with heap := s3.heap.push { cls := .type "slice", data := .fields #[vl, vu, .none] } } σ H3 x v vl vu l u s3.heap.objs.size Q I4 r1 (Heap.IsSliceOf.new ..) pl pu q3
  show wpAny (model X.prog X.w) X.A (subscriptTail e (.Slice lo hi none p2) v (.ref s3.heap.objs.size)) (EP X pins σ Q) X.xe { s3 with heap := s3.heap.push { cls := .type "slice", data := .fields #[vl, vu, .none] } }
  exact tail_any (ops := [.ref s3.heap.objs.size, v]) ht hT hg (by with_unfolding_all rfl)

/-- the items of xs[lo:hi] -/
def cutV (xs : List V) (lo hi : Option Int) : List V := (xs.drop (HT.sIx xs.length 0 lo)).take (HT.sIx xs.length xs.length hi - HT.sIx xs.length 0 lo)
theorem cutV_length (xs : List V) (lo hi : Option Int) : (cutV xs lo hi).length ≤ xs.length := by
  unfold cutV
  rw [List.length_take, List.length_drop]
  omega
/-- t[lo:hi], not the whole of it (the whole would be t itself) -/
def rSlT (K : PySem.W.Frag) : V → Option Int → Option Int → Hp → VK → Prop := fun x lo hi H Q => ∃ a xs, x = .ref a ∧ SqT K H a xs ∧
  ¬ (HT.sIx xs.length 0 lo = 0 ∧ HT.sIx xs.length xs.length hi = xs.length) ∧ ∀ p, H p = none → Q (.ref p) (upd H p (.tup (cutV xs lo hi)))
theorem sl_tup : SlR X (rSlT X.K) := by
  intro pins s σ H x v vl vu lo hi sl Q I rx hs pl pu h
  obtain ⟨a, xs, rfl, hx, hw, q⟩ := h
  cases rx
  obtain ⟨its, r, ht, hz⟩ := I.tuple hx
  have hlen : its.toArray.size = xs.length := by rw [List.size_toArray]; exact r.length.symm
  refine ⟨"tuple", _, PyProof.Rows.slot_tuple_getitem.lookup, ht.typeIs, ?_⟩
  refine HT.getItem_tuple_cut ht hs pl pu (by rw [hlen]; exact hw) ?_ (by rw [hlen]; exact hz)
  rw [hlen]
  refine ⟨.ref s.heap.objs.size, _, I.laid (t' := s.toks) (o := .tup (cutV xs lo hi)) (fun b ob q => Heap.get?_push_of_some _ q) (Nat.le_refl _) ?_, rfl, q _ (I.hok.fresh (Nat.le_refl _))⟩
  exact ⟨Nat.le_trans (cutV_length xs lo hi) hz, _, (r.drop (HT.sIx xs.length 0 lo)).take (HT.sIx xs.length xs.length hi - HT.sIx xs.length 0 lo), IsTup.new _ _⟩

/-! ### t < u, t + u -/
def rLtT (K : PySem.W.Frag) : R2 := fun x y H Q => ∃ a b ns ms, x = .ref a ∧ y = .ref b ∧ SqT K H a (ns.map V.int) ∧ SqT K H b (ms.map V.int) ∧ Q (.bl (HT.lexLt ns ms)) H
theorem op_ltT (hu : X.A.units < cLine) : OpR X (compareOp .Lt) (rLtT X.K) := by
  intro pins s σ H x y v u Q I rx ry h
  obtain ⟨a, b, ns, ms, rfl, rfl, ha, hb, q⟩ := h
  cases rx
  cases ry
  obtain ⟨its, r1, p1, _⟩ := I.tuple ha
  obtain ⟨its2, r2, p2, _⟩ := I.tuple hb
  have i1 : IntsAre its.toArray.toList ns := intsAre_of r1
  have i2 : IntsAre its2.toArray.toList ms := intsAre_of r2
  exact HT.lt_tupInts p1 p2 i1 i2 hu ⟨.bl (HT.lexLt ns ms), H, I, rfl, q⟩
/-- t + u, t not empty: u empty gives t itself -/
def rCatT (K : PySem.W.Frag) : R2 := fun x y H Q => ∃ a b xs ys, x = .ref a ∧ y = .ref b ∧ SqT K H a xs ∧ SqT K H b ys ∧ xs ≠ [] ∧ xs.length + ys.length ≤ sizeLine ∧
  (ys = [] → Q (.ref a) H) ∧ (ys ≠ [] → ∀ p, H p = none → Q (.ref p) (upd H p (.tup (xs ++ ys))))
theorem Vals.nil_iff {xs : List V} {us : List Value} (r : Vals xs us) : us = [] ↔ xs = [] := by
  cases r with
  | nil => simp
  | cons _ _ => simp
theorem op_catT : OpR X (binaryOp .Add) (rCatT X.K) := by
  intro pins s σ H x y v u Q I rx ry h
  obtain ⟨a, b, xs, ys, rfl, rfl, ha, hb, hx, hz, q1, q2⟩ := h
  cases rx
  cases ry
  obtain ⟨its, r1, p1, _⟩ := I.tuple ha
  obtain ⟨its2, r2, p2, _⟩ := I.tuple hb
  refine HT.cat_tup p1 p2 (fun z => hx (r1.nil_iff.mp z)) (fun z => ⟨.ref a, H, I, rfl, q1 (r2.nil_iff.mp z)⟩) (fun z => ?_) (by rw [← r1.length, ← r2.length]; exact hz)
  refine ⟨.ref s.heap.objs.size, _, I.laid (t' := s.toks) (o := .tup (xs ++ ys)) (fun b ob q => Heap.get?_push_of_some _ q) (Nat.le_refl _) ?_, rfl, q2 (fun w => z (r2.nil_iff.mpr w)) _ (I.hok.fresh (Nat.le_refl _))⟩
  exact ⟨by rw [List.length_append]; exact hz, _, r1.append r2, IsTup.new _ _⟩
/-- tuple(t) -/
theorem call_tupleT : CallR X (.type "tuple") (fun xs H Q => ∃ a ys, xs = [.ref a] ∧ SqT X.K H a ys ∧ Q (.ref a) H) := by
  intro pins s σ H xs us Q I r h
  obtain ⟨a, ys, rfl, ha, q⟩ := h
  obtain ⟨u, rfl, ru⟩ := vals1 r
  cases ru
  obtain ⟨its, _, p1, _⟩ := I.tuple ha
  exact call_tuple_same (items := its.toArray) p1 ⟨.ref a, H, I, rfl, q⟩
end
end L2

namespace L2
open PySem PySem.Spec PyProof.Rows

/-! ### places -/
/-- the place that an index of any sign means -/
def ixN (n : Nat) (i : Int) : Option Nat := if 0 ≤ i then (if i < n then some i.toNat else none) else if -(n : Int) ≤ i then some (i + n).toNat else none
def atI {α : Type} (xs : List α) (i : Int) : Option α := (ixN xs.length i).bind fun j => xs[j]?
theorem ixN_seq {n : Nat} {i : Int} {j : Nat} (h : ixN n i = some j) : seqIndex? i n = some j ∧ j < n ∧ -(n : Int) ≤ i ∧ i < n := by
  unfold ixN at h
  by_cases h0 : 0 ≤ i
  · rw [if_pos h0] at h
    by_cases h1 : i < n
    · rw [if_pos h1] at h
      have e : i.toNat = j := Option.some.inj h
      exact ⟨by rw [seqIndex_of h0 h1, e], by omega, by omega, h1⟩
    · rw [if_neg h1] at h; cases h
  · rw [if_neg h0] at h
    by_cases h1 : -(n : Int) ≤ i
    · rw [if_pos h1] at h
      have e : (i + n).toNat = j := Option.some.inj h
      exact ⟨by rw [seqIndex_neg (by omega) h1, e], by omega, h1, by omega⟩
    · rw [if_neg h1] at h; cases h
theorem atI_get {α : Type} {xs : List α} {i : Int} {v : α} (h : atI xs i = some v) : ∃ j, seqIndex? i xs.length = some j ∧ xs[j]? = some v ∧ j < xs.length ∧ -(xs.length : Int) ≤ i ∧ i < xs.length := by
  unfold atI at h
  cases e : ixN xs.length i with
  | none => rw [e] at h; cases h
  | some j =>
    rw [e] at h
    obtain ⟨h1, h2, h3, h4⟩ := ixN_seq e
    exact ⟨j, h1, h, h2, h3, h4⟩
theorem atI_nat {α : Type} {xs : List α} {j : Nat} {v : α} (h : xs[j]? = some v) : atI xs (j : Int) = some v := by
  have hj : j < xs.length := (List.getElem?_eq_some_iff.mp h).1
  have e : ixN xs.length (j : Int) = some j := by
    unfold ixN
    rw [if_pos (by omega), if_pos (by omega)]; simp
  unfold atI; rw [e]; exact h
theorem atI_last {α : Type} (xs : List α) (v : α) : atI (xs ++ [v]) (-1) = some v := by
  have hl : (xs ++ [v]).length = xs.length + 1 := by simp
  have e : ixN (xs ++ [v]).length (-1) = some xs.length := by
    unfold ixN
    rw [hl, if_neg (by decide), if_pos (by omega)]
    congr 1
    omega
  unfold atI
  rw [e]
  show (xs ++ [v])[xs.length]? = some v
  simp

/-! ### what may be subscripted -/
/-- what stands as an index of a plain subscript -/
def PlainIx (b : Expr) : Prop := ∀ o i, subscripted b false o i = operate [o, i] (getItem o i)
/-- a subscript by values -/
def IxR (X : Cx) (r : R2) : Prop :=
  ∀ (value slice : Expr) (pins : List (Addr × Obj)) (s : Shared) (σ : St) (H : Hp) (x y : V) (v u : Value) (Q : VK), Inv X pins σ H s → RelV x v → RelV y u → r x y H Q →
    subscripted slice false v u = operate [v, u] (getItem v u) → wpAny (model X.prog X.w) X.A (subscriptTail value slice v u) (EP X pins σ Q) X.xe s
/-- a call of a builtin's method by values: the receiver, the arguments -/
def MtR (X : Cx) (id : String) (r : V → List V → Hp → VK → Prop) : Prop :=
  ∀ (pins : List (Addr × Obj)) (s : Shared) (σ : St) (H : Hp) (x : V) (xs : List V) (v : Value) (us : List Value) (Q : VK), Inv X pins σ H s → RelV x v → Vals xs us → r x xs H Q →
    wpAny (model X.prog X.w) X.A (call (.builtin id) (v :: us)) (EP X pins σ Q) X.xe s
section
variable {X : Cx} {a b : Expr} {ta tb : TE} {pos : Pos}
theorem IxR.or {r r' : R2} (h : IxR X r) (h' : IxR X r') : IxR X (fun x y H Q => r x y H Q ∨ r' x y H Q) := by
  intro value slice pins s σ H x y v u Q I rx ry q hs
  rcases q with q | q
  · exact h value slice pins s σ H x y v u Q I rx ry q hs
  · exact h' value slice pins s σ H x y v u Q I rx ry q hs
theorem MtR.or {id : String} {r r' : V → List V → Hp → VK → Prop} (h : MtR X id r) (h' : MtR X id r') : MtR X id (fun x xs H Q => r x xs H Q ∨ r' x xs H Q) := by
  intro pins s σ H x xs v us Q I rx rs q
  rcases q with q | q
  · exact h pins s σ H x xs v us Q I rx rs q
  · exact h' pins s σ H x xs v us Q I rx rs q
/-- a[b] -/
theorem pe_ix {r : R2} (hr : IxR X r) (ha : PE X a ta) (hb : PE X b tb) (hs : PlainIx b) : PE X (.Subscript a b pos) (tOp r ta tb) := by
  intro pins s σ H Q I h
  exact Subscript_ (binT ha hb I h fun v u s2 x y H2 I2 rx ry q => hr a b pins s2 σ H2 x y v u Q I2 rx ry q (hs _ _))

def rIxL (K : PySem.W.Frag) : R2 := fun x y H Q => ∃ p xs i v, x = .ref p ∧ y = .int i ∧ SqL K H p xs ∧ atI xs i = some v ∧ Q v H
def rIxT (K : PySem.W.Frag) : R2 := fun x y H Q => ∃ p xs i v, x = .ref p ∧ y = .int i ∧ SqT K H p xs ∧ atI xs i = some v ∧ Q v H
def rIxS : R2 := fun x y H Q => ∃ z i c, x = .str z ∧ y = .int i ∧ z.length ≤ sizeLine ∧ atI z.cps.toList i = some c ∧ Q (.str ⟨#[c]⟩) H
theorem ix_list : IxR X (rIxL X.K) := by
  intro value slice pins s σ H x y v u Q I rx ry h hs
  obtain ⟨p, xs, i, z, rfl, rfl, hq, he, q⟩ := h
  cases rx
  obtain ⟨t, rfl⟩ := ry
  obtain ⟨its, r, pl, hz⟩ := I.list hq
  obtain ⟨j, h1, h2, h3, h4, h5⟩ := atI_get he
  obtain ⟨w, ew, rw'⟩ := r.get h2
  have hl := r.length
  have hn := line63
  have fin : EP X pins σ Q w s := ⟨z, H, I, rw', q⟩
  by_cases h0 : 0 ≤ i
  · have hj : i.toNat = j := by
      rw [seqIndex_of h0 h5] at h1
      exact Option.some.inj h1
    exact item_listR pl.isList h0 (by omega) (by rw [hj]; simpa using ew) fin hs
  · have hj : (i + (its.toArray.size : Int)).toNat = j := by
      rw [seqIndex_neg (by omega) h4] at h1
      rw [List.size_toArray, ← hl]
      exact Option.some.inj h1
    exact subscriptTail_builtinR (x := w) pl.isList.typeIs slot_list_getitem.lookup
      (wpAny_getItem_list_neg (Q := fun r s' => r = w ∧ EP X pins σ Q r s') pl.isList (by omega) (by rw [List.size_toArray] <;> omega) (by omega) (by rw [hj]; simpa using ew) ⟨rfl, fin⟩) hs
theorem ix_tup : IxR X (rIxT X.K) := by
  intro value slice pins s σ H x y v u Q I rx ry h hs
  obtain ⟨p, xs, i, z, rfl, rfl, hq, he, q⟩ := h
  cases rx
  obtain ⟨t, rfl⟩ := ry
  obtain ⟨its, r, pl, hz⟩ := I.tuple hq
  obtain ⟨j, h1, h2, h3, h4, h5⟩ := atI_get he
  obtain ⟨w, ew, rw'⟩ := r.get h2
  have hl := r.length
  have hn := line63
  have fin : EP X pins σ Q w s := ⟨z, H, I, rw', q⟩
  exact subscriptTail_builtinR (x := w) pl.typeIs slot_tuple_getitem.lookup
    (getItem_tuple (j := j) (Q := fun r s' => r = w ∧ EP X pins σ Q r s') pl (by omega) (by omega) (by rw [List.size_toArray, ← hl]; exact h1) (by simpa using ew) ⟨rfl, fin⟩) hs
theorem ix_str : IxR X rIxS := by
  intro value slice pins s σ H x y v u Q I rx ry h hs
  obtain ⟨z, i, c, rfl, rfl, hz, he, q⟩ := h
  obtain ⟨t, rfl⟩ := rx
  obtain ⟨t', rfl⟩ := ry
  obtain ⟨j, h1, h2, h3, h4, h5⟩ := atI_get he
  have hl : z.cps.toList.length = z.length := by simp [Str.length]
  rw [hl] at h1 h4 h5
  have hn := line63
  exact tail_any (typeIs_str s z t) slot_str_getitem.lookup (getItem_str (c := c) (by
    have e1 : decide (i < -(2 ^ 63 : Int)) = false := decide_eq_false (by omega)
    have e2 : decide (i ≥ 2 ^ 63) = false := decide_eq_false (by omega)
    rw [e1, e2, Bool.or_false]) (by rw [h1]; simpa using h2) ⟨.str ⟨#[c]⟩, H, I.tok _, ⟨_, rfl⟩, q⟩) hs
/-- list, tuple or str -/
def rIx (K : PySem.W.Frag) : R2 := fun x y H Q => rIxL K x y H Q ∨ rIxT K x y H Q ∨ rIxS x y H Q
theorem ix_seq : IxR X (rIx X.K) := ix_list.or (ix_tup.or ix_str)

/-! ### xs[i] = v, any sign -/
/-- the list's object behind a store -/
theorem mapSeq_set (its : List Value) (n j : Nat) (u : Value) : Obj.mapSeq (·.setIfInBounds j u) { cls := .type "list", data := .seq its.toArray n } = { cls := .type "list", data := .seq (its.set j u).toArray n } := by
  simp [Obj.mapSeq]
theorem Inv.lst {pins : List (Addr × Obj)} {σ : St} {H : Hp} {s : Shared} {p : Addr} {xs : List V} (I : Inv X pins σ H s) (h : H p = some (.lst xs)) :
    ∃ (its : List Value) (n : Nat), Vals xs its ∧ s.heap.get? p = some { cls := .type "list", data := .seq its.toArray n } ∧ xs.length ≤ sizeLine := by
  obtain ⟨z, its, n, r, e⟩ := I.hok p _ h
  exact ⟨its, n, r, e, z⟩
/-- the list at p is written by an update of its object -/
theorem Inv.lstUpd {pins : List (Addr × Obj)} {σ : St} {H : Hp} {s : Shared} {p : Addr} {xs ys : List V} {its its' : List Value} {n n' : Nat} {f : Obj → Obj} (I : Inv X pins σ H s) (h : H p = some (.lst xs))
    (ho : s.heap.get? p = some { cls := .type "list", data := .seq its.toArray n }) (hf : f { cls := .type "list", data := .seq its.toArray n } = { cls := .type "list", data := .seq its'.toArray n' }) (r : Vals ys its') (hz : ys.length ≤ sizeLine) (t : Nat) :
    Inv X pins σ (upd H p (.lst ys)) { s with heap := s.heap.update p f, toks := t } := by
  have e : (s.heap.update p f).get? p = some { cls := .type "list", data := .seq its'.toArray n' } := by
    rw [Heap.get?_update_self f ho (by rw [hf] <;> rfl), hf]
  refine I.write (x := p) (e := p) (by rw [h]; trivial) (.inl rfl) (fun b u hb q => (Heap.get?_update_other _ _ (Ne.symm hb)).trans q) ⟨_, e⟩ ?_
  exact ⟨hz, its', n', r, e⟩
def rSetL : V → V → V → Hp → (Hp → Prop) → Prop := fun o i v H Q => ∃ p xs k j, o = .ref p ∧ i = .int k ∧ H p = some (.lst xs) ∧ ixN xs.length k = some j ∧ Q (upd H p (.lst (xs.set j v)))
theorem set_list : PSet X rSetL := by
  intro pins s σ H o i v ov iv u Q I ro ri rv h
  obtain ⟨p, xs, k, j, rfl, rfl, hp, hj, q⟩ := h
  cases ro
  obtain ⟨t, rfl⟩ := ri
  obtain ⟨its, n, r, ho, hz⟩ := I.lst hp
  obtain ⟨h1, h2, h3, h4⟩ := ixN_seq hj
  have hl := r.length
  have hn := line63
  have I' : Inv X pins σ (upd H p (.lst (xs.set j v))) { s with heap := s.heap.update p (Obj.mapSeq (·.setIfInBounds j u)) } :=
    I.lstUpd hp ho (mapSeq_set its n j u) (r.set rv j) (by rw [List.length_set]; exact hz) s.toks
  by_cases h0 : 0 ≤ k
  · have hk : k.toNat = j := by
      rw [seqIndex_of h0 h4] at h1
      exact Option.some.inj h1
    exact PySem.W.ki_setAt ho h0 (by omega) (by rw [List.size_toArray, ← hl]; exact h4) (by rw [hk]; exact ⟨_, I', q⟩)
  · have hk : (k + (its.toArray.size : Int)).toNat = j := by
      rw [seqIndex_neg (by omega) h3] at h1
      rw [List.size_toArray, ← hl]
      exact Option.some.inj h1
    exact PySem.W.ki_setBack ho (by omega) (by rw [List.size_toArray, ← hl]; exact h3) (by omega) (by rw [hk]; exact ⟨_, I', q⟩)

/-! ### slices -/
theorem slice_bounds (lo hi : Option Int) (n : Nat) : (sliceBounds lo hi none n).1 = ((HT.sIx n 0 lo : Nat) : Int) ∧ (sliceBounds lo hi none n).2.1 = ((HT.sIx n n hi : Nat) : Int) ∧ (sliceBounds lo hi none n).2.2 = 1 := by
  refine ⟨?_, ?_, rfl⟩
  · cases lo with
    | none => simp [sliceBounds, HT.sIx]
    | some i =>
      simp only [sliceBounds, HT.sIx, Option.getD_none, show (1 : Int) > 0 by decide, if_true]
      by_cases h : i < 0
      · simp only [h, if_true] <;> omega
      · simp only [h, if_false] <;> omega
  · cases hi with
    | none => simp [sliceBounds, HT.sIx]
    | some i =>
      simp only [sliceBounds, HT.sIx, Option.getD_none, show (1 : Int) > 0 by decide, if_true]
      by_cases h : i < 0
      · simp only [h, if_true] <;> omega
      · simp only [h, if_false] <;> omega
theorem slicePick_cut (its : List Value) (lo hi : Option Int) : slicePick its.toArray lo hi none = ((its.drop (HT.sIx its.length 0 lo)).take (HT.sIx its.length its.length hi - HT.sIx its.length 0 lo)).toArray := by
  obtain ⟨h1, h2, h3⟩ := slice_bounds lo hi its.toArray.size
  unfold slicePick
  rw [h1, h2, h3]
  simp only [sliceRange_one, pick_run, List.size_toArray] <;> rfl
/-- xs[lo:hi] of a list: a new list -/
def rSlL (K : PySem.W.Frag) : V → Option Int → Option Int → Hp → VK → Prop := fun x lo hi H Q => ∃ a xs, x = .ref a ∧ SqL K H a xs ∧ ∀ p, H p = none → Q (.ref p) (upd H p (.lst (cutV xs lo hi)))
theorem sl_list : SlR X (rSlL X.K) := by
  intro pins s σ H x v vl vu lo hi sl Q I rx hs pl pu h
  obtain ⟨a, xs, rfl, hx, q⟩ := h
  cases rx
  obtain ⟨its, r, ht, hz⟩ := I.list hx
  have hlen := r.length
  refine ⟨"list", _, slot_list_getitem.lookup, ht.isList.typeIs, ?_⟩
  refine wpAny_getItem_list_slice ht.isList hs pl pu .none (by simp) ?_ (by rw [List.size_toArray] <;> omega)
  rw [slicePick_cut, ← hlen]
  refine ⟨.ref s.heap.objs.size, _, I.laid (t' := s.toks) (o := .lst (cutV xs lo hi)) (fun b ob q => Heap.get?_push_of_some _ q) (Nat.le_refl _) ?_, rfl, q _ (I.hok.fresh (Nat.le_refl _))⟩
  exact ⟨Nat.le_trans (cutV_length xs lo hi) hz, _, 0, (r.drop (HT.sIx xs.length 0 lo)).take (HT.sIx xs.length xs.length hi - HT.sIx xs.length 0 lo), Heap.get?_push_size _ rfl⟩

/-! ### in, not in: flat items -/
def flatV : V → Bool
  | .non => true
  | .bl _ => true
  | .int _ => true
  | .str _ => true
  | _ => false
/-- == of flat values -/
def eqV : V → V → Bool
  | .non, .non => true
  | .bl a, .bl b => a == b
  | .bl a, .int b => (if a then 1 else 0) == b
  | .int a, .bl b => a == (if b then 1 else 0)
  | .int a, .int b => a == b
  | .str a, .str b => a == b
  | _, _ => false
theorem eqAt_V {A : Around} {s : Shared} {y x : V} {u v : Value} (ry : RelV y u) (rx : RelV x v) (fy : flatV y = true) (fx : flatV x = true) : SeqAt.EqAt A s u v (eqV y x) := by
  cases y with
  | non =>
    cases ry
    cases x with
    | non => cases rx; exact SeqAt.EqAt.same _
    | bl b => cases rx; exact SeqAt.EqAt.none_bool b
    | int b => obtain ⟨t, rfl⟩ := rx; exact SeqAt.EqAt.none_int b t
    | str b => obtain ⟨t, rfl⟩ := rx; exact SeqAt.EqAt.none_str b t
    | _ => exact absurd (show false = true from fx) Bool.false_ne_true
  | bl a =>
    cases ry
    cases x with
    | non => cases rx; exact SeqAt.EqAt.bool_none a
    | bl b => cases rx; exact SeqAt.EqAt.bool_bool a b
    | int b => obtain ⟨t, rfl⟩ := rx; exact SeqAt.EqAt.bool_int a b t
    | str b => obtain ⟨t, rfl⟩ := rx; exact SeqAt.EqAt.bool_str a b t
    | _ => exact absurd (show false = true from fx) Bool.false_ne_true
  | int a =>
    obtain ⟨t', rfl⟩ := ry
    cases x with
    | non => cases rx; exact SeqAt.EqAt.int_none a t'
    | bl b => cases rx; exact SeqAt.EqAt.int_bool a t' b
    | int b => obtain ⟨t, rfl⟩ := rx; exact SeqAt.EqAt.int_int a t' b t
    | str b => obtain ⟨t, rfl⟩ := rx; exact SeqAt.EqAt.int_str a t' b t
    | _ => exact absurd (show false = true from fx) Bool.false_ne_true
  | str a =>
    obtain ⟨t', rfl⟩ := ry
    cases x with
    | non => cases rx; exact SeqAt.EqAt.str_none a t'
    | bl b => cases rx; exact SeqAt.EqAt.str_bool a t' b
    | int b => obtain ⟨t, rfl⟩ := rx; exact SeqAt.EqAt.str_int a t' b t
    | str b => obtain ⟨t, rfl⟩ := rx; exact SeqAt.EqAt.str_str a t' b t
    | _ => exact absurd (show false = true from fx) Bool.false_ne_true
  | _ => exact absurd (show false = true from fy) Bool.false_ne_true
/-- the items' answers, read off the values (a value's own answer does not lean on its token) -/
def eqU (x : V) (u : Value) : Bool := match u with
  | .none => eqV .non x
  | .bool b => eqV (.bl b) x
  | .int i _ => eqV (.int i) x
  | .str z _ => eqV (.str z) x
  | _ => false
theorem eqU_of {x y : V} {u : Value} (r : RelV y u) (f : flatV y = true) : eqU x u = eqV y x := by
  cases y with
  | non => cases r; rfl
  | bl b => cases r; rfl
  | int i => obtain ⟨t, rfl⟩ := r; rfl
  | str z => obtain ⟨t, rfl⟩ := r; rfl
  | _ => exact absurd (show false = true from f) Bool.false_ne_true
theorem any_eqU {x : V} : ∀ {xs : List V} {us : List Value}, Vals xs us → xs.all flatV = true → us.any (eqU x) = xs.any fun y => eqV y x
  | _, _, .nil, _ => rfl
  | y :: xs, u :: us, .cons r t, f => by
    rw [List.all_cons, Bool.and_eq_true] at f
    rw [List.any_cons, List.any_cons, eqU_of r f.1, any_eqU t f.2]
theorem mem_eqAt {A : Around} {s : Shared} {x : V} {v : Value} (rx : RelV x v) (fx : flatV x = true) : ∀ {xs : List V} {us : List Value}, Vals xs us → xs.all flatV = true → ∀ u ∈ us, SeqAt.EqAt A s u v (eqU x u)
  | _, _, .nil, _ => fun u hu => by cases hu
  | y :: xs, u :: us, .cons r t, f => fun u' hu => by
    rw [List.all_cons, Bool.and_eq_true] at f
    rcases List.mem_cons.mp hu with rfl | hu
    · rw [eqU_of r f.1]; exact eqAt_V r rx f.1 fx
    · exact mem_eqAt rx fx t f.2 u' hu
def inV (x : V) (xs : List V) : Bool := xs.any fun y => eqV y x
/-- x in a list or tuple of flat items -/
def rIn (K : PySem.W.Frag) (neg : Bool) : R2 := fun x y H Q => ∃ p xs, y = .ref p ∧ (SqL K H p xs ∨ SqT K H p xs) ∧ flatV x = true ∧ xs.all flatV = true ∧ Q (.bl (if neg then !inV x xs else inV x xs)) H
theorem op_in_seq : OpR X (compareOp .In) (rIn X.K false) := by
  intro pins s σ H x y v u Q I rx ry h
  obtain ⟨p, xs, rfl, hq, fx, fs, q⟩ := h
  cases ry
  rcases hq with hq | hq
  · obtain ⟨its, r, pl, hz⟩ := I.list hq
    refine SeqAt.in_listAt (eqU x) pl.isList (fun w hw => mem_eqAt rx fx r fs w (by simpa using hw)) ⟨.bl _, H, I, rfl, ?_⟩
    rw [show its.toArray.any (eqU x) = its.any (eqU x) by simp, any_eqU r fs]
    exact q
  · obtain ⟨its, r, pl, hz⟩ := I.tuple hq
    refine SeqAt.in_tupleAt (eqU x) pl (fun w hw => mem_eqAt rx fx r fs w (by simpa using hw)) ⟨.bl _, H, I, rfl, ?_⟩
    rw [show its.toArray.any (eqU x) = its.any (eqU x) by simp, any_eqU r fs]
    exact q
theorem op_notIn_seq : OpR X (compareOp .NotIn) (rIn X.K true) := by
  intro pins s σ H x y v u Q I rx ry h
  obtain ⟨p, xs, rfl, hq, fx, fs, q⟩ := h
  cases ry
  rcases hq with hq | hq
  · obtain ⟨its, r, pl, hz⟩ := I.list hq
    refine SeqAt.notIn_listAt (eqU x) pl.isList (fun w hw => mem_eqAt rx fx r fs w (by simpa using hw)) ⟨.bl _, H, I, rfl, ?_⟩
    rw [show its.toArray.any (eqU x) = its.any (eqU x) by simp, any_eqU r fs]
    exact q
  · obtain ⟨its, r, pl, hz⟩ := I.tuple hq
    refine SeqAt.notIn_tupleAt (eqU x) pl (fun w hw => mem_eqAt rx fx r fs w (by simpa using hw)) ⟨.bl _, H, I, rfl, ?_⟩
    rw [show its.toArray.any (eqU x) = its.any (eqU x) by simp, any_eqU r fs]
    exact q
theorem op_notIn_str : OpR X (compareOp .NotIn) (fun x y H Q => ∃ i j, x = .str i ∧ y = .str j ∧ Q (.bl (!(!(Builtin.Str.occurrences j i 0 j.length 1).isEmpty))) H) := by
  intro pins s σ H x y v u Q I rx ry h
  obtain ⟨i, j, rfl, rfl, q⟩ := h
  obtain ⟨t, rfl⟩ := rx
  obtain ⟨t', rfl⟩ := ry
  exact notIn_str ⟨.bl _, H, I, rfl, q⟩

/-! ### len, list(x), tuple(x) of any list or tuple that is read -/
theorem call_len_seq : CallR X (.builtin "len") (fun xs H Q => ∃ p ys, xs = [.ref p] ∧ (SqL X.K H p ys ∨ SqT X.K H p ys) ∧ Q (.int ys.length) H) := by
  intro pins s σ H xs us Q I r h
  obtain ⟨p, ys, rfl, hq, q⟩ := h
  obtain ⟨u, rfl, rx⟩ := vals1 r
  cases rx
  have hn := line63
  rcases hq with hq | hq
  · obtain ⟨its, r', pl, hz⟩ := I.list hq
    have hlen := r'.length
    exact Calls.call_len_list pl.isList (by simp only [List.size_toArray] <;> omega) ⟨.int ys.length, H, I.tok _, ⟨s.toks + 1, by rw [List.size_toArray, hlen]⟩, q⟩
  · obtain ⟨its, r', pl, hz⟩ := I.tuple hq
    have hlen := r'.length
    exact len_tuple pl (by simp only [List.size_toArray] <;> omega) ⟨.int ys.length, H, I.tok _, ⟨s.toks + 1, by rw [List.size_toArray, hlen]⟩, q⟩
theorem call_len_str : CallR X (.builtin "len") (fun xs H Q => ∃ z, xs = [.str z] ∧ z.length ≤ sizeLine ∧ Q (.int z.length) H) := by
  intro pins s σ H xs us Q I r h
  obtain ⟨z, rfl, hz, q⟩ := h
  obtain ⟨u, rfl, t, rfl⟩ := vals1 r
  have hn := line63
  exact len_str (by omega) ⟨.int z.length, H, I.tok _, ⟨_, rfl⟩, q⟩
theorem CallR.or {f : Value} {r r' : List V → Hp → VK → Prop} (h : CallR X f r) (h' : CallR X f r') : CallR X f (fun xs H Q => r xs H Q ∨ r' xs H Q) := by
  intro pins s σ H xs us Q I rs q
  rcases q with q | q
  · exact h pins s σ H xs us Q I rs q
  · exact h' pins s σ H xs us Q I rs q
theorem call_list_of : CallR X (.type "list") (fun xs H Q => ∃ p ys, xs = [.ref p] ∧ (SqL X.K H p ys ∨ SqT X.K H p ys) ∧ ∀ l, H l = none → Q (.ref l) (upd H l (.lst ys))) := by
  intro pins s σ H xs us Q I r h
  obtain ⟨p, ys, rfl, hq, q⟩ := h
  obtain ⟨u, rfl, rx⟩ := vals1 r
  cases rx
  have fin : ∀ (its : List Value), Vals ys its → ys.length ≤ sizeLine → ∀ (h' : Heap) (c' : Nat), (∀ b o', s.heap.get? b = some o' → h'.get? b = some o') →
      h'.get? s.heap.objs.size = some { cls := .type "list", dict := none, data := .seq its.toArray c', slots := #[] } → EP X pins σ Q (.ref s.heap.objs.size) { s with heap := h' } := fun its r' hz h' c' kp e =>
    ⟨.ref s.heap.objs.size, _, I.laid (t' := s.toks) kp (Nat.le_refl _) (show ObjOk X.prog X.w _ h' _ (.lst ys) from ⟨hz, its, c', r', e⟩), rfl, q _ (I.hok.fresh (Nat.le_refl _))⟩
  rcases hq with hq | hq
  · obtain ⟨its, r', pl, hz⟩ := I.list hq
    have hlen := r'.length
    obtain ⟨o, ho, hc, n, hd⟩ := pl.isList
    exact call_list_seq p (.inl rfl) ho hc hd (fun h' c' kp e => fin its r' hz h' c' kp e) (by simp only [List.size_toArray] <;> omega)
  · obtain ⟨its, r', pl, hz⟩ := I.tuple hq
    have hlen := r'.length
    obtain ⟨o, ho, hc, n, hd⟩ := pl
    exact call_list_seq p (.inr rfl) ho hc hd (fun h' c' kp e => fin its r' hz h' c' kp e) (by simp only [List.size_toArray] <;> omega)
theorem call_tuple_of : CallR X (.type "tuple") (fun xs H Q => ∃ p ys, xs = [.ref p] ∧ ((SqL X.K H p ys ∧ ∀ l, H l = none → Q (.ref l) (upd H l (.tup ys))) ∨ (SqT X.K H p ys ∧ Q (.ref p) H))) := by
  intro pins s σ H xs us Q I r h
  obtain ⟨p, ys, rfl, h⟩ := h
  obtain ⟨u, rfl, rx⟩ := vals1 r
  cases rx
  rcases h with ⟨hq, q⟩ | ⟨hq, q⟩
  · obtain ⟨its, r', pl, hz⟩ := I.list hq
    have hlen := r'.length
    refine call_tuple_list pl.isList (fun h' kp => ?_) (by simp only [List.size_toArray] <;> omega)
    have I1 : Inv X pins σ H { s with heap := h' } := I.kept (t' := s.toks) kp
    have I2 : Inv X pins σ (upd H h'.objs.size (.tup ys)) { s with heap := h'.push { cls := .type "tuple", data := .seq its.toArray } } :=
      I1.laid (t' := s.toks) (fun b o e => Heap.get?_push_of_some _ e) (Nat.le_refl _) (show ObjOk X.prog X.w _ _ _ (.tup ys) from ⟨hz, its, r', IsTup.new _ _⟩)
    exact ⟨.ref h'.objs.size, _, I2, rfl, q _ (I1.hok.fresh (Nat.le_refl _))⟩
  · obtain ⟨its, r', pl, hz⟩ := I.tuple hq
    exact call_tuple_same pl ⟨.ref p, H, I, rfl, q⟩

/-! ### the call of a builtin's method: o.m(..) -/
/-- the value is of that builtin type -/
def tyV (K : PySem.W.Frag) (T : String) (x : V) (H : Hp) : Prop := match x with
  | .str _ => T = "str"
  | .int _ => T = "int"
  | .ref p => (T = "list" ∧ ∃ xs, SqL K H p xs) ∨ (T = "tuple" ∧ ∃ o, K.lookup p = some o ∧ o.cls = .type "tuple" ∧ o.dict = none) ∨
      (T = "dict" ∧ ((∃ kvs, H p = some (.dK kvs)) ∨ ∃ kvs, H p = some (.dT kvs))) ∨ (T = "set" ∧ ∃ S n, H p = some (.set S n))
  | _ => False
theorem tyV_is {pins : List (Addr × Obj)} {σ : St} {H : Hp} {s : Shared} {T : String} {x : V} {v : Value} (I : Inv X pins σ H s) (r : RelV x v) (ty : tyV X.K T x H) :
    s.TypeIs v T ∧ ∀ a, v = .ref a → ∃ ob, s.heap.get? a = some ob ∧ ob.dict = none := by
  cases x with
  | str z =>
    obtain ⟨t, rfl⟩ := r
    cases (show T = "str" from ty)
    exact ⟨typeIs_str s z t, fun _ e => nomatch e⟩
  | int i =>
    obtain ⟨t, rfl⟩ := r
    cases (show T = "int" from ty)
    exact ⟨typeIs_int s i t, fun _ e => nomatch e⟩
  | ref p =>
    cases r
    rcases ty with ⟨rfl, xs, hq⟩ | ⟨rfl, o, hk, hc, hd⟩ | ⟨rfl, hk⟩ | ⟨rfl, S, n, hk⟩
    · obtain ⟨its, _, pl, _⟩ := I.list hq
      refine ⟨pl.isList.typeIs, fun a e => ?_⟩
      cases e
      obtain ⟨o, n, e, c, hd, _⟩ := pl
      exact ⟨o, e, hd⟩
    · refine ⟨⟨o, I.kIn p o hk, hc⟩, fun a e => ?_⟩
      cases e
      exact ⟨o, I.kIn _ o hk, hd⟩
    · have z : ∃ o, s.heap.get? p = some o ∧ o.ExactDict := by
        rcases hk with ⟨kvs, hk⟩ | ⟨kvs, hk⟩
        · obtain ⟨_, _, _, _, o, _, _, e, ex, _⟩ := I.hok p _ hk
          exact ⟨o, e, ex⟩
        · obtain ⟨_, _, _, _, o, _, _, e, ex, _⟩ := I.hok p _ hk
          exact ⟨o, e, ex⟩
      obtain ⟨o, e, ex⟩ := z
      refine ⟨⟨o, e, ex.1⟩, fun a e2 => ?_⟩
      cases e2
      exact ⟨o, e, ex.2.1⟩
    · obtain ⟨o, _, _, _, e, ex, _⟩ := I.hok p _ hk
      refine ⟨⟨o, e, ex.1⟩, fun a e2 => ?_⟩
      cases e2
      exact ⟨o, e, ex.2.1⟩
  | _ => exact False.elim ty
def tBM0 (K : PySem.W.Frag) (T : String) (r : V → List V → Hp → VK → Prop) (to : TE) : TE := fun σ H Q => to σ H fun x H1 => tyV K T x H1 ∧ r x [] H1 Q
def tBM (K : PySem.W.Frag) (T : String) (r : V → List V → Hp → VK → Prop) (to : TE) (t : TA) : TE := fun σ H Q => to σ H fun x H1 => tyV K T x H1 ∧ t σ H1 fun xs H2 => r x xs H2 Q
variable {o e : Expr} {es : List Expr} {to : TE} {t : TA} {name : Str} {apos cpos : Pos} {T id : String} {r : V → List V → Hp → VK → Prop}
theorem pe_bm0 (pa : PlainAttrs T) (slot : Slot T name id) (hty : typeOf (.builtin id) = pure (.type "method_descriptor")) (hm : MtR X id r) (ho : PE X o to)
    (hbase : attributeBase o name X.env (eval o X.env) = eval o X.env := by rfl) (hline : (apos.endLine == cpos.line) = true := by rfl) : PE X (.Call (.Attribute o name apos) [] [] cpos) (tBM0 X.K T r to) := by
  intro pins s σ H Q I h
  refine wpAny_Call_method0_late hbase hline (thn (ho pins s σ H _ I h) fun v s1 ⟨x, H1, I1, r1, ty, q1⟩ => ?_)
  obtain ⟨h1, h2⟩ := tyV_is I1 r1 ty
  exact ⟨T, id, pa, slot, hty, h1, h2, Calls.callWith_builtin rfl (PySem.evalArgs_none (hm pins s1 σ H1 x [] v [] Q I1 r1 .nil q1))⟩
theorem pe_bm (pa : PlainAttrs T) (slot : Slot T name id) (hty : typeOf (.builtin id) = pure (.type "method_descriptor")) (hm : MtR X id r) (ho : PE X o to) (ha : PA X (e :: es) t)
    (hbase : attributeBase o name X.env (eval o X.env) = eval o X.env := by rfl)
    (hfew : ((backTo cpos (starEach (e :: es) X.env)).all (fun x => !x.1) && (backToKw cpos (keywordEach [] X.env)).all (fun x => x.1.isSome)
      && decide ((e :: es).length + ([] : List Keyword).length + (if ([] : List Keyword).isEmpty then 0 else 1) < 30)) = true := by rfl)
    (hline : (apos.endLine == cpos.line) = true := by rfl) (hs : starEach (e :: es) X.env = (false, eval e X.env) :: starEach es X.env := by rfl) (hplain : (backTo cpos (starEach es X.env)).any (·.1) = false := by rfl) :
    PE X (.Call (.Attribute o name apos) (e :: es) [] cpos) (tBM X.K T r to t) := by
  intro pins s σ H Q I h
  refine wpAny_Call_method_late hbase hfew hline rfl (thn (ho pins s σ H _ I h) fun v s1 ⟨x, H1, I1, r1, ty, q1⟩ => ?_)
  obtain ⟨h1, h2⟩ := tyV_is I1 r1 ty
  refine ⟨T, id, pa, slot, hty, h1, h2, ?_⟩
  have hA := ha cpos pins s1 σ H1 _ I1 q1
  rw [hs] at hA ⊢
  refine Calls.callWith_builtin (by show (false || (backTo cpos (starEach es X.env)).any (·.1)) = false; rw [hplain] <;> rfl) (Calls.evalArgs_plain ?_)
  exact thn hA fun us s2 ⟨vs, H2, I2, r2, q2⟩ => hm pins s2 σ H2 x vs v us Q I2 r1 r2 q2
/- xs.append(e), list.index on a module's tuple .. are MtR facts of 06m -/
end
end L2

namespace L2
open PySem PySem.Spec PyProof.Rows

def MtM (X : Cx) (id : String) (r : V → List V → Hp → VK → Prop) : Prop :=
  ∀ (pins : List (Addr × Obj)) (s : Shared) (σ : St) (H : Hp) (x : V) (xs : List V) (v : Value) (us : List Value) (Q : VK), Inv X pins σ H s → RelV x v → Vals xs us → r x xs H Q →
    wpAny (model X.prog X.w) X.A (call (.builtin id) (v :: us)) (EP X pins σ Q) X.xe s

/-! ### lists of values -/
theorem Vals.one : ∀ {x : V} {us : List Value}, Vals [x] us → ∃ u, us = [u] ∧ RelV x u
  | _, _, .cons r .nil => ⟨_, rfl, r⟩
theorem Vals.two : ∀ {x y : V} {us : List Value}, Vals [x, y] us → ∃ u v, us = [u, v] ∧ RelV x u ∧ RelV y v
  | _, _, _, .cons r (.cons q .nil) => ⟨_, _, rfl, r, q⟩
theorem Vals.zero : ∀ {us : List Value}, Vals [] us → us = []
  | _, .nil => rfl
theorem Vals.dropLast {xs : List V} {us : List Value} (h : Vals xs us) : Vals xs.dropLast us.dropLast := by
  induction h with
  | nil => exact .nil
  | cons r t ih =>
    cases t with
    | nil => exact .nil
    | cons q t' => exact .cons r ih
theorem Vals.eraseIdx : ∀ {xs : List V} {us : List Value} (i : Nat), Vals xs us → Vals (xs.eraseIdx i) (us.eraseIdx i)
  | _, _, _, .nil => .nil
  | _, _, 0, .cons _ t => t
  | _, _, i + 1, .cons r t => .cons r (Vals.eraseIdx i t)
theorem Vals.reverse {xs : List V} {us : List Value} (h : Vals xs us) : Vals xs.reverse us.reverse := by
  induction h with
  | nil => exact .nil
  | cons r t ih => rw [List.reverse_cons, List.reverse_cons]; exact Vals.append ih (.cons r .nil)
theorem Vals.rep {xs : List V} {us : List Value} (h : Vals xs us) : ∀ k : Nat, Vals (List.replicate k xs).flatten (List.replicate k us).flatten
  | 0 => .nil
  | k + 1 => by
    rw [List.replicate_succ, List.replicate_succ, List.flatten_cons, List.flatten_cons]
    exact Vals.append h (Vals.rep h k)
theorem erase_last {α : Type} (l : List α) : l.eraseIdx (l.length - 1) = l.dropLast := by
  induction l with
  | nil => rfl
  | cons a r ih =>
    cases r with
    | nil => rfl
    | cons b r =>
      have e : (a :: b :: r).length - 1 = ((b :: r).length - 1) + 1 := by
        have h1 : (a :: b :: r).length = r.length + 2 := rfl
        have h2 : (b :: r).length = r.length + 1 := rfl
        omega
      rw [e, List.eraseIdx_cons_succ, ih]
      all_goals rfl
theorem len_erase {α : Type} : ∀ (l : List α) (i : Nat), (l.eraseIdx i).length ≤ l.length
  | [], _ => Nat.le_refl _
  | _ :: _, 0 => Nat.le_succ _
  | _ :: r, i + 1 => Nat.succ_le_succ (len_erase r i)
theorem foldl_rep (its : List Value) : ∀ (k : Nat) (acc : List Value),
    List.foldl (fun x1 x2 => x1 ++ x2) acc.toArray (List.replicate k its.toArray) = (acc ++ (List.replicate k its).flatten).toArray
  | 0, acc => by simp
  | k + 1, acc => by
    have e : acc.toArray ++ its.toArray = (acc ++ its).toArray := by simp
    have e2 : (acc ++ its) ++ (List.replicate k its).flatten = acc ++ (List.replicate (k + 1) its).flatten := by
      rw [List.replicate_succ, List.flatten_cons, List.append_assoc]
    rw [← e2, ← foldl_rep its k (acc ++ its), ← e, List.replicate_succ, List.foldl_cons]

section
variable {X : Cx} {pins : List (Addr × Obj)} {σ : St} {H : Hp} {s : Shared} {l b : Addr} {xs ys zs : List V}

/-! ### the two steps: a tracked list is rewritten, a new list is laid -/
theorem Inv.lset {its its' : List Value} {n : Nat} {f : Array Value → Array Value} {t' : Nat} (I : Inv X pins σ H s) (hH : H l = some (.lst xs))
    (e : s.heap.get? l = some { cls := .type "list", data := .seq its.toArray n }) (hf : f its.toArray = its'.toArray) (hv : Vals ys its') (hz : ys.length ≤ sizeLine) :
    Inv X pins σ (upd H l (.lst ys)) { s with heap := s.heap.update l (Obj.mapSeq f), toks := t' } := by
  have q := PySem.IsL.update e f
  rw [hf] at q
  refine I.write (x := l) (e := l) (by rw [hH]; exact trivial) (.inl rfl) (fun b' u hb hu => (Heap.get?_update_other s.heap (Obj.mapSeq f) (Ne.symm hb)).trans hu) ⟨_, q⟩ ?_
  exact ⟨hz, its', _, hv, q⟩
theorem Inv.lnew {its : List Value} {t' : Nat} (I : Inv X pins σ H s) (hv : Vals ys its) (hz : ys.length ≤ sizeLine) :
    Inv X pins σ (upd H s.heap.objs.size (.lst ys)) { s with heap := s.heap.push { cls := .type "list", data := .seq its.toArray }, toks := t' } :=
  I.laid (fun _ _ q => Heap.get?_push_of_some _ q) (Nat.le_refl _) ⟨hz, its, 0, hv, Heap.get?_push_size _ rfl⟩
theorem Inv.fresh (I : Inv X pins σ H s) : H s.heap.objs.size = none := I.hok.fresh (Nat.le_refl _)
theorem Inv.lstM (I : Inv X pins σ H s) (hH : H l = some (.lst xs)) : xs.length ≤ sizeLine ∧ ∃ (its : List Value) (n : Nat), Vals xs its ∧ xs.length = its.length ∧ s.heap.get? l = some { cls := .type "list", data := .seq its.toArray n } := by
  obtain ⟨z, its, n, r, e⟩ := I.hok l _ hH
  exact ⟨z, its, n, r, r.length, e⟩

theorem notLongL {n : Nat} (h : n ≤ sizeLine) : Builtin.List.listTooLong n = false := by
  unfold Builtin.List.listTooLong
  exact decide_eq_false (by omega)
end

section
variable {X : Cx}

/-! ### methods -/
def rAppend : V → List V → Hp → VK → Prop := fun x vs H Q => ∃ l xs y, x = .ref l ∧ vs = [y] ∧ H l = some (.lst xs) ∧ xs.length < sizeLine ∧ Q .non (upd H l (.lst (xs ++ [y])))
theorem mt_append : MtM X "list.append" rAppend := by
  intro pins s σ H x vs v us Q I rx rv h
  obtain ⟨l, xs, y, rfl, rfl, hH, hz, q⟩ := h
  cases rx
  obtain ⟨u, rfl, ru⟩ := rv.one
  obtain ⟨z, its, n, r, hl, e⟩ := I.lstM hH
  refine call_meets F.slot_list_append ⟨_, e, rfl⟩ F.entry_list_append (F.args_list_append_2 _ _) (PySem.list_append l its.toArray n u (by rw [List.size_toArray]; omega)) ⟨e, ?_⟩
  refine ⟨.non, _, I.lset (its' := its ++ [u]) hH e (by simp) (r.append (.cons ru .nil)) ?_, rfl, q⟩
  rw [List.length_append, List.length_singleton]
  omega

def rExtend : V → List V → Hp → VK → Prop := fun x vs H Q => ∃ l b xs zs, x = .ref l ∧ vs = [.ref b] ∧ H l = some (.lst xs) ∧ H b = some (.lst zs) ∧ xs.length + zs.length ≤ sizeLine ∧ Q .non (upd H l (.lst (xs ++ zs)))
theorem mt_extend : MtM X "list.extend" rExtend := by
  intro pins s σ H x vs v us Q I rx rv h
  obtain ⟨l, b, xs, zs, rfl, rfl, hH, hB, hz, q⟩ := h
  cases rx
  obtain ⟨u, rfl, ru⟩ := rv.one
  cases ru
  obtain ⟨z, its, n, r, hl, e⟩ := I.lstM hH
  obtain ⟨z2, its2, n2, r2, hl2, e2⟩ := I.lstM hB
  have hsz : its.toArray.size + its2.toArray.size ≤ sizeLine := by rw [List.size_toArray, List.size_toArray]; omega
  have hlong : ¬ (!its.toArray.isEmpty && Builtin.List.listTooLong (its.toArray.size + its2.toArray.size)) = true := by
    rw [notLongL hsz, Bool.and_false]
    exact Bool.false_ne_true
  refine call_meets F.slot_list_extend ⟨_, e, rfl⟩ F.entry_list_extend (F.args_list_extend_2 _ _)
    (AutoSeq1.list_extend_list_list_0 l its.toArray n b its2.toArray n2 hlong (by rw [List.size_toArray]; omega) (by omega)) ⟨e, e2, ?_⟩
  refine ⟨.non, _, I.lset (its' := its ++ its2) hH e (by simp) (r.append r2) ?_, rfl, q⟩
  rw [List.length_append]
  omega

def rPop : V → List V → Hp → VK → Prop := fun x vs H Q => ∃ l xs y, x = .ref l ∧ vs = [] ∧ H l = some (.lst xs) ∧ xs[xs.length - 1]? = some y ∧ Q y (upd H l (.lst xs.dropLast))
theorem mt_pop : MtM X "list.pop" rPop := by
  intro pins s σ H x vs v us Q I rx rv h
  obtain ⟨l, xs, y, rfl, rfl, hH, hy, q⟩ := h
  cases rx
  have hus := rv.zero
  subst hus
  obtain ⟨z, its, n, r, hl, e⟩ := I.lstM hH
  obtain ⟨u, hu, ru⟩ := r.get hy
  have hy' : its.toArray[its.toArray.size - 1]? = some u := by
    show its.toArray[its.length - 1]? = some u
    rw [← Array.getElem?_toList, ← hl]
    exact hu
  refine call_meets F.slot_list_pop ⟨_, e, rfl⟩ F.entry_list_pop (F.args_list_pop_1 _) (MeetsSeq.list_pop_last l its.toArray n u hy' (by rw [List.size_toArray]; omega)) ⟨e, ?_⟩
  refine ⟨y, _, I.lset (its' := its.dropLast) hH e ?_ r.dropLast ?_, ru, q⟩
  · show its.toArray.eraseIdxIfInBounds (its.toArray.size - 1) = its.dropLast.toArray
    rw [List.size_toArray, List.eraseIdxIfInBounds_toArray, erase_last]
  · rw [List.length_dropLast]
    omega

def rPopAt : V → List V → Hp → VK → Prop := fun x vs H Q => ∃ l xs i k y, x = .ref l ∧ vs = [.int i] ∧ H l = some (.lst xs) ∧ -(2 ^ 63) ≤ i ∧ i < 2 ^ 63 ∧ seqIndex? i xs.length = some k ∧ xs[k]? = some y ∧ Q y (upd H l (.lst (xs.eraseIdx k)))
theorem mt_popAt : MtM X "list.pop" rPopAt := by
  intro pins s σ H x vs v us Q I rx rv h
  obtain ⟨l, xs, i, k, y, rfl, rfl, hH, h1, h2, hk, hy, q⟩ := h
  cases rx
  obtain ⟨u, rfl, ru⟩ := rv.one
  obtain ⟨t, rfl⟩ := ru
  obtain ⟨z, its, n, r, hl, e⟩ := I.lstM hH
  obtain ⟨w, hw, rw'⟩ := r.get hy
  refine call_meets F.slot_list_pop ⟨_, e, rfl⟩ F.entry_list_pop (F.args_list_pop_2 _ _)
    (MeetsSeq.list_pop_at l its.toArray n i t k w (fitsIndex_both h1 h2) (by rw [List.size_toArray, ← hl]; exact hk) (by rw [← Array.getElem?_toList]; exact hw) (by rw [List.size_toArray]; omega)) ⟨e, ?_⟩
  refine ⟨y, _, I.lset (its' := its.eraseIdx k) hH e ?_ (r.eraseIdx k) ?_, rw', q⟩
  · show its.toArray.eraseIdxIfInBounds k = (its.eraseIdx k).toArray
    rw [List.eraseIdxIfInBounds_toArray]
  · have := len_erase xs k
    omega

def rReverse : V → List V → Hp → VK → Prop := fun x vs H Q => ∃ l xs, x = .ref l ∧ vs = [] ∧ H l = some (.lst xs) ∧ Q .non (upd H l (.lst xs.reverse))
theorem mt_reverse : MtM X "list.reverse" rReverse := by
  intro pins s σ H x vs v us Q I rx rv h
  obtain ⟨l, xs, rfl, rfl, hH, q⟩ := h
  cases rx
  have hus := rv.zero
  subst hus
  obtain ⟨z, its, n, r, hl, e⟩ := I.lstM hH
  refine call_meets F.slot_list_reverse ⟨_, e, rfl⟩ F.entry_list_reverse (F.args_list_reverse_1 _) (AutoSeq1.list_reverse_list_0 l its.toArray n (by rw [List.size_toArray]; omega)) ⟨e, ?_⟩
  refine ⟨.non, _, I.lset (its' := its.reverse) hH e (by simp) r.reverse ?_, rfl, q⟩
  rw [List.length_reverse]
  omega

def rClear : V → List V → Hp → VK → Prop := fun x vs H Q => ∃ l xs, x = .ref l ∧ vs = [] ∧ H l = some (.lst xs) ∧ Q .non (upd H l (.lst []))
theorem mt_clear : MtM X "list.clear" rClear := by
  intro pins s σ H x vs v us Q I rx rv h
  obtain ⟨l, xs, rfl, rfl, hH, q⟩ := h
  cases rx
  have hus := rv.zero
  subst hus
  obtain ⟨z, its, n, r, hl, e⟩ := I.lstM hH
  refine call_meets F.slot_list_clear ⟨_, e, rfl⟩ F.entry_list_clear (F.args_list_clear_1 _) (AutoSeq1.list_clear_list_0 l its.toArray n (by rw [List.size_toArray]; omega)) ⟨e, ?_⟩
  exact ⟨.non, _, I.lset (its' := []) (ys := []) hH e rfl .nil (Nat.zero_le _), rfl, q⟩

/-! ### list + list, list += list, list * int -/
def rCat : R2 := fun x y H Q => ∃ l b xs zs, x = .ref l ∧ y = .ref b ∧ H l = some (.lst xs) ∧ H b = some (.lst zs) ∧ xs.length + zs.length ≤ sizeLine ∧ ∀ p, H p = none → Q (.ref p) (upd H p (.lst (xs ++ zs)))
theorem op_cat : OpR X (binaryOp .Add) rCat := by
  intro pins s σ H x y v u Q I rx ry h
  obtain ⟨l, b, xs, zs, rfl, rfl, hH, hB, hz, q⟩ := h
  cases rx
  cases ry
  obtain ⟨z, its, n, r, hl, e⟩ := I.lstM hH
  obtain ⟨z2, its2, n2, r2, hl2, e2⟩ := I.lstM hB
  refine PySem.P.add_list e e2 ?_ (by rw [List.size_toArray, List.size_toArray]; omega)
  have ea : its.toArray ++ its2.toArray = (its ++ its2).toArray := by simp
  rw [ea]
  exact ⟨.ref _, _, I.lnew (t' := s.toks) (r.append r2) (by rw [List.length_append]; omega), rfl, q _ I.fresh⟩
/-- a list times an int (a negative one is nothing) -/
def rRep : R2 := fun x y H Q => ∃ l k xs, x = .ref l ∧ y = .int k ∧ H l = some (.lst xs) ∧ -(2 ^ 63) ≤ k ∧ k < 2 ^ 63 ∧ xs.length * k.toNat ≤ sizeLine ∧
  ∀ p, H p = none → Q (.ref p) (upd H p (.lst (List.replicate k.toNat xs).flatten))
theorem len_rep {α : Type} (xs : List α) (k : Nat) : (List.replicate k xs).flatten.length = k * xs.length := by
  induction k with
  | zero => simp
  | succ k ih => rw [List.replicate_succ, List.flatten_cons, List.length_append, ih, Nat.succ_mul, Nat.add_comm]
theorem op_rep : OpR X (binaryOp .Mult) rRep := by
  intro pins s σ H x y v u Q I rx ry h
  obtain ⟨l, k, xs, rfl, rfl, hH, h1, h2, hz, q⟩ := h
  cases rx
  obtain ⟨t, rfl⟩ := ry
  obtain ⟨z, its, n, r, hl, e⟩ := I.lstM hH
  have hlen : its.toArray.size * k.toNat ≤ sizeLine := by rw [List.size_toArray, ← hl]; exact hz
  have hcap : ¬ its.toArray.size * k.toNat > (2 ^ 63 - 1) / 8 := by
    have : (sizeLine : Nat) ≤ (2 ^ 63 - 1) / 8 := by decide
    omega
  have hfit : ¬ (!Builtin.List.listFitsIndex k) = true := by
    rw [fitsIndex_both h1 h2]
    exact Bool.false_ne_true
  have hlong : ¬ Builtin.List.listTooLong (its.toArray.size * k.toNat) = true := by
    rw [notLongL hlen]
    exact Bool.false_ne_true
  have hnew : List.foldl (fun x1 x2 => x1 ++ x2) #[] (List.replicate (if its.toArray.isEmpty = true then 0 else k.toNat) its.toArray) = (List.replicate k.toNat its).flatten.toArray := by
    have f0 : ∀ m : Nat, List.foldl (fun x1 x2 => x1 ++ x2) #[] (List.replicate m its.toArray) = (List.replicate m its).flatten.toArray := fun m => by
      have := foldl_rep its m []
      rw [List.nil_append] at this
      exact this
    rw [f0]
    cases its with
    | nil => simp
    | cons a r' => rw [if_neg (by simp)]
  refine wpAny_binaryOp_repeat_ref (T := "list") (U := "int") (by decide) ⟨_, e, rfl⟩ (fun s' => typeIs_int s' k t) noFill_list_mul F.fills_int_mul F.slot_int_rmul repeat_list F.slot_int_index.lookup
    (call_meets F.slot_int_rmul (typeIs_int s k t) F.entry_int_rmul (F.args_int_rmul_2 _ _) (int___rmul___int_list k t l its.toArray n)
      ⟨e, rfl, ⟨_, e, rfl⟩, call_meets F.slot_list_mul ⟨_, e, rfl⟩ F.entry_list_mul (F.args_list_mul_2 _ _) (AutoListH.list___mul___list_int_3 l its.toArray n k t hfit hcap hlong) ⟨e, ?_⟩⟩)
  rw [hnew]
  exact ⟨.ref _, _, I.lnew (t' := s.toks) (r.rep k.toNat) (by rw [len_rep, Nat.mul_comm]; exact hz), rfl, q _ I.fresh⟩

/-! ### del xs[i] -/
theorem del_list {pins : List (Addr × Obj)} {s : Shared} {σ : St} {H : Hp} {l : Addr} {xs : List V} {i : Int} {t : Tok} {k : Nat} {Q : Unit → Shared → Prop} (I : Inv X pins σ H s) (hH : H l = some (.lst xs))
    (h1 : -(2 ^ 63) ≤ i) (h2 : i < 2 ^ 63) (hk : seqIndex? i xs.length = some k) (h : ∀ s', Inv X pins σ (upd H l (.lst (xs.eraseIdx k))) s' → Q () s') :
    wpAny (model X.prog X.w) X.A (delItem (.ref l) (.int i t)) Q X.xe s := by
  obtain ⟨z, its, n, r, hl, e⟩ := I.lstM hH
  refine PySem.P.delItem_list (k := k) e (fitsIndex_both h1 h2) (by rw [List.size_toArray, ← hl]; exact hk) (h _ ?_) (by rw [List.size_toArray]; omega)
  refine I.lset (its' := its.eraseIdx k) (t' := s.toks) hH e ?_ (r.eraseIdx k) ?_
  · show its.toArray.eraseIdxIfInBounds k = (its.eraseIdx k).toArray
    rw [List.eraseIdxIfInBounds_toArray]
  · have := len_erase xs k
    omega
end

/-! ### xs[a:b] = ys -/
section
variable {prog : Program} {w : World} {A : Around} {E : Value → Shared → Prop} {s : Shared}
theorem splice_eq (its its2 : List Value) (a c : Nat) : its.toArray.extract 0 a ++ its2.toArray ++ its.toArray.extract c its.toArray.size = (its.take a ++ its2 ++ its.drop c).toArray := by
  apply Array.toList_inj.mp
  first
    | (simp
       exact List.take_of_length_le (by simp))
    | simp [List.take_of_length_le]
    | simp
theorem bounds_run {a c n : Nat} (hac : a ≤ c) (hc : c ≤ n) : sliceBounds (some (a : Int)) (some (c : Int)) none n = ((a : Int), (c : Int), 1) := by
  simp only [sliceBounds, Option.getD_none]
  have h1 : ¬ ((a : Int) < 0) := by omega
  have h2 : ¬ ((c : Int) < 0) := by omega
  simp only [h1, h2, if_false, show (1 : Int) > 0 by decide, if_true]
  congr 1
  · omega
  · congr 1; omega
set_option maxRecDepth 100000 in
/-- list.__setitem__ with a slice of step one and another list -/
theorem setItem_slice {l b sl : Addr} {items new : Array Value} {n n2 : Nat} {vl vu : Value} {a c : Nat} {Q : Unit → Shared → Prop}
    (e : s.heap.get? l = some { cls := .type "list", data := .seq items n }) (e2 : s.heap.get? b = some { cls := .type "list", data := .seq new n2 }) (hne : l ≠ b)
    (hs : s.heap.IsSliceOf sl vl vu .none) (pl : IsPart vl (some (a : Int))) (pu : IsPart vu (some (c : Int))) (hac : a ≤ c) (hc : c ≤ items.size)
    (hsz : items.size + new.size ≤ sizeLine) (h : Q () { s with heap := s.heap.update l (Obj.mapSeq fun xs => xs.extract 0 a ++ new ++ xs.extract c xs.size) }) :
    wpAny (model prog w) A (setItem (.ref l) (.ref sl) (.ref b)) Q E s := by
  have hl : s.heap.IsList l items := PySem.IsL.isList e
  have hb : s.heap.IsList b new := PySem.IsL.isList e2
  obtain ⟨os, hos, hcs, hds⟩ := id hs
  have hTs : s.TypeIs (.ref sl) "slice" := ⟨os, hos, hcs⟩
  have hstep : ¬ ((rawPart none == rawInt 0) = true) := Bool.false_ne_true
  have hsame : Builtin.List.listSameRef (.ref l) (.ref b) = false := by
    unfold Builtin.List.listSameRef
    exact beq_eq_false_iff_ne.mpr hne
  have hmax : (max (a : Int) (c : Int)).toNat = c := by omega
  have hz' : ((fun xs : Array Value => xs.extract 0 a ++ new ++ xs.extract c xs.size) items).size ≤ sizeLine + 1 := by
    simp only [Array.size_append, Array.size_extract]
    omega
  unfold setItem
  try with_reducible refine wpAny_holding ?_
  first | refine wpAny_bind (wpAny_pure ?_) | skip
  refine wpAny_bind (wpAny_sequenceKey hl.typeIs (by decide) ?_)
  refine wpAny_bind (wpAny_callSpecial?_slot (name := Str.ofString "__setitem__") hl.typeIs slot_list_setitem
    (wpAny_call_entry slot_list_setitem hl.typeIs entry_list_setitem ?_ (args_list_setitem _ _ _)))
  show wpAny _ _ (Builtin.List.listSubscript? (.ref sl) >>= _) _ _ s
  refine wpAny_bind ?_
  unfold Builtin.List.listSubscript?
  refine wpAny_bind (wpAny_specialOf hTs slice_no_index ?_)
  simp only [Option.isNone_none, if_true]
  refine wpAny_pure ?_
  show wpAny _ _ (typeOf (.ref sl) >>= _) _ _ s
  refine wpAny_bind (wpAny_typeOf hTs ?_)
  first
    | rw [if_neg (by decide)]
    | refine PySem.W.KFB.if_not (by decide) ?_
  rw [listSliceParts_eq]
  refine wpAny_bind (wpAny_bind (wpAny_field hos hds (x := .none) rfl (wpAny_bind (wpAny_listPart .none ?_))))
  rw [if_neg hstep]
  refine wpAny_bind (wpAny_field hos hds (x := vl) rfl (wpAny_bind (wpAny_listPart pl ?_)))
  refine wpAny_bind (wpAny_field hos hds (x := vu) rfl (wpAny_bind (wpAny_listPart pu (wpAny_pure ?_))))
  first
    | simp only [hsame, Bool.false_eq_true, if_false]
    | refine PySem.W.KFB.if_not hsame ?_
    | (dsimp only
       rw [if_neg (by rw [hsame]; exact Bool.false_ne_true)])
  refine wpAny_bind (m := Builtin.List.listAllItems (.ref b) "must assign iterable to extended slice") ?_
  unfold Builtin.List.listAllItems
  refine wpAny_bind (wpAny_typeOf hb.typeIs ?_)
  first
    | refine PySem.W.KFB.if_so (by decide) ?_
    | rw [if_pos (by decide)]
    | simp only [beq_self_eq_true, Bool.true_or, if_true]
  unfold Builtin.List.listItems
  refine wpAny_bind (wpAny_seqItems e2 rfl (wpAny_pure ?_))
  refine wpAny_bind (wpAny_bind (wpAny_seqItems e rfl (wpAny_pure ?_)))
  refine wpAny_bind (wpAny_of_eq ((sliceIndices_raw (some (a : Int)) (some (c : Int)) none items.size (by simp)).trans (congrArg (pure : Int × Int × Int → Sem (Int × Int × Int)) (bounds_run hac hc))) ?_)
  show wpAny _ _ (if ((1 : Int) == 1) = true then _ else _) _ _ s
  rw [if_pos (by decide)]
  refine wpAny_bind (wpAny_rule ?_)
  first
    | simp only [notLongL hsz, Bool.false_eq_true, if_false]
    | refine PySem.W.KFB.if_not (notLongL hsz) ?_
  first | refine wpAny_bind (wpAny_pure ?_) | skip
  show wpAny _ _ (updateSeq l (fun xs => xs.extract 0 ((a : Int)).toNat ++ new ++ xs.extract (max (a : Int) (c : Int)).toNat xs.size) >>= _) _ _ s
  rw [hmax, Int.toNat_natCast]
  refine wpAny_bind (wpAny_updateSeq (hz := Nat.le_trans (Nat.le_add_right _ _) hsz) (_hz' := hz') e rfl ?_)
  refine wpAny_bind (wpAny_letGo ?_)
  first
    | exact wpAny_bind (wpAny_pure (wpAny_pure ⟨.none, rfl, wpAny_pure h⟩))
    | exact wpAny_pure ⟨.none, rfl, wpAny_pure h⟩
end

section
variable {X : Cx}
/-- xs[a:c] = ys of another list, at the value level: sl is the slice object that was just made -/
theorem set_slice {pins : List (Addr × Obj)} {s : Shared} {σ : St} {H : Hp} {l b sl : Addr} {xs ys : List V} {a c : Int} {vl vu : Value} {Q : Unit → Shared → Prop} (I : Inv X pins σ H s)
    (hH : H l = some (.lst xs)) (hB : H b = some (.lst ys)) (hne : l ≠ b) (hs : s.heap.IsSliceOf sl vl vu .none) (ra : RelV (.int a) vl) (rc : RelV (.int c) vu) (h0 : 0 ≤ a) (hac : a ≤ c) (hc : c ≤ xs.length)
    (hz : xs.length + ys.length ≤ sizeLine) (h : ∀ s', Inv X pins σ (upd H l (.lst (xs.take a.toNat ++ ys ++ xs.drop c.toNat))) s' → Q () s') :
    wpAny (model X.prog X.w) X.A (setItem (.ref l) (.ref sl) (.ref b)) Q X.xe s := by
  obtain ⟨ta, rfl⟩ := ra
  obtain ⟨tc, rfl⟩ := rc
  obtain ⟨z, its, n, r, hl, e⟩ := I.lstM hH
  obtain ⟨z2, its2, n2, r2, hl2, e2⟩ := I.lstM hB
  obtain ⟨a', rfl⟩ := Int.eq_ofNat_of_zero_le h0
  obtain ⟨c', rfl⟩ := Int.eq_ofNat_of_zero_le (Int.le_trans h0 hac)
  simp only [Int.toNat_natCast] at h
  refine setItem_slice (a := a') (c := c') e e2 hne hs (.int _ _) (.int _ _) (by omega) (by rw [List.size_toArray]; omega) (by rw [List.size_toArray, List.size_toArray]; omega) (h _ ?_)
  refine I.lset (its' := its.take a' ++ its2 ++ its.drop c') (t' := s.toks) hH e ?_ (Vals.append (Vals.append (r.take _) r2) (r.drop _)) ?_
  · exact splice_eq its its2 a' c'
  · rw [List.length_append, List.length_append, List.length_take, List.length_drop]
    omega
end
end L2

namespace Att
open PySem PySem.W PySem.Calls PyProof.Rows

/-! ### the script -/
theorem ints_of_wellAll {P : Params} {h : Heap} : ∀ (ns : List Int) (vs : List Value), WellAll P h vs (ns.map WData.int) → IntsAre vs ns := by
  intro ns
  induction ns with
  | nil =>
    intro vs w
    rw [List.map_nil] at w
    cases w
    exact .nil
  | cons n ns ih =>
    intro vs w
    rw [List.map_cons] at w
    cases w with
    | cons a b =>
      cases a
      exact .cons _ _ (ih _ b)

theorem script_of {l : OpenLaw} {n : Nat} (hn : l.most = some n) {P : Params} {h : Heap} {args : List WData} {vals : List Value}
    (hpre : l.row.toRowW.claim.pre args = true) (hwl : WellAll P h vals args) :
    ∃ a vs ns, vals = [Value.ref a] ∧ args = [WData.list (ns.map WData.int)] ∧ h.get? a = some { cls := .type "list", data := .seq vs.toArray } ∧ IntsAre vs ns ∧ ns.length ≤ n := by
  have hsh : WShape.hasAll [] args [.list .int] = true := (pre_splitW hpre).1
  have hc : l.pre.holds [] { args := args } = true := (pre_splitW hpre).2
  obtain ⟨d, r, rfl, h1, h2⟩ := hasAllW_cons hsh
  obtain rfl := hasAllW_nil h2
  obtain ⟨xs, rfl, h3⟩ := hasW_list h1
  obtain ⟨ns, rfl⟩ := items_int h3
  have hlen : ns.length ≤ n := by
    unfold OpenLaw.pre at hc
    have h4 : (WTm.not (.lt (.lit (.int (n : Int))) (.len (.arg 0)))).holds [] { args := [.list (ns.map .int)] } = true := by
      have h4 := (holds_andW hc).1
      rw [hn] at h4
      exact h4
    have h5 := condW_of h4 (w_not (w_lt w_lit (w_len_list (w_arg rfl))))
    rw [List.length_map] at h5
    refine Nat.le_of_not_lt fun q => ?_
    have q' : (n : Int) < ((ns.length : Nat) : Int) := by omega
    first
      | (rw [decide_eq_true q'] at h5; exact absurd h5 (by decide))
      | (simp at h5; omega)
  cases hwl with
  | cons w1 w2 =>
    cases w2
    cases w1 with
    | list ho hall => exact ⟨_, _, ns, rfl, rfl, ho, ints_of_wellAll ns _ hall, hlen⟩

theorem post_true (l : OpenLaw) (args : List WData) : l.row.toRowW.claim.post args (.bool true) args = true :=
  postW_of (r := l.row.toRowW) (X := (true == true))
    (show WShape.has [] (.bool true) .bool = true by first | rfl | decide | simp [WShape.has, WShape.arms, WShape.armsAll])
    (show (WTm.eq .res (.lit (.bool true))).value [] { args := args, res := some (.bool true), after := args } = some (.bool (true == true)) from w_eq_bool (w_res rfl) w_lit) rfl

/-! ### the attachment: holds_open's last premise (the goal 'hc' behind k_head) from a wpAny of the law's body -/
theorem attach {l : OpenLaw} {n : Nat} {q : Program} {loose : List Str} {XP : (Str → Option Value) → Heap → Prop} {YP : World → Heap → Prop} {d : DefRec} {x : Str}
    (hn : l.most = some n) (hdf : d.params.defaults = [])
    (hbind : ∀ pm cd doc v : Value, bindArgs (docDef d.name d.params d.body d.scope pm cd doc) ⟨[v], []⟩ = pure [(x, v)])
    (hx : d.scope.names.lookup x = some .local ∨ d.scope.names.lookup x = some .cell)
    (hk : d.scope.kind = .function) (hco : d.scope.isCoroutine = false) (hgen : d.scope.isGenerator = false)
    (body : ∀ (w : World) (s₀ s₁ s : Shared) (mg mb : Str → Option Value) (fa : Addr) (o : Obj) (pm cd doc : Value) (a : Addr) (vs : List Value) (ns : List Int),
      Ground q loose [] XP w s₀ mg mb s₁.heap → YP w s₁.heap →
      s₁.heap.get? fa = some o → o.data = .func (docDef d.name d.params d.body d.scope pm cd doc) → s₁.heap.CodeRec cd d.name → mg d.name = some (.ref fa) →
      s₁.heap.get? a = some { cls := .type "list", data := .seq vs.toArray } → IntsAre vs ns → ns.length ≤ n →
      s.gens = #[] → s.os = s₁.os →
      Fr s₁.heap s₁.heap.objs.size s.heap (bindL (envOfC d.name d.scope s₁.heap.objs.size fa cd).kindOf [(x, .ref a)] fun _ => none) →
      Cl s₁.heap.objs.size (cellsFrom (s₁.heap.objs.size + 1) d.scope.names []) s.heap (bindC (envOfC d.name d.scope s₁.heap.objs.size fa cd).kindOf [(x, .ref a)] fun _ => none) →
      wpAny (model l.prog w) (callerA.deeper (envOfC d.name d.scope s₁.heap.objs.size fa cd)) (execs d.body (envOfC d.name d.scope s₁.heap.objs.size fa cd))
        (fun f s' => f = .ret (.bool true) ∧ OldK s₁.heap s'.heap ∧ s'.os = s₁.os ∧ AllBare s'.gens) (fun _ _ => False) s) :
    WalkO q loose XP YP l.row.toRowW d [] (fun f vs => PySem.call f vs) := by
  intro w s₀ s₁ mg mb G Y fa o pm cd doc dV kV ho hd hcd hD hmg hg args vals as hpre hlay hrd hwl hlo
  obtain rfl : dV = .none := Dflts.none hD hdf
  obtain rfl : kV = .none := Dflts.noKw hD
  obtain ⟨a, vs, ns, rfl, rfl, hobj, hints, hlen⟩ := script_of hn hpre hwl
  refine enter_call ?_
  refine call_cells_ret (o := o) (by rw [depth_caller]; decide) ho (fd_plain hd) G.T.nolimit hcd (hbind pm cd doc (.ref a)) (fun y hy => ?_) (fun h₁ tk F X => ?_) hco hgen hk
  · obtain rfl : y = (x, Value.ref a) := List.mem_singleton.mp hy
    rcases hx with e | e
    · exact .inl e
    · exact .inr ⟨e, cellsFrom_some _ _ _ (.inl e)⟩
  · refine wpAny_mono (body w s₀ s₁ { s₁ with heap := h₁, toks := tk } mg mb fa o pm cd doc a vs ns G Y ho (fd_plain hd) hcd hmg hobj hints hlen hg rfl F X) (fun f s' hq => ?_) (fun _ _ hq => hq)
    obtain ⟨rfl, h2, h3, h4⟩ := hq
    exact ⟨.inl ⟨.bool true, .bool true, [], rfl, fun _ => rfl, .bool true, post_true l _, fun _ => ⟨List.Pairwise.nil, fun _ hm => (nomatch hm)⟩⟩, h2, h3, h4⟩

/-- the same from a codeAny of the CALL (for a layer whose function contracts speak of calls) -/
theorem attach_call {l : OpenLaw} {n : Nat} {q : Program} {loose : List Str} {XP : (Str → Option Value) → Heap → Prop} {YP : World → Heap → Prop} {d : DefRec}
    (hn : l.most = some n) (hdf : d.params.defaults = [])
    (call : ∀ (w : World) (s₀ s₁ : Shared) (mg mb : Str → Option Value) (fa : Addr) (o : Obj) (pm cd doc : Value) (a : Addr) (vs : List Value) (ns : List Int),
      Ground q loose [] XP w s₀ mg mb s₁.heap → YP w s₁.heap →
      s₁.heap.get? fa = some o → o.data = .func (docDef d.name d.params d.body d.scope pm cd doc) → s₁.heap.CodeRec cd d.name → mg d.name = some (.ref fa) →
      s₁.heap.get? a = some { cls := .type "list", data := .seq vs.toArray } → IntsAre vs ns → ns.length ≤ n → s₁.gens = #[] →
      codeAny (model l.prog w) callerA (.call (.ref fa) ⟨[.ref a], []⟩) (fun r s' => r = .ok (.ret (.bool true)) ∧ OldK s₁.heap s'.heap ∧ s'.os = s₁.os ∧ AllBare s'.gens) s₁) :
    WalkO q loose XP YP l.row.toRowW d [] (fun f vs => PySem.call f vs) := by
  intro w s₀ s₁ mg mb G Y fa o pm cd doc dV kV ho hd hcd hD hmg hg args vals as hpre hlay hrd hwl hlo
  obtain rfl : dV = .none := Dflts.none hD hdf
  obtain rfl : kV = .none := Dflts.noKw hD
  obtain ⟨a, vs, ns, rfl, rfl, hobj, hints, hlen⟩ := script_of hn hpre hwl
  refine enter_call (codeAny_mono (call w s₀ s₁ mg mb fa o pm cd doc a vs ns G Y ho (fd_plain hd) hcd hmg hobj hints hlen hg) fun r s' hq => ?_)
  obtain ⟨rfl, h2, h3, h4⟩ := hq
  exact ⟨.inl ⟨.bool true, .bool true, [], rfl, fun _ => rfl, .bool true, post_true l _, fun _ => ⟨List.Pairwise.nil, fun _ hm => (nomatch hm)⟩⟩, h2, h3, h4⟩

/-- the same where the top left finished generators (o_head chose holds_openN): nothing may have changed at all and no generator may be left -/
theorem attachN {l : OpenLaw} {n : Nat} {q : Program} {loose : List Str} {XP : (Str → Option Value) → Heap → Prop} {YP : World → Heap → Prop} {d : DefRec} {x : Str}
    (hn : l.most = some n) (hdf : d.params.defaults = [])
    (hbind : ∀ pm cd doc v : Value, bindArgs (docDef d.name d.params d.body d.scope pm cd doc) ⟨[v], []⟩ = pure [(x, v)])
    (hx : d.scope.names.lookup x = some .local ∨ d.scope.names.lookup x = some .cell)
    (hk : d.scope.kind = .function) (hco : d.scope.isCoroutine = false) (hgen : d.scope.isGenerator = false)
    (body : ∀ (w : World) (s₀ s₁ s : Shared) (mg mb : Str → Option Value) (fa : Addr) (o : Obj) (pm cd doc : Value) (a : Addr) (vs : List Value) (ns : List Int),
      Ground q loose [] XP w s₀ mg mb s₁.heap → YP w s₁.heap →
      s₁.heap.get? fa = some o → o.data = .func (docDef d.name d.params d.body d.scope pm cd doc) → s₁.heap.CodeRec cd d.name → mg d.name = some (.ref fa) →
      s₁.heap.get? a = some { cls := .type "list", data := .seq vs.toArray } → IntsAre vs ns → ns.length ≤ n →
      s.gens = #[] → s.os = s₁.os →
      Fr s₁.heap s₁.heap.objs.size s.heap (bindL (envOfC d.name d.scope s₁.heap.objs.size fa cd).kindOf [(x, .ref a)] fun _ => none) →
      Cl s₁.heap.objs.size (cellsFrom (s₁.heap.objs.size + 1) d.scope.names []) s.heap (bindC (envOfC d.name d.scope s₁.heap.objs.size fa cd).kindOf [(x, .ref a)] fun _ => none) →
      wpAny (model l.prog w) (callerA.deeper (envOfC d.name d.scope s₁.heap.objs.size fa cd)) (execs d.body (envOfC d.name d.scope s₁.heap.objs.size fa cd))
        (fun f s' => f = .ret (.bool true) ∧ (∀ b o, s₁.heap.get? b = some o → s'.heap.get? b = some o) ∧ s'.os = s₁.os ∧ s'.gens = #[]) (fun _ _ => False) s) :
    WalkN q loose XP YP l.row.toRowW d [] (fun f vs => PySem.call f vs) := by
  intro w s₀ s₁ mg mb G Y fa o pm cd doc dV kV ho hd hcd hD hmg hg args vals as hpre hlay hrd hwl hlo
  obtain rfl : dV = .none := Dflts.none hD hdf
  obtain rfl : kV = .none := Dflts.noKw hD
  obtain ⟨a, vs, ns, rfl, rfl, hobj, hints, hlen⟩ := script_of hn hpre hwl
  refine enter_callW ?_
  refine call_cells_ret (o := o) (by rw [depth_caller]; decide) ho (fd_plain hd) G.T.nolimit hcd (hbind pm cd doc (.ref a)) (fun y hy => ?_) (fun h₁ tk F X => ?_) hco hgen hk
  · obtain rfl : y = (x, Value.ref a) := List.mem_singleton.mp hy
    rcases hx with e | e
    · exact .inl e
    · exact .inr ⟨e, cellsFrom_some _ _ _ (.inl e)⟩
  · refine wpAny_mono (body w s₀ s₁ { s₁ with heap := h₁, toks := tk } mg mb fa o pm cd doc a vs ns G Y ho (fd_plain hd) hcd hmg hobj hints hlen hg rfl F X) (fun f s' hq => ?_) (fun _ _ hq => hq)
    obtain ⟨rfl, h2, h3, h4⟩ := hq
    exact ⟨.inl ⟨.bool true, .bool true, [], rfl, fun _ => rfl, .bool true, post_true l _, fun _ => ⟨List.Pairwise.nil, fun _ hm => (nomatch hm)⟩⟩, h2, h3, h4⟩

/-! ### rules over ANY heap (no ledger) from facts about the written part K: the library's own take a ledger (News) for what they write -/
section
variable {prog : Program} {w : World} {A : Around} {E : Value → Shared → Prop} {s : Shared} {K : Frag}

/-- a def of the module, or a method (qual 'C.m'), entered: the frame is the next address; cells behind it -/
theorem call_fn {R : Result → Shared → Prop} {name qual : Str} {params : Arguments} {body : List Stmt} {scope : Scope} {dV kV doc pm cdv ct oc : Value} {an od : Option Addr} {osl : Array (Option Value)} {f : Addr} {args : Args} {binds : List (Str × Value)}
    (X : K.In s.heap) (hlim : s.heap.NoLimit) (ho : K.lookup f = some ⟨oc, od, .func (fnOf name qual params body scope dV kV doc pm an cdv ct), osl⟩) (hcd : codeIn K cdv qual = true) (hroom : A.depth < recursionLimit)
    (hbind : BindsTo s (fnOf name qual params body scope dV kV doc pm an cdv ct) args binds)
    (hkind : (binds.all fun y => scope.names.lookup y.1 == some .local || scope.names.lookup y.1 == some .cell) = true)
    (h : ∀ s₁, InCallC s s.heap.objs.size (bindL (envOfC qual scope s.heap.objs.size f cdv).kindOf binds fun _ => none) (cellsFrom (s.heap.objs.size + 1) scope.names [])
        (bindC (envOfC qual scope s.heap.objs.size f cdv).kindOf binds fun _ => none) s₁ →
      wpAny (model prog w) (A.deeper (envOfC qual scope s.heap.objs.size f cdv)) (execs body (envOfC qual scope s.heap.objs.size f cdv))
        (fun fl s' => R (.ok (.ret (match fl with | .ret v => v | _ => .none))) s')
        (fun e s' => wpAny (model prog w) (A.deeper (envOfC qual scope s.heap.objs.size f cdv)) (leaving (envOfC qual scope s.heap.objs.size f cdv) e) (fun _ s'' => R (.error e) s'') (fun e' s'' => R (.error e') s'') s') s₁)
    (hco : scope.isCoroutine = false) (hgen : scope.isGenerator = false) (hk : scope.kind = .function) : codeAny (model prog w) A (.call (.ref f) args) R s := by
  refine codeAny_call_function hroom (X _ _ ho) rfl hco hgen rfl (codeRec_of X hcd) (hbind _ _ _ _ ?_)
  refine wpAny_newFunctionEnv_cells hk (kindsX hkind _) fun env he s₁ x => ?_
  subst he
  exact ⟨hlim.keeps x.toInCall.keep, codeAny_func (h s₁ x)⟩

/-- C(..): dict at size, instance at size + 1, then __init__ -/
theorem make_obj {R : Result → Shared → Prop} {C fI : Addr} {rest : List Value} {kw : List (Str × Value)}
    (X : K.In s.heap) (hm : makesIn K C = true) (hi : findIn K (.ref C) "__init__" = some (some (.ref fI))) (hf : isFn K (.ref fI) = true)
    (h : codeAny (model prog w) (A.under (.builtin "type.__call__" ⟨.ref C :: rest, kw⟩)) (.call (.ref fI) ⟨.ref (s.heap.objs.size + 1) :: rest, kw⟩) (InitBack (s.heap.objs.size + 1) R)
      { s with heap := (s.heap.push emptyDict).push (instObj C s.heap.objs.size) }) : codeAny (model prog w) A (.call (.ref C) ⟨rest, kw⟩) R s := by
  obtain ⟨hh, g, d, t, os⟩ := s
  exact make_core (makes_of X hm) (looks_findIn X hi) (fun self => bind_fn X self (beq_iff_eq.mp hf)) (.inl rfl) h

/-- x.name where the instance's dict holds the name and the class does not -/
theorem get_field {x C : Addr} {ox : Obj} {es : List DictEntry} {n : Nat} {name : Str} {expr : Bool} {v : Value} {Q : Value → Shared → Prop}
    (X : K.In s.heap) (I : PySem.W.InstAt s.heap x ox C (some (dictOf es n))) (hg : plainGet K C name = true) (hh : hasDictIn K C = true) (ha : findIn K (.ref C) name = some none)
    (hl : getL name es = some (some v)) (hv : handedIn v = true) (h : Q v { s with toks := s.toks + 1 }) : wpAny (model prog w) A (getAttr (.ref x) name expr) Q E s :=
  get_value X I (plainGet_of hg).1 (findObj_own hh ha rfl hl) hv h

/-- x.m(..): the method found in the class -/
theorem get_method {x C f : Addr} {ox : Obj} {es : List DictEntry} {n : Nat} {name : Str} {pl : Sem Bool} {Q : Value × List Value → Shared → Prop}
    (X : K.In s.heap) (I : PySem.W.InstAt s.heap x ox C (some (dictOf es n))) (hg : plainGet K C name = true) (hf : findIn K (.ref C) name = some (some (.ref f))) (ht : isFn K (.ref f) = true)
    (hl : getL name es = some none) (h : Q (.ref f, [.ref x]) s) : wpAny (model prog w) A (getMethod (.ref x) name pl) Q E s :=
  method_fn X I (plainGet_of hg).1 (plainGet_of hg).2 hf (beq_iff_eq.mp ht) (by show (lookIn name (dictOf es n)).map _ = _; rw [lookIn_dict, hl]; rfl) h

/-! the whole heap as the ledger: makes every rule that writes through a ledger a rule over any heap -/
def noObjs (h : Heap) : Heap := { h with objs := #[] }
theorem noObjs_get (h : Heap) (b : Addr) : (noObjs h).get? b = none := by
  cases e : (noObjs h).get? b with
  | none => rfl
  | some o => exact absurd (Heap.lt_size e) (Nat.not_lt_zero _)
def ledger (h : Heap) (L d : Addr) : List (Addr × Obj) := (List.range h.objs.size).filterMap fun a => if a = L ∨ a = d then none else (h.get? a).map fun o => (a, o)
theorem mem_ledger {h : Heap} {L d a : Addr} {o : Obj} : (a, o) ∈ ledger h L d ↔ a ≠ L ∧ a ≠ d ∧ h.get? a = some o := by
  unfold ledger
  rw [List.mem_filterMap]
  constructor
  · rintro ⟨b, _, e⟩
    split at e
    · cases e
    · rename_i hb
      obtain ⟨o', ho, e'⟩ := Option.map_eq_some_iff.mp e
      cases e'
      exact ⟨fun q => hb (.inl q), fun q => hb (.inr q), ho⟩
  · rintro ⟨n1, n2, ho⟩
    refine ⟨a, List.mem_range.mpr (Heap.lt_size ho), ?_⟩
    rw [if_neg (show ¬ (a = L ∨ a = d) from fun q => q.elim n1 n2), ho] <;> rfl
theorem news_ledger {h : Heap} {L d : Addr} {od : Obj} (hne : d ≠ L) (ho : h.get? d = some od) : News (noObjs h) L h ([] ++ (d, od) :: ledger h L d) := by
  rintro ⟨a, o⟩ hp
  rcases List.mem_cons.mp hp with e | hp
  · cases e
    exact ⟨ho, hne, noObjs_get _ _⟩
  · obtain ⟨n1, n2, e⟩ := mem_ledger.mp hp
    exact ⟨e, n1, noObjs_get _ _⟩
theorem fr_all {h : Heap} {L : Addr} {m : Str → Option Value} (n : h.Ns L m) : Fr (noObjs h) L h m :=
  ⟨n, fun b o e => (by rw [noObjs_get] at e; cases e), Nat.zero_le _⟩
/-- Upd of the head entry (for append_K, setItem_K ..) -/
theorem upd_ledger {h : Heap} {L d : Addr} {o o' : Obj} : Upd d o o' ((d, o) :: ledger h L d) ((d, o') :: ledger h L d) :=
  .head fun ⟨_, _⟩ hp => (mem_ledger.mp hp).2.1

/-- x.name = v over any heap: L is any namespace of the heap (the frame's, say): its map stays, its object is not told; all else but the dict stays -/
theorem set_field {x C dx L : Addr} {ox : Obj} {m : Str → Option Value} {es es' : List DictEntry} {n n' : Nat} {name : Str} {v : Value} {Q : Unit → Shared → Prop}
    (X : K.In s.heap) (I : PySem.W.InstAt s.heap x ox C (some (dictOf es n))) (hd : ox.dict = some dx) (hL : s.heap.Ns L m) (hne : dx ≠ L)
    (hs : findIn K (.ref C) "__setattr__" = some (some (.builtin "object.__setattr__"))) (hp : plainOver K C = true) (ht : takerIn K C name = some none) (hh : hasDictIn K C = true) (hl : (getL name es).isSome = true)
    (e : (putL name (PyData.keyHash w.params name) (.str name (s.toks + 1)) v es, putN name es n) = (es', n')) (hz : es'.length ≤ 1000)
    (h : ∀ h' : Heap, h'.Ns L m → h'.get? dx = some (dictOf es' n') → (∀ b o, b ≠ dx → b ≠ L → s.heap.get? b = some o → h'.get? b = some o) → Q () { s with heap := h', toks := s.toks + 2 }) :
    wpAny (model prog w) A (setAttr (.ref x) name v) Q E s := by
  obtain ⟨e1, e2⟩ := Prod.mk.inj e
  have hdx : s.heap.get? dx = some (dictOf es n) := by
    have := I.dict
    rw [hd] at this
    exact this
  refine set_plain X I hs (osa_dict (s := { s with toks := s.toks + 1 }) (h₀ := noObjs s.heap) (L := L) (m := m) (od := dictOf es n) (od' := dictOf es' n') (es := es') (n := n') (pre := []) (post := ledger s.heap L dx)
    (fr_all hL) (news_ledger hne hdx) X I hd hp ht hh hl (fun _ q => nomatch q) (fun ⟨_, _⟩ q => (mem_ledger.mp q).2.1) (by rw [putName_dict, e1, e2]) rfl hz fun h' F' N' => ?_)
  exact h h' F'.ns (N'.get (List.Mem.head _)) fun b o n1 n2 ho => N'.get (List.Mem.tail _ (mem_ledger.mpr ⟨n2, n1, ho⟩))
end
end Att

namespace L2
open PySem PySem.Spec PyProof.Rows

theorem vals_ints : ∀ {vs : List Value} {ns : List Int}, IntsAre vs ns → Vals (ns.map V.int) vs
  | _, _, .nil => .nil
  | _, _, .cons n t h => .cons ⟨t, rfl⟩ (vals_ints h)

/-- nothing is tracked but the script, known to the object (or it is an object of the module) -/
def Only (H : Hp) : Prop := ∀ b, H b = none ∨ ∃ o xs, H b = some (.frz o (.lst xs))

/-- THE HEAD: the law's promise, at the heap behind the top. F, the promise of the law's def, may use that base is part of the heap (so K.In base, base.Ns mainGlobals mg stand in Mod) -/
theorem law_call {P : Program} {w : World} {K : PySem.W.Frag} {mg mb : Str → Option Value} {CX : CXT} {k : Nat} {fa a : Addr} {fd : FuncData} {x : Str} {sp : Sp} {s₁ : Shared} {vs : List Value} {ns : List Int}
    (KX : K.In s₁.heap) (hns : s₁.heap.Ns mainGlobals mg) (hb : s₁.heap.Ns builtinsNs mb) (hbb : ∀ x : Str, x ≠ "__name__" → mb x = bootBuiltins x) (hlim : s₁.heap.NoLimit) (hg : s₁.gens = #[])
    (ha : s₁.heap.get? a = some { cls := .type "list", data := .seq vs.toArray }) (hi : IntsAre vs ns) (hl : ns.length ≤ sizeLine) (hr : Room k callerA)
    (F : ∀ base : Heap, K.In base → base.Ns mainGlobals mg → FnOk P w K mg base CX k fa fd [x] sp) (hbind : ∀ (s : Shared) (u : Value), BindsTo s fd ⟨[u], []⟩ [(x, u)])
    (hsp : ∀ H : Hp, Only H → SqL K H a (ns.map V.int) → sp [.ref a] H (fun v _ => v = .bl true) fun _ _ _ => False)
    (hCX : ∀ H e s', CX [] H s₁ (fun _ _ _ => False) e s' → False) :
    codeAny (model P w) callerA (.call (.ref fa) ⟨[.ref a], []⟩) (fun r s' => r = .ok (.ret (.bool true)) ∧ OldK s₁.heap s'.heap ∧ s'.os = s₁.os ∧ AllBare s'.gens) s₁ := by
  have rv := vals_ints hi
  have lenV := hi.length
  -- from an abstract heap in which nothing but the script may be tracked
  have core : ∀ H : Hp, Only H → SqL K H a (ns.map V.int) → HOk P w H s₁.heap → (∀ b, H b ≠ none → b = a) → (H a ≠ none → K.lookup a = none) →
      codeAny (model P w) callerA (.call (.ref fa) ⟨[.ref a], []⟩) (fun r s' => r = .ok (.ret (.bool true)) ∧ OldK s₁.heap s'.heap ∧ s'.os = s₁.os ∧ AllBare s'.gens) s₁ := by
    intro H hO hS hok hA hK
    have base_of : ∀ {b : Addr} {o : Obj}, s₁.heap.get? b = some o → H b = none → (hidT s₁.heap H).get? b = some o := fun e n => hidT_get e n
    have noA : ∀ {b : Addr} {o : Obj} {es : Array DictEntry} {ep : Nat}, s₁.heap.get? b = some o → o.data = .dict es ep → H b = none := fun {b o es ep} e d => by
      cases q : H b with
      | none => rfl
      | some u =>
        have e' : b = a := hA b (by rw [q]; simp)
        subst e'
        rw [ha] at e; cases e
        have d' : Data.seq vs.toArray _ = Data.dict es ep := d
        cases d'
    have nsK : ∀ {b : Addr} {m : Str → Option Value}, s₁.heap.Ns b m → (hidT s₁.heap H).Ns b m := fun {b m} ⟨o, es, ep, e, d, r⟩ => ⟨o, es, ep, base_of e (noA e d), d, r⟩
    have hKb : K.In (hidT s₁.heap H) := fun b o e => base_of (KX b o e) (by
      cases q : H b with
      | none => rfl
      | some u =>
        have e' : b = a := hA b (by rw [q]; simp)
        subst e'
        rw [hK (by rw [q]; simp)] at e; cases e)
    have hM : Mod K mg (hidT s₁.heap H) := ⟨hKb, nsK hns, ⟨mb, nsK hb, hbb⟩, let ⟨mc, h1, h2⟩ := hlim; ⟨mc, nsK h1, h2⟩⟩
    have e0 : Env0 P w K mg (hidT s₁.heap H) callerA [] s₁ H := ⟨rfl, hM, fun b o e => of_hidT e, Nat.le_of_eq (hidT_size _ _), trivial, fun b hb => absurd (show b ∈ ([] : List Addr) from hb) (by simp), hok, .of_eq hg⟩
    refine codeAny_mono ((F _ hKb (nsK hns)).run callerA [] s₁ H ⟨[.ref a], []⟩ [.ref a] [.ref a] _ _ hr e0 (hbind s₁ (.ref a)) (.cons rfl .nil) (hsp H hO hS)) fun r s' h => ?_
    cases r with
    | error e => exact (hCX H e s' h).elim
    | ok fl =>
      cases fl with
      | next => exact False.elim h
      | brk => exact False.elim h
      | cont => exact False.elim h
      | ret u =>
        obtain ⟨v, H', os, bare, un, hok', r', q⟩ := h
        have q' : v = .bl true := q
        subst q'
        obtain rfl : u = Value.bool true := r'
        refine ⟨rfl, OldK.of_keep fun b o e => ?_, os, bare⟩
        cases q : H b with
        | none => exact un.keep b o e q (by intro z; exact absurd (show b ∈ ([] : List Addr) from z) (by simp)) (by simp)
        | some u =>
          rcases hO b with z | ⟨ob, xs, z⟩
          · rw [q] at z; cases z
          · have z2 := un.frzs b ob _ z
            obtain ⟨e1, _⟩ := hok b _ z
            obtain ⟨e2, _⟩ := hok' b _ z2
            rw [e] at e1; cases e1
            exact e2
  cases hk : K.lookup a with
  | some o =>
    -- the script is one of the module's own objects
    have e := KX a o hk
    rw [ha] at e
    cases e
    refine core (fun _ => none) (fun _ => .inl rfl) (.inr ⟨_, vs.toArray, _, hk, rfl, rfl, rfl, by rw [List.size_toArray, lenV]; exact hl, by simpa using rv⟩) (fun b u z => by have z' : (none : Option HO) = some u := z; cases z') (fun b z => absurd rfl z) fun z => absurd rfl z
  | none =>
    refine core (fun b => if b = a then some (.frz { cls := .type "list", data := .seq vs.toArray } (.lst (ns.map V.int))) else none) (fun b => ?_) (.inl (.inr ⟨{ cls := .type "list", data := .seq vs.toArray }, if_pos rfl⟩)) (fun b u z => ?_) (fun b z => ?_) fun _ => hk
    · by_cases hb : b = a
      · exact .inr ⟨_, _, if_pos hb⟩
      · exact .inl (if_neg hb)
    · by_cases hb : b = a
      · have z' := (if_pos hb).symm.trans z
        cases z'
        subst hb
        exact ⟨ha, by rw [List.length_map]; exact hl, vs, _, rv, ha⟩
      · have z' := (if_neg hb).symm.trans z
        cases z'
    · by_cases hb : b = a
      · exact hb
      · exact absurd (if_neg hb) z
end L2

namespace L2
open PySem PySem.Spec PyProof.Rows

abbrev KOf {K : PySem.W.Frag} {h : Heap} (_ : K.In h) : PySem.W.Frag := K

/-- the goal that k_head leaves (case hc), from the law's promise. F gives the function object fd (K's own) once, then the promise over every base -/
theorem walk_of {l : PySem.W.OpenLaw} {n k : Nat} {q : Program} {loose : List Str} {XP : (Str → Option Value) → Heap → Prop} {YP : World → Heap → Prop} {d : DefRec} {K : Params → PySem.W.Frag} {CX : World → CXT} {sp : World → Sp} {x : Str}
    (hn : l.most = some n) (hn2 : n ≤ sizeLine) (hdf : d.params.defaults = []) (hr : Room k callerA)
    (hY : ∀ (w : World) (h : Heap), YP w h → (K w.params).In h)
    (F : ∀ (w : World) (mg : Str → Option Value) (fa : Addr) (h : Heap), (K w.params).In h → h.Ns mainGlobals mg → mg d.name = some (.ref fa) →
      ∃ fd : FuncData, (∀ (s : Shared) (u : Value), BindsTo s fd ⟨[u], []⟩ [(x, u)]) ∧
        ∀ base : Heap, (K w.params).In base → base.Ns mainGlobals mg → FnOk l.prog w (K w.params) mg base (CX w) k fa fd [x] (sp w))
    (hsp : ∀ (w : World) (H : Hp) (a : Addr) (ns : List Int), ns.length ≤ n → Only H → SqL (K w.params) H a (ns.map V.int) → sp w [.ref a] H (fun v _ => v = .bl true) fun _ _ _ => False)
    (hCX : ∀ (w : World) (H : Hp) (s : Shared) (e : Value) (s' : Shared), CX w [] H s (fun _ _ _ => False) e s' → False) :
    PySem.W.WalkO q loose XP YP l.row.toRowW d [] (fun f vs => PySem.call f vs) := by
  refine Att.attach_call hn hdf fun w s₀ s₁ mg mb fa o pm cd doc a vs ns G Y ho hd hcd hmg hobj hints hlen hg => ?_
  have KX := hY w _ Y
  obtain ⟨fd, hb, hF⟩ := F w mg fa _ KX G.T.g hmg
  exact law_call KX G.T.g G.T.b G.T.builtins G.T.nolimit hg hobj hints (Nat.le_trans hlen hn2) hr hF hb (fun H hO hS => hsp w H a ns hlen hO hS) fun H e s' => hCX w H s₁ e s'
/-- the same where the promise hangs on the written part alone: (sp := My.sp_law), no hole under a binder -/
theorem walk_ofK {l : PySem.W.OpenLaw} {n k : Nat} {q : Program} {loose : List Str} {XP : (Str → Option Value) → Heap → Prop} {YP : World → Heap → Prop} {d : DefRec} {K : Params → PySem.W.Frag} {CX : CXT} {sp : PySem.W.Frag → Sp} {x : Str}
    (hn : l.most = some n) (hn2 : n ≤ sizeLine) (hdf : d.params.defaults = []) (hr : Room k callerA)
    (hY : ∀ (w : World) (h : Heap), YP w h → (K w.params).In h)
    (F : ∀ (w : World) (mg : Str → Option Value) (fa : Addr) (h : Heap), (K w.params).In h → h.Ns mainGlobals mg → mg d.name = some (.ref fa) →
      ∃ fd : FuncData, (∀ (s : Shared) (u : Value), BindsTo s fd ⟨[u], []⟩ [(x, u)]) ∧
        ∀ base : Heap, (K w.params).In base → base.Ns mainGlobals mg → FnOk l.prog w (K w.params) mg base CX k fa fd [x] (sp (K w.params)))
    (hsp : ∀ (K : PySem.W.Frag) (H : Hp) (a : Addr) (ns : List Int), ns.length ≤ n → Only H → SqL K H a (ns.map V.int) → sp K [.ref a] H (fun v _ => v = .bl true) fun _ _ _ => False)
    (hCX : ∀ (H : Hp) (s : Shared) (e : Value) (s' : Shared), CX [] H s (fun _ _ _ => False) e s' → False) :
    PySem.W.WalkO q loose XP YP l.row.toRowW d [] (fun f vs => PySem.call f vs) :=
  walk_of (K := K) (CX := fun _ => CX) (sp := fun w => sp (K w.params)) hn hn2 hdf hr hY F (fun w H a ns h1 h2 h3 => hsp (K w.params) H a ns h1 h2 h3) fun _ H s e s' => hCX H s e s'
end L2

/- THE LAST THEOREM (shape; LID, My.* are yours):
   My.Adr: a structure of the addresses that your layer names (classes, functions); My.Txt K t: a structure (Prop) of the equations over K;
   My.txt_mk : {K} {implicit addresses ..} (e1 : nsIn K mainGlobals "law" = some (some (.ref f))) (e2 : K.lookup f = some ⟨oc, od, .func (fnOf "law" "law" params body scope dV kV doc pm an cdv ct), sl⟩) (e3 : codeIn K cdv "law" = true) .. : ∃ t, My.Txt K t

set_option maxRecDepth 100000 in
set_option maxHeartbeats 0 in
theorem PySem.Challenge.cw_LID_holds : PySem.Challenge.rw_LID.Holds := by
  w_on; o_law; k_head; (case hw => w_witness2)
  k_fill
  refine L2.walk_of (l := PySem.Challenge.rw_LID) (n := 63) (k := 40) (x := "script") (CX := fun w => ..) (sp := fun _ => My.sp_law) rfl (by decide) rfl ⟨rfl, by decide, by decide⟩ (fun w h Y => PySem.W.kIn_of Y) ?F ?S ?C
  case F =>
    intro w mg fa h KX G hmg
    have T : ∃ t, My.Txt (L2.KOf KX) t := by
      dsimp only [L2.KOf]                          -- K must stand as «<heap const> w.params» for k_is
      refine' My.txt_mk ?e1 ?e2 ?e3 ..
      (case e1 => PySem.W.k_is)                    -- in the order: a name -> its address -> its object -> its parts
      (case e2 => PySem.W.k_is)
      ..
    obtain ⟨t, T⟩ := T
    have e0 := hmg.symm.trans (PySem.W.mg_of KX G T.law)
    cases e0                                       -- fa is the law's own address
    exact ⟨_, fun s u => .of_eq rfl, fun base kb nb => My.law_fn T kb nb⟩     -- if «.of_eq rfl» comes too early: refine' ⟨_, ?b, fun base kb nb => My.law_fn T kb nb⟩; exact fun s u => .of_eq rfl
  case S => exact fun w H a ns hl hO hS => ..
  case C => exact ..
(the tactic k_is has no namespace: write k_is) -/

/-! SHORT WORDS over the layer: a def of the text, its body, what a loop and a test want. -/
namespace L2
open PySem PySem.Spec PyProof.Rows

/-! ### the text by places -/
/-- the j-th statement of a class's body -/
def inClass (s : Stmt) (j : Nat) : Stmt := match s with
  | .ClassDef _ _ _ body _ _ _ _ _ _ _ => body.getD j (.Pass ⟨0, 0, 0, 0⟩)
  | _ => .Pass ⟨0, 0, 0, 0⟩
def defArgs (s : Stmt) : Arguments := match s with
  | .FunctionDef _ a _ _ _ _ _ _ _ _ => a
  | _ => { posonlyargs := [], args := [], vararg := none, kwonlyargs := [], kw_defaults := [], kwarg := none, defaults := [] }
def defBody (s : Stmt) : List Stmt := match s with
  | .FunctionDef _ _ b _ _ _ _ _ _ _ => b
  | _ => []
def defScope (s : Stmt) : Scope := match s with
  | .FunctionDef _ _ _ _ _ _ sc _ _ _ => sc
  | _ => { kind := .function, names := [], isGenerator := false, isCoroutine := false }

/-! ### no exception leaves a def -/
abbrev CX0 : CXT := fun _ _ _ _ _ _ => False
abbrev E0 : XK := fun _ _ _ => False
theorem pass0 {X : Cx} : Passes CX0 X E0 := fun _ _ _ _ _ _ _ h => h.elim

/-! ### a def (or method) of the text as it stands behind the top -/
structure Fun (K : PySem.W.Frag) (x qual : Str) (st : Stmt) (f : Addr) (fd : FuncData) : Prop where
  ex : ∃ (oc : Value) (od : Option Addr) (kV doc pm : Value) (an : Option Addr) (cdv ct : Value) (osl : Array (Option Value)),
    fd = PySem.W.fnOf x qual (defArgs st) (defBody st) (defScope st) .none kV doc pm an cdv ct ∧ K.lookup f = some ⟨oc, od, .func fd, osl⟩ ∧ PySem.W.codeIn K cdv qual = true
  kp : PySem.W.keepIn K (.ref f) = true
section
variable {P : Program} {w : World} {K : PySem.W.Frag} {mg : Str → Option Value} {base : Heap}
/-- THE RULE for a def: its body as a term of rules, and the reading of that term -/
theorem Fun.ok {x qual : Str} {st : Stmt} {f : Addr} {fd : FuncData} {N ps : List Str} {k : Nat} {sp : Sp} (F : Fun K x qual st f fd) (S : FnScope N ps (defScope st)) (len : ∀ vs H Q E, sp vs H Q E → vs.length = ps.length)
    (hbody : ∀ (cdv : Value) (A : Around) (outer : List Env) (s : Shared) (H : Hp) (vs : List V) (Q : VK) (E : XK), Room k (A.deeper (envOfC qual (defScope st) s.heap.objs.size f cdv)) → sp vs H Q E →
      ∃ t, PSs (cxOf CX0 P w K mg base N qual (defScope st) f cdv A outer s H E).nox (defBody st) t ∧ t { nx := fun _ H' => Q .non H', rt := Q } (start N vs) H) : FnOk P w K mg base CX0 (k + 1) f fd ps sp := by
  obtain ⟨oc, od, kV, doc, pm, an, cdv, ct, osl, rfl, lk, hcd⟩ := F.ex
  refine fn_of lk hcd S len fun A outer s H vs Q E hr hsp => ?_
  obtain ⟨t, h, q⟩ := hbody cdv A outer s H vs Q E hr hsp
  exact ⟨t, h.nox, q⟩
/-- how its arguments bind (no defaults): h is «fun _ _ _ _ _ _ us hl => match us, hl with | [_, _], _ => rfl», one _ a parameter -/
theorem Fun.binds {x qual : Str} {st : Stmt} {f : Addr} {fd : FuncData} {ps : List Str} (F : Fun K x qual st f fd)
    (h : ∀ (kV doc pm : Value) (an : Option Addr) (cdv ct : Value) (us : List Value), us.length = ps.length → bindArgs (PySem.W.fnOf x qual (defArgs st) (defBody st) (defScope st) .none kV doc pm an cdv ct) ⟨us, []⟩ = pure (ps.zip us)) : Binds K fd ps [] := by
  obtain ⟨oc, od, kV, doc, pm, an, cdv, ct, osl, rfl, lk, hcd⟩ := F.ex
  exact .all (h kV doc pm an cdv ct)
theorem fun_mk {x qual : Str} {st : Stmt} {f : Addr} {oc : Value} {od an : Option Addr} {osl : Array (Option Value)} {kV doc pm cdv ct : Value} (l : K.lookup f = some ⟨oc, od, .func (PySem.W.fnOf x qual (defArgs st) (defBody st) (defScope st) .none kV doc pm an cdv ct), osl⟩)
    (c : PySem.W.codeIn K cdv qual = true) (k : PySem.W.keepIn K (.ref f) = true) : Fun K x qual st f (PySem.W.fnOf x qual (defArgs st) (defBody st) (defScope st) .none kV doc pm an cdv ct) := ⟨⟨oc, od, kV, doc, pm, an, cdv, ct, osl, rfl, l, c⟩, k⟩
end
theorem hu_of {A : Around} {k : Nat} (hr : Room k A) : A.units + 1 < cLine := Nat.lt_of_le_of_lt (Nat.add_le_add_left (by decide : 1 ≤ 64) _) hr.units
theorem small1000 {n : Nat} (h : n ≤ 1000) : n < sizeLine := Nat.lt_of_le_of_lt h (by decide)

/-! ### expressions in short: the name that stands in the i-th slot -/
section
variable {X : Cx}
theorem pv (i : Nat) {x : Str} {pos : Pos} (hN : X.N[i]? = some x := by rfl) (hv : Vis X.env.scope x := by first | exact Or.inl rfl | exact Or.inr (Or.inl rfl) | exact Or.inr (Or.inr rfl)) (hd : (x == ("__debug__" : Str)) = false := by decide)
    (hcd : (x == ("__classdict__" : Str)) = false := by decide) : PE X (.Name x pos) (tVar i) := pe_var hN hv hd hcd
end

/-! ### tests -/
theorem iteF {A B : Prop} (h : B) : if false = true then A else B := by
  rw [if_neg Bool.false_ne_true]
  exact h
theorem iteT {A B : Prop} (h : A) : if true = true then A else B := by
  rw [if_pos rfl]
  exact h
theorem ite2 {c A B : Prop} [Decidable c] (h1 : c → A) (h2 : ¬ c → B) : if c then A else B := by
  by_cases h : c
  · rw [if_pos h]
    exact h1 h
  · rw [if_neg h]
    exact h2 h
theorem iteNS {c A B : Prop} [Decidable c] (hc : c) (h : B) : if (!decide c) = true then A else B := by
  rw [decide_eq_true hc]
  exact iteF h

/-! ### heaps -/
/-- all that was tracked is as it was -/
def Same (H H' : Hp) : Prop := ∀ b o, H b = some o → H' b = some o
theorem Same.refl (H : Hp) : Same H H := fun _ _ h => h
theorem Same.trans {H H1 H2 : Hp} (a : Same H H1) (b : Same H1 H2) : Same H H2 := fun c o h => b c o (a c o h)
theorem Same.free {H H' : Hp} (e : Same H H') {l : Addr} (h : H' l = Option.none) : H l = Option.none := by
  cases q : H l with
  | none => rfl
  | some o =>
    rw [e l o q] at h
    cases h
theorem Same.seq {K : PySem.W.Frag} {H H' : Hp} {a : Addr} {xs : List V} (e : Same H H') (h : SqL K H a xs) : SqL K H' a xs := by
  rcases h with (h | ⟨o, h⟩) | h
  · exact .inl (.inl (e _ _ h))
  · exact .inl (.inr ⟨o, e _ _ h⟩)
  · exact .inr h

end L2

set_option Elab.async false
set_option linter.all false
set_option maxRecDepth 100000
set_option maxHeartbeats 4000000
namespace Tf
open PySem PySem.Spec PyProof.Rows L2

/-! ### built-in names -/
theorem bt_abs : bootBuiltins "abs" = some (.builtin "abs") := by decide +kernel
theorem bt_isinstance : bootBuiltins "isinstance" = some (.builtin "isinstance") := by decide +kernel
theorem bt_len : bootBuiltins "len" = some (.builtin "len") := by decide +kernel
theorem bt_sum : bootBuiltins "sum" = some (.builtin "sum") := by decide +kernel
theorem bt_max : bootBuiltins "max" = some (.builtin "max") := by decide +kernel
theorem bt_min : bootBuiltins "min" = some (.builtin "min") := by decide +kernel
theorem bt_sorted : bootBuiltins "sorted" = some (.builtin "sorted") := by decide +kernel
theorem bt_all : bootBuiltins "all" = some (.builtin "all") := by decide +kernel
theorem bt_any : bootBuiltins "any" = some (.builtin "any") := by decide +kernel
theorem bt_divmod : bootBuiltins "divmod" = some (.builtin "divmod") := by decide +kernel
theorem bt_ord : bootBuiltins "ord" = some (.builtin "ord") := by decide +kernel
theorem bt_chr : bootBuiltins "chr" = some (.builtin "chr") := by decide +kernel
theorem bt_repr : bootBuiltins "repr" = some (.builtin "repr") := by decide +kernel
theorem bt_int : bootBuiltins "int" = some (.type "int") := by decide +kernel
theorem bt_bool : bootBuiltins "bool" = some (.type "bool") := by decide +kernel
theorem bt_str : bootBuiltins "str" = some (.type "str") := by decide +kernel
theorem bt_list : bootBuiltins "list" = some (.type "list") := by decide +kernel
theorem bt_tuple : bootBuiltins "tuple" = some (.type "tuple") := by decide +kernel
theorem bt_set : bootBuiltins "set" = some (.type "set") := by decide +kernel
theorem bt_dict : bootBuiltins "dict" = some (.type "dict") := by decide +kernel
theorem bt_range : bootBuiltins "range" = some (.type "range") := by decide +kernel
theorem bt_zip : bootBuiltins "zip" = some (.type "zip") := by decide +kernel
theorem bt_enumerate : bootBuiltins "enumerate" = some (.type "enumerate") := by decide +kernel
theorem bt_reversed : bootBuiltins "reversed" = some (.type "reversed") := by decide +kernel
theorem bt_frozenset : bootBuiltins "frozenset" = some (.type "frozenset") := by decide +kernel
theorem bt_object : bootBuiltins "object" = some (.type "object") := by decide +kernel
theorem bt_type : bootBuiltins "type" = some (.type "type") := by decide +kernel

/-! ### sizes of ints -/
def Bt (n : Nat) (i : Int) : Prop := i.natAbs < 2 ^ n
theorem Bt.mono {n m : Nat} {i : Int} (h : Bt n i) (k : n ≤ m) : Bt m i := Nat.lt_of_lt_of_le h (Nat.pow_le_pow_right (by decide) k)
theorem Bt.mul {n m : Nat} {i j : Int} (h : Bt n i) (k : Bt m j) : Bt (n + m) (i * j) := by
  unfold Bt at *
  rw [Int.natAbs_mul, Nat.pow_add]
  exact Nat.mul_lt_mul_of_lt_of_le h (Nat.le_of_lt k) (Nat.lt_of_le_of_lt (Nat.zero_le _) k)
theorem Bt.add {n m : Nat} {i j : Int} (h : Bt n i) (k : Bt m j) : Bt (max n m + 1) (i + j) := by
  unfold Bt at *
  have h1 : i.natAbs < 2 ^ (max n m) := Nat.lt_of_lt_of_le h (Nat.pow_le_pow_right (by decide) (Nat.le_max_left _ _))
  have h2 : j.natAbs < 2 ^ (max n m) := Nat.lt_of_lt_of_le k (Nat.pow_le_pow_right (by decide) (Nat.le_max_right _ _))
  have h3 := Int.natAbs_add_le i j
  rw [Nat.pow_succ]
  omega
theorem Bt.neg {n : Nat} {i : Int} (h : Bt n i) : Bt n (-i) := by
  unfold Bt at *
  rw [Int.natAbs_neg]
  exact h
theorem Bt.sub {n m : Nat} {i j : Int} (h : Bt n i) (k : Bt m j) : Bt (max n m + 1) (i - j) := by
  rw [Int.sub_eq_add_neg]
  exact h.add k.neg
theorem Bt.natAbs {n : Nat} {i : Int} (h : Bt n i) : Bt n (i.natAbs : Int) := by
  unfold Bt at *
  simpa using h
theorem Bt.of_le {n : Nat} {i j : Int} (h : Bt n j) (k : i.natAbs ≤ j.natAbs) : Bt n i := Nat.lt_of_le_of_lt k h
theorem natAbs_le_of {i j : Int} (h1 : -j ≤ i) (h2 : i ≤ j) : i.natAbs ≤ j.natAbs := by omega
theorem Bt.fdiv {n : Nat} {i j : Int} (h : Bt n i) : Bt n (i.fdiv j) := by
  refine h.of_le ?_
  by_cases hj : j = 0
  · subst hj; simp
  · have key : ∀ (a b : Int), 0 < b → (a.fdiv b).natAbs ≤ a.natAbs := by
      intro a b hb
      rw [Int.fdiv_eq_ediv_of_nonneg a (Int.le_of_lt hb)]
      exact Int.natAbs_ediv_le_natAbs a b
    rcases (by omega : 0 < j ∨ j < 0) with p | p
    · exact key i j p
    · have := key (-i) (-j) (by omega)
      rw [Int.neg_fdiv_neg] at this
      simpa using this
theorem Bt.fmod {n : Nat} {i j : Int} (hj : j ≠ 0) (h : Bt n j) : Bt n (i.fmod j) := by
  refine h.of_le ?_
  rcases (by omega : 0 < j ∨ j < 0) with p | p
  · have h1 := Int.fmod_nonneg_of_pos i p
    have h2 := Int.fmod_lt_of_pos i p
    omega
  · have e : i.fmod j = -((-i).fmod (-j)) := by
      rw [Int.fmod_def, Int.fmod_def, Int.neg_fdiv_neg]
      simp [Int.neg_mul]
      omega
    have h1 := Int.fmod_nonneg_of_pos (-i) (show 0 < -j by omega)
    have h2 := Int.fmod_lt_of_pos (-i) (show 0 < -j by omega)
    omega
theorem Bt.zero (n : Nat) : Bt n 0 := by
  unfold Bt
  simpa using Nat.pow_pos (by decide)
theorem Bt.one {n : Nat} (h : 0 < n) : Bt n 1 := by
  unfold Bt
  show 1 < 2 ^ n
  exact Nat.one_lt_pow (by omega) (by decide)
theorem Bt.bits {n : Nat} {i : Int} (h : Bt n i) : Builtin.Int.intBits i ≤ n := by
  unfold Builtin.Int.intBits
  split
  · exact Nat.zero_le _
  · rename_i hz
    have h0 : i.natAbs ≠ 0 := by
      intro e
      apply hz
      have : i = 0 := by omega
      subst this
      rfl
    exact (Nat.log2_lt h0).mpr h
theorem Bt.log {n : Nat} {i : Int} (h : Bt n i) (hn : 0 < n) : i.natAbs.log2 < n := by
  by_cases h0 : i.natAbs = 0
  · rw [h0]; simpa using hn
  · exact (Nat.log2_lt h0).mpr h
theorem mulOk {n m : Nat} {i j : Int} (h : Bt n i) (k : Bt m j) (hn : n + m ≤ 134217728) : IntMulOk i j := by
  unfold IntMulOk
  have hb1 := h.bits
  have hb2 := k.bits
  have : Builtin.Int.intTooBig (Builtin.Int.intBits i + Builtin.Int.intBits j) = false := by
    unfold Builtin.Int.intTooBig
    apply decide_eq_false
    unfold bitsLine
    have : (2 : Nat) ^ 27 = 134217728 := by decide
    rw [this]
    omega
  rw [this]
  simp

/-- both factors of few enough bits -/
def CMulB (i j : Int) : Prop := ∃ n m, Bt n i ∧ Bt m j ∧ n + m ≤ 134217728
def CDivB (_i j : Int) : Prop := j ≠ 0 ∧ Bt 9000 j
section
variable {X : Cx}
theorem op_mulB : OpR X (binaryOp .Mult) (rI CMulB fun i j => .int (i * j)) := opI fun _ _ _ _ _ _ _ hc q => by
  obtain ⟨n, m, h1, h2, h3⟩ := hc
  exact mul_int q (mulOk h1 h2 h3)
theorem op_fdivB : OpR X (binaryOp .FloorDiv) (rI CDivB fun i j => .int (i.fdiv j)) := opI fun _ _ _ _ _ _ _ hc q => floordiv_int hc.1 q (.inl (PyProof.noPylong_of_log2 (hc.2.log (by decide))))

theorem Bt.lit {n : Nat} {i : Int} (h : decide (i.natAbs < 2 ^ n) = true) : Bt n i := (of_decide_eq_true h : i.natAbs < 2 ^ n)
theorem cdivC {i j : Int} (h : (decide (j ≠ 0) && decide (j.natAbs < 2 ^ 64)) = true) : CDivB i j := by
  rw [Bool.and_eq_true] at h
  exact ⟨of_decide_eq_true h.1, Bt.mono (n := 64) (of_decide_eq_true h.2 : j.natAbs < 2 ^ 64) (by decide)⟩
theorem cmulC {i j : Int} {n m : Nat} (h : Bt n i) (k : Bt m j) (e : decide (n + m ≤ 134217728) = true) : CMulB i j := ⟨n, m, h, k, of_decide_eq_true e⟩
theorem cpowC {i j : Int} (h : (decide (0 ≤ j) && decide (j ≤ 1000000) && decide (i.natAbs < 2 ^ 64)) = true) : CPow i j := by
  rw [Bool.and_eq_true, Bool.and_eq_true] at h
  exact ⟨of_decide_eq_true h.1.1, of_decide_eq_true h.1.2, of_decide_eq_true h.2⟩
/-- a built-in type as a value -/
theorem pe_ty {x : Str} {T : String} {pos : Pos} (hg : Gl X x) (hm : X.mg x = none) (hv : bootBuiltins x = some (.type T)) (hn : x ≠ "__name__" := by decide) (hd : (x == ("__debug__" : Str)) = false := by decide) : PE X (.Name x pos) (tC (.ty T)) :=
  pe_bltn hg hm hv rfl hn hd

/-! ### isinstance -/
/-- the built-in type of a value -/
inductive TyV (K : PySem.W.Frag) (H : Hp) : V → String → Prop where
  | non : TyV K H .non "NoneType"
  | bl (x : Bool) : TyV K H (.bl x) "bool"
  | int (i : Int) : TyV K H (.int i) "int"
  | str (x : Str) : TyV K H (.str x) "str"
  | lst {a : Addr} {xs : List V} (e : SqL K H a xs) : TyV K H (.ref a) "list"
  | tup {a : Addr} {xs : List V} (e : SqT K H a xs) : TyV K H (.ref a) "tuple"
theorem isinst_ty {pins : List (Addr × Obj)} {σ : L2.St} {H : Hp} {s : Shared} {A : Around} {E : Value → Shared → Prop} {Q : Value → Shared → Prop} {c : Value} {b : Bool} {x : V} {u : Value} {t : String} (I : Inv X pins σ H s) (rx : RelV x u) (ty : TyV X.K H x t) (e : PySem.W.kitOne X.K (.type t) c = some b) (h : ∀ tk, Q (.bool b) { s with toks := tk }) :
    wpAny (model X.prog X.w) A (call (.builtin "isinstance") [u, c]) Q E s := by
  cases ty with
  | non => cases (show u = Value.none from rx); exact PySem.W.kia_one PySem.W.kitx_none I.kIn True.intro e (fun z => nomatch z) h
  | bl y => cases (show u = Value.bool y from rx); exact PySem.W.kia_one PySem.W.kitx_bool I.kIn True.intro e (fun z => nomatch z) h
  | int i => obtain ⟨t, q⟩ := (show ∃ t, u = Value.int i t from rx); cases q; exact PySem.W.kia_one PySem.W.kitx_int I.kIn True.intro e (fun z => nomatch z) h
  | str y => obtain ⟨t, q⟩ := (show ∃ t, u = Value.str y t from rx); cases q; exact PySem.W.kia_one PySem.W.kitx_str I.kIn True.intro e (fun z => nomatch z) h
  | @lst a xs ea =>
    cases (show u = Value.ref a from rx)
    obtain ⟨its, _, ⟨o, n, h1, h2, _⟩, _⟩ := I.list ea
    exact PySem.W.kia_one PySem.W.kitx_list I.kIn ⟨o, h1, h2⟩ e (fun z => nomatch z) h
  | @tup a xs ea =>
    cases (show u = Value.ref a from rx)
    obtain ⟨its, _, ⟨o, h1, h2, _⟩, _⟩ := I.tuple ea
    exact PySem.W.kia_one PySem.W.kitx_tuple I.kIn ⟨o, h1, h2⟩ e (fun z => nomatch z) h
/-- isinstance(x, T), T a built-in type -/
def rIsI (K : PySem.W.Frag) : List V → Hp → VK → Prop := fun xs H Q => ∃ x n t b, xs = [x, .ty n] ∧ TyV K H x t ∧ PySem.W.kitOne K (.type t) (.type n) = some b ∧ Q (.bl b) H
theorem call_isi : CallR X (.builtin "isinstance") (rIsI X.K) := by
  intro pins s σ H xs us Q I r h
  obtain ⟨x, n, t, b, rfl, ty, e, q⟩ := h
  obtain ⟨u, w', rfl, rx, rn⟩ := vals2 r
  cases (show w' = Value.type n from rn)
  exact isinst_ty I rx ty e fun tk => ⟨.bl b, H, I.tok _, rfl, q⟩

/-! ### data in the heap -/
mutual
inductive Rep (K : PySem.W.Frag) (H : Hp) : V → PyData → Prop
  | none : Rep K H .non .none
  | bool (b : Bool) : Rep K H (.bl b) (.bool b)
  | int (i : Int) : Rep K H (.int i) (.int i)
  | str (x : Str) : Rep K H (.str x) (.str x)
  | list {a : Addr} {xs : List V} {ds : List PyData} : SqL K H a xs → Reps K H xs ds → Rep K H (.ref a) (.list ds)
  | tuple {a : Addr} {xs : List V} {ds : List PyData} : SqT K H a xs → Reps K H xs ds → Rep K H (.ref a) (.tuple ds)
inductive Reps (K : PySem.W.Frag) (H : Hp) : List V → List PyData → Prop
  | nil : Reps K H [] []
  | cons {v : V} {vs : List V} {d : PyData} {ds : List PyData} : Rep K H v d → Reps K H vs ds → Reps K H (v :: vs) (d :: ds)
end
mutual
theorem Rep.reads {pins : List (Addr × Obj)} {σ : L2.St} {H : Hp} {s : Shared} (I : Inv X pins σ H s) : ∀ {v : V} {d : PyData} {u : Value}, Rep X.K H v d → RelV v u → ∃ as, Reads s.heap u d as
  | _, _, _, .none, r => by cases (show _ = Value.none from r); exact ⟨_, .none⟩
  | _, _, _, .bool b, r => by cases (show _ = Value.bool b from r); exact ⟨_, .bool b⟩
  | _, _, _, .int i, r => by obtain ⟨t, q⟩ := (show ∃ t, _ = Value.int i t from r); cases q; exact ⟨_, .int i t⟩
  | _, _, _, .str x, r => by obtain ⟨t, q⟩ := (show ∃ t, _ = Value.str x t from r); cases q; exact ⟨_, .str x t⟩
  | _, _, _, .list (a := a) h hs, r => by
    cases (show _ = Value.ref a from r)
    obtain ⟨its, rv, ⟨o, n, h1, h2, _, h3⟩, _⟩ := I.list h
    obtain ⟨as, ra⟩ := Reps.reads I hs rv
    exact ⟨_, .list h1 h2 h3 (by simpa using ra)⟩
  | _, _, _, .tuple (a := a) h hs, r => by
    cases (show _ = Value.ref a from r)
    obtain ⟨its, rv, ⟨o, h1, h2, n, h3⟩, _⟩ := I.tuple h
    obtain ⟨as, ra⟩ := Reps.reads I hs rv
    exact ⟨_, .tuple h1 h2 h3 (by simpa using ra)⟩
theorem Reps.reads {pins : List (Addr × Obj)} {σ : L2.St} {H : Hp} {s : Shared} (I : Inv X pins σ H s) : ∀ {vs : List V} {ds : List PyData} {us : List Value}, Reps X.K H vs ds → Vals vs us → ∃ as, ReadsAll s.heap us ds as
  | _, _, _, .nil, r => by cases r; exact ⟨_, .nil⟩
  | _, _, _, .cons h hs, r => by
    cases r with
    | cons r1 r2 =>
      obtain ⟨as, q⟩ := Rep.reads I h r1
      obtain ⟨bs, q2⟩ := Reps.reads I hs r2
      exact ⟨_, .cons q q2⟩
end
/-- == of two data -/
def rEqD (K : PySem.W.Frag) : R2 := fun x y H Q => ∃ dx dy, Rep K H x dx ∧ Rep K H y dy ∧ dx.canLay0 = true ∧ dy.canLay0 = true ∧ min dx.depth dy.depth ≤ 60 ∧ Q (.bl (PyData.eqv dx dy)) H
def rNeD (K : PySem.W.Frag) : R2 := fun x y H Q => ∃ dx dy, Rep K H x dx ∧ Rep K H y dy ∧ dx.canLay0 = true ∧ dy.canLay0 = true ∧ min dx.depth dy.depth ≤ 60 ∧ Q (.bl (!PyData.eqv dx dy)) H
theorem op_eqD (hu : X.A.units + 64 < cLine) : OpR X (compareOp .Eq) (rEqD X.K) := by
  intro pins s σ H x y v u Q I rx ry h
  obtain ⟨dx, dy, h1, h2, c1, c2, hd, q⟩ := h
  obtain ⟨as, r1⟩ := h1.reads I rx
  obtain ⟨bs, r2⟩ := h2.reads I ry
  exact SeqAt.compareEq_reads r1 r2 c1 c2 (by omega) ⟨.bl _, H, I, rfl, q⟩
theorem op_neD (hu : X.A.units + 64 < cLine) : OpR X (compareOp .NotEq) (rNeD X.K) := by
  intro pins s σ H x y v u Q I rx ry h
  obtain ⟨dx, dy, h1, h2, c1, c2, hd, q⟩ := h
  obtain ⟨as, r1⟩ := h1.reads I rx
  obtain ⟨bs, r2⟩ := h2.reads I ry
  exact SeqAt.compareNe_reads r1 r2 c1 c2 (by omega) ⟨.bl _, H, I, rfl, q⟩
end

/-! ### a cut between two statements -/
def tSeqJ (t u : TS) : TS := fun D σ H => ∃ J : L2.St → Hp → Prop, t { D with nx := J } σ H ∧ ∀ σ' H', J σ' H' → u D σ' H'
theorem pss_consJ {X : Cx} {st : Stmt} {rest : List Stmt} {t u : TS} (h1 : PS X st t) (h2 : PSs X rest u) : PSs X (st :: rest) (tSeqJ t u) := by
  intro pins s σ H D I h
  obtain ⟨J, h, hJ⟩ := h
  refine wpAny_execs_cons (thn (h1 pins s σ H { D with nx := J } I h) fun f s1 q => ?_)
  cases f with
  | next =>
    obtain ⟨σ', H', I', q⟩ := q
    exact h2 pins s1 σ' H' D I' (hJ σ' H' q)
  | ret v => exact q
  | brk => exact q
  | cont => exact q
theorem scal_ii (i j : Int) : scal (.int i) (.int j) = true := rfl
theorem scal_bb (i j : Bool) : scal (.bl i) (.bl j) = true := rfl
theorem scal_ss (i j : Str) : scal (.str i) (.str j) = true := rfl
/-! ### loops -/
def tLoop (J : It) (g : TG) (tb : TS) (D : Ends) (σ : L2.St) (H1 : Hp) : Prop := ∃ W : Nat → Nat → L2.St → Hp → Prop, (∃ m, W 0 m σ H1) ∧ ∀ i m σ H, W i m σ H →
  (J.stop i H ∧ D.nx σ H) ∨ (J.go i H ∧ ∃ N : L2.St → Hp → Prop, (∀ σ' H', N σ' H' → ∃ m', m' < m ∧ W (i + 1) m' σ' H') ∧ ∀ x H', J.yld i H x H' → g x σ H' fun σ2 H2 => tb { D with nx := N, ct := N, bk := D.nx } σ2 H2)
theorem tFor_eq {wi : TI} {g : TG} {tb : TS} {D : Ends} {σ : L2.St} {H : Hp} : tFor wi g tb D σ H = wi σ H fun J H1 => tLoop J g tb D σ H1 := rfl
theorem loop_range {lo : Int} {n : Nat} {g : TG} {tb : TS} {D : Ends} {σ : L2.St} {H : Hp} (Pv : Nat → L2.St → Hp → Prop) (h0 : Pv 0 σ H)
    (hs : ∀ i σ H, i < n → Pv i σ H → g (.int (lo + i)) σ H fun σ2 H2 => tb { D with nx := Pv (i + 1), ct := Pv (i + 1), bk := D.nx } σ2 H2) (hd : ∀ σ H, Pv n σ H → D.nx σ H) :
    tLoop (Itr lo n) g tb D σ H := for_range Pv h0 hs hd
theorem loop_list {K : PySem.W.Frag} {a : Addr} {xs : List V} {g : TG} {tb : TS} {D : Ends} {σ : L2.St} {H : Hp} (Pv : Nat → L2.St → Hp → Prop) (h0 : Pv 0 σ H) (hl : ∀ i σ H, i ≤ xs.length → Pv i σ H → SqL K H a xs)
    (hs : ∀ i x σ H, xs[i]? = some x → Pv i σ H → g x σ H fun σ2 H2 => tb { D with nx := Pv (i + 1), ct := Pv (i + 1), bk := D.nx } σ2 H2) (hd : ∀ σ H, Pv xs.length σ H → D.nx σ H) :
    tLoop (Itl K a) g tb D σ H := for_list Pv h0 hl hs hd
theorem loop_tup {K : PySem.W.Frag} {a : Addr} {xs : List V} {g : TG} {tb : TS} {D : Ends} {σ : L2.St} {H : Hp} (Pv : Nat → L2.St → Hp → Prop) (h0 : Pv 0 σ H) (hl : ∀ i σ H, i ≤ xs.length → Pv i σ H → SqT K H a xs)
    (hs : ∀ i x σ H, xs[i]? = some x → Pv i σ H → g x σ H fun σ2 H2 => tb { D with nx := Pv (i + 1), ct := Pv (i + 1), bk := D.nx } σ2 H2) (hd : ∀ σ H, Pv xs.length σ H → D.nx σ H) :
    tLoop (Itt K a) g tb D σ H := for_tup Pv h0 hl hs hd
/-! ### heaps -/
theorem _root_.L2.Same.upd {H : Hp} {p : Addr} (h : H p = none) (o : HO) : Same H (L2.upd H p o) := fun b u q => by rw [upd_ne (ne_of_none q h)]; exact q
theorem _root_.L2.Same.updd {H H' : Hp} (s : Same H H') {p : Addr} (h : H' p = none) (o : HO) : Same H (L2.upd H' p o) := s.trans (Same.upd h o)
theorem _root_.L2.Same.seqT {K : PySem.W.Frag} {H H' : Hp} {a : Addr} {xs : List V} (e : Same H H') (h : SqT K H a xs) : SqT K H' a xs := by
  rcases h with (h | ⟨o, h⟩) | h
  · exact .inl (.inl (e _ _ h))
  · exact .inl (.inr ⟨o, e _ _ h⟩)
  · exact .inr h
theorem Rd.same {H H' : Hp} {a : Addr} {u : HO} (e : Same H H') (h : Rd H a u) : Rd H' a u := by
  rcases h with h | ⟨o, h⟩
  · exact .inl (e _ _ h)
  · exact .inr ⟨o, e _ _ h⟩
mutual
theorem Rep.same {K : PySem.W.Frag} {H H' : Hp} (e : Same H H') : ∀ {v : V} {d : PyData}, Rep K H v d → Rep K H' v d
  | _, _, .none => .none
  | _, _, .bool b => .bool b
  | _, _, .int i => .int i
  | _, _, .str x => .str x
  | _, _, .list h hs => .list (e.seq h) (Reps.same e hs)
  | _, _, .tuple h hs => .tuple (Same.seqT e h) (Reps.same e hs)
theorem Reps.same {K : PySem.W.Frag} {H H' : Hp} (e : Same H H') : ∀ {vs : List V} {ds : List PyData}, Reps K H vs ds → Reps K H' vs ds
  | _, _, .nil => .nil
  | _, _, .cons h hs => .cons (Rep.same e h) (Reps.same e hs)
end
theorem cut_to {α : Type} (ns : List Int) (n : Nat) : cutV (ns.map V.int) none (some (n : Int)) = (ns.take n).map V.int := by
  unfold cutV
  rw [HT.sIx_none, HT.sIx_nat, List.length_map, List.drop_zero, Nat.sub_zero, ← List.map_take]
  congr 1
  by_cases h : n ≤ ns.length
  · rw [Nat.min_eq_left h]
  · rw [Nat.min_eq_right (by omega), List.take_of_length_le (Nat.le_refl _), List.take_of_length_le (by omega)]

/-! ### the context's parts -/
section
variable {CX : CXT} {P : Program} {w : World} {K : PySem.W.Frag} {mg : Str → Option Value} {base : Heap} {N : List Str} {qual : Str} {scope : Scope} {f : Addr} {cd : Value} {A : Around} {outer : List Env} {s : Shared} {H : Hp} {E : XK}
theorem cx_K : (cxOf CX P w K mg base N qual scope f cd A outer s H E).K = K := rfl
end
/-! ### a def of the text, bundled -/
structure Def (P : Program) (w : World) (K : PySem.W.Frag) (mg : Str → Option Value) (base : Heap) (k : Nat) (x : Str) (ps : List Str) (sp : Sp) : Prop where
  ex : ∃ f fd, FnOk P w K mg base CX0 k f fd ps sp ∧ mg x = some (.ref f) ∧ PySem.W.keepIn K (.ref f) = true ∧ Binds K fd ps []
section
variable {X : Cx} {k j : Nat} {x : Str} {ps : List Str} {sp : Sp} {p pos : Pos} {e : Expr} {es : List Expr} {t : TA}
theorem pe_callD (D : Def X.prog X.w X.K X.mg X.base j x ps sp) (hr : Room k X.A) (ha : PA X (e :: es) t) (hj : j ≤ k := by decide) (hg : Gl X x := by rfl)
    (hdb : (x == ("__debug__" : Str)) = false := by decide) (he : starEach (e :: es) X.env = (false, eval e X.env) :: starEach es X.env := by rfl) (hpl : (backTo pos (starEach es X.env)).any (·.1) = false := by rfl) :
    PE X (.Call (.Name x p) (e :: es) [] pos) (tCall sp [] E0 t) := by
  obtain ⟨f, fd, F, hm, hk, hb⟩ := D.ex
  exact pe_call F (hr.mono hj) hg hm hk hb .nil pass0 ha hdb he hpl
end
end Tf

set_option Elab.async false
set_option linter.all false
set_option maxRecDepth 100000
set_option maxHeartbeats 4000000
namespace Tf
open PySem L2
theorem gcd_fmod (x y : Int) : Int.gcd y (x.fmod y) = Int.gcd x y := by
  have e : x.fmod y = x - y * x.fdiv y := Int.fmod_def x y
  rw [e, Int.gcd_comm x y]
  simp
theorem fmod_lt {x y : Int} (h : y ≠ 0) : (x.fmod y).natAbs < y.natAbs := by
  rcases (by omega : 0 < y ∨ y < 0) with p | p
  · have h1 := Int.fmod_nonneg_of_pos x p
    have h2 := Int.fmod_lt_of_pos x p
    omega
  · have e : x.fmod y = -((-x).fmod (-y)) := by
      rw [Int.fmod_def, Int.fmod_def, Int.neg_fdiv_neg]
      simp [Int.neg_mul]
      omega
    have h1 := Int.fmod_nonneg_of_pos (-x) (show 0 < -y by omega)
    have h2 := Int.fmod_lt_of_pos (-x) (show 0 < -y by omega)
    omega
/-! ### fraction -/
def sg (a b : Int) : Int := if b < 0 then -((Int.gcd a b : Nat) : Int) else ((Int.gcd a b : Nat) : Int)
def fr (a b : Int) : Int × Int := (a.fdiv (sg a b), b.fdiv (sg a b))
theorem sg_ne {a b : Int} (h : b ≠ 0) : sg a b ≠ 0 := by
  have : Int.gcd a b ≠ 0 := by
    intro e
    exact h (Int.gcd_eq_zero_iff.mp e).2
  unfold sg
  split <;> omega
theorem sg_dvd (a b : Int) : sg a b ∣ a ∧ sg a b ∣ b := by
  have h1 := Int.gcd_dvd_left a b
  have h2 := Int.gcd_dvd_right a b
  unfold sg
  split
  · exact ⟨Int.neg_dvd.mpr h1, Int.neg_dvd.mpr h2⟩
  · exact ⟨h1, h2⟩
theorem fdiv_mul {a d : Int} (hd : d ≠ 0) (h : d ∣ a) : a.fdiv d * d = a := Int.fdiv_mul_cancel h
theorem fr_mul (a b : Int) (h : b ≠ 0) : (fr a b).1 * sg a b = a ∧ (fr a b).2 * sg a b = b :=
  ⟨fdiv_mul (sg_ne h) (sg_dvd a b).1, fdiv_mul (sg_ne h) (sg_dvd a b).2⟩
theorem fr_pos {a b : Int} (h : b ≠ 0) : 0 < (fr a b).2 := by
  have e := (fr_mul a b h).2
  have s : (b < 0 ∧ sg a b < 0) ∨ (0 < b ∧ 0 < sg a b) := by
    have := sg_ne (a := a) h
    unfold sg at *
    split at * <;> omega
  rcases s with ⟨s1, s2⟩ | ⟨s1, s2⟩
  · rcases (by omega : 0 < (fr a b).2 ∨ (fr a b).2 ≤ 0) with p | p
    · exact p
    · have := Int.mul_nonneg_of_nonpos_of_nonpos p (Int.le_of_lt s2)
      omega
  · rcases (by omega : 0 < (fr a b).2 ∨ (fr a b).2 ≤ 0) with p | p
    · exact p
    · have := Int.mul_nonpos_of_nonpos_of_nonneg p (Int.le_of_lt s2)
      omega
theorem sg_abs (a b : Int) : (sg a b).natAbs = Int.gcd a b := by
  unfold sg
  split <;> omega
theorem fr_gcd {a b : Int} (h : b ≠ 0) : Int.gcd (fr a b).1 (fr a b).2 = 1 := by
  have e := fr_mul a b h
  have g : Int.gcd ((fr a b).1 * sg a b) ((fr a b).2 * sg a b) = Int.gcd (fr a b).1 (fr a b).2 * (sg a b).natAbs := Int.gcd_mul_right _ _ _
  rw [e.1, e.2, sg_abs] at g
  have hp : 0 < Int.gcd a b := by
    have := sg_ne (a := a) h
    have := sg_abs a b
    omega
  have : Int.gcd (fr a b).1 (fr a b).2 * Int.gcd a b = 1 * Int.gcd a b := by omega
  exact Nat.eq_of_mul_eq_mul_right hp this
theorem fr_cross {a b : Int} (h : b ≠ 0) : (fr a b).1 * b = a * (fr a b).2 := by
  have e := fr_mul a b h
  calc (fr a b).1 * b = (fr a b).1 * ((fr a b).2 * sg a b) := by rw [e.2]
    _ = ((fr a b).1 * sg a b) * (fr a b).2 := by rw [Int.mul_comm (fr a b).2, Int.mul_assoc]
    _ = a * (fr a b).2 := by rw [e.1]
theorem fr_neg {a b : Int} (h : b ≠ 0) : fr (-a) (-b) = fr a b := by
  have e : sg (-a) (-b) = -(sg a b) := by
    unfold sg
    rw [Int.gcd_neg, Int.neg_gcd]
    rcases (by omega : b < 0 ∨ 0 < b) with p | p
    · rw [if_neg (by omega), if_pos p]; omega
    · rw [if_pos (by omega), if_neg (by omega)]
  unfold fr
  rw [e, Int.neg_fdiv_neg, Int.neg_fdiv_neg]
theorem fr_bt {n : Nat} {a b : Int} (ha : Bt n a) (hb : Bt n b) : Bt n (fr a b).1 ∧ Bt n (fr a b).2 := ⟨ha.fdiv, hb.fdiv⟩
theorem sg_bt {n : Nat} {a b : Int} (h : b ≠ 0) (hb : Bt n b) : Bt n (sg a b) := by
  refine hb.of_le ?_
  rw [sg_abs]
  have h2 := Int.natAbs_dvd_natAbs.mpr (Int.gcd_dvd_right a b)
  exact Nat.le_of_dvd (by omega) (by simpa using h2)
def spGcd : Sp := fun vs H Q _ => ∃ a b : Int, vs = [.int a, .int b] ∧ Q (.int (Int.gcd a b)) H
def spFrac : Sp := fun vs H Q _ => ∃ a b : Int, vs = [.int a, .int b] ∧ b ≠ 0 ∧ Bt 9000 b ∧ ∀ p, H p = none → Q (.ref p) (upd H p (.tup [.int (fr a b).1, .int (fr a b).2]))
def spWhole : Sp := fun vs H Q _ => ∃ a : Int, vs = [.int a] ∧ Q (.bl true) H
def spLaw (K : PySem.W.Frag) : Sp := fun vs H Q _ => ∃ (a : Addr) (ns : List Int), vs = [.ref a] ∧ SqL K H a (ns.map V.int) ∧ ns.length ≤ 63 ∧ ∀ H', Q (.bl true) H'
/-- two fractions in, one out: top and bottom by g -/
def spTwo (g : Int → Int → Int → Int → Int × Int) (K : PySem.W.Frag) : Sp := fun vs H Q _ => ∃ (x y : Addr) (a b c d : Int), vs = [.ref x, .ref y] ∧ SqT K H x [.int a, .int b] ∧ SqT K H y [.int c, .int d] ∧
  (Bt 4000 a ∧ Bt 4000 b ∧ Bt 4000 c ∧ Bt 4000 d) ∧ (g a b c d).2 ≠ 0 ∧ ∀ p, H p = none → Q (.ref p) (upd H p (.tup [.int (fr (g a b c d).1 (g a b c d).2).1, .int (fr (g a b c d).1 (g a b c d).2).2]))
def gPlus (a b c d : Int) : Int × Int := (a * d + c * b, b * d)
def gMinus (a b c d : Int) : Int × Int := (a * d - c * b, b * d)
def gTimes (a b c d : Int) : Int × Int := (a * c, b * d)
def gOver (a b c d : Int) : Int × Int := (a * d, b * c)
end Tf

set_option Elab.async false
set_option linter.all false
set_option maxRecDepth 100000
set_option maxHeartbeats 4000000
namespace Tf
open PySem PySem.Spec PyProof.Rows L2

/-! ### the cells that a comprehension's block closes over -/
def closL (cells : List (Str × Addr)) : List (Str × NameKind) → List (Str × Addr) → List (Str × Addr)
  | [], acc => acc
  | (n, k) :: r, acc => if k == .free then closL cells r ((n, (cells.lookup n).getD 0) :: acc) else closL cells r acc
theorem closL_forIn {env : Env} : ∀ (names : List (Str × NameKind)) (acc : List (Str × Addr)), (∀ y ∈ names, y.2 = .free → ∃ c, env.cells.lookup y.1 = some c) →
    (forIn names acc fun (x : Str × NameKind) (r : List (Str × Addr)) => (match x with | (name, kind) => if (kind == NameKind.free) = true then do let a ← cellOf env name; pure (ForInStep.yield ((name, a) :: r)) else pure (ForInStep.yield r) : Sem (ForInStep (List (Str × Addr))))) = pure (closL env.cells names acc)
  | [], acc, _ => by rw [List.forIn_nil]; rfl
  | (n, k) :: r, acc, h => by
    have ih := fun acc => closL_forIn r acc fun y hy => h y (List.mem_cons_of_mem _ hy)
    rw [List.forIn_cons]
    unfold closL
    by_cases hk : (k == NameKind.free) = true
    · obtain ⟨c, hc⟩ := h (n, k) List.mem_cons_self (by simpa using hk)
      have e : cellOf env n = pure c := by unfold cellOf; rw [hc]
      simp only [hk, if_true, e]
      rw [hc]
      exact ih ((n, c) :: acc)
    · simp only [hk, if_false]
      exact ih acc
theorem closureFor_eq {scope : Scope} {env : Env} (h : ∀ y ∈ scope.names, y.2 = .free → ∃ c, env.cells.lookup y.1 = some c) : closureFor scope env = pure (closL env.cells scope.names []) := by
  unfold closureFor
  have := closL_forIn (env := env) scope.names [] h
  simp only [bind_pure]
  exact this
theorem closL_of {cells : List (Str × Addr)} : ∀ {names : List (Str × NameKind)} {acc : List (Str × Addr)} {x : Str} {c : Addr}, (closL cells names acc).lookup x = some c → acc.lookup x = some c ∨ ((x, NameKind.free) ∈ names ∧ c = (cells.lookup x).getD 0)
  | [], _, _, _, h => .inl h
  | (n, k) :: r, acc, x, c, h => by
    unfold closL at h
    split at h
    · rename_i hk
      rcases closL_of h with q | ⟨q, e⟩
      · rw [List.lookup_cons] at q
        cases hx : x == n with
        | true =>
          rw [hx] at q
          have e := beq_iff_eq.mp hx
          subst e
          have hk' : k = .free := by simpa using hk
          subst hk'
          exact .inr ⟨List.mem_cons_self, (Option.some.inj q).symm⟩
        | false => rw [hx] at q; exact .inl q
      · exact .inr ⟨List.mem_cons_of_mem _ q, e⟩
    · rcases closL_of h with q | ⟨q, e⟩
      · exact .inl q
      · exact .inr ⟨List.mem_cons_of_mem _ q, e⟩
theorem closL_acc {cells : List (Str × Addr)} : ∀ {names : List (Str × NameKind)} {acc : List (Str × Addr)} {x : Str}, acc.lookup x = some ((cells.lookup x).getD 0) → (closL cells names acc).lookup x = some ((cells.lookup x).getD 0)
  | [], _, _, h => h
  | (n, k) :: r, acc, x, h => by
    unfold closL
    split
    · refine closL_acc ?_
      rw [List.lookup_cons]
      cases hx : x == n with
      | true => have e := beq_iff_eq.mp hx; subst e; rfl
      | false => exact h
    · exact closL_acc h
theorem closL_free {cells : List (Str × Addr)} : ∀ {names : List (Str × NameKind)} {acc : List (Str × Addr)} {x : Str}, (x, NameKind.free) ∈ names → (closL cells names acc).lookup x = some ((cells.lookup x).getD 0)
  | (n, k) :: r, acc, x, h => by
    unfold closL
    rcases List.mem_cons.mp h with e | h
    · cases e
      simp only [beq_self_eq_true, if_true]
      exact closL_acc (by rw [List.lookup_cons, beq_self_eq_true])
    · split
      · exact closL_free h
      · exact closL_free h
theorem cf_app : ∀ (names : List (Str × NameKind)) (n : Nat) (acc : List (Str × Addr)), cellsFrom n names acc = cellsFrom n names [] ++ acc
  | [], _, _ => rfl
  | (x, k) :: r, n, acc => by
    unfold cellsFrom
    split
    · rw [cf_app r (n + 1) ((x, n) :: acc), cf_app r (n + 1) [(x, n)], List.append_assoc]; rfl
    · exact cf_app r n acc
theorem lookup_app {α : Type} (x : Str) : ∀ (a b : List (Str × α)), (a ++ b).lookup x = (match a.lookup x with | some c => some c | none => b.lookup x)
  | [], b => rfl
  | (k, v) :: r, b => by
    rw [List.cons_append, List.lookup_cons, List.lookup_cons]
    cases hx : x == k with
    | true => rfl
    | false => exact lookup_app x r b
theorem cf_has : ∀ {names : List (Str × NameKind)} {n : Nat} {acc : List (Str × Addr)} {x : Str}, (x, NameKind.cell) ∈ names → ∃ c, (cellsFrom n names acc).lookup x = some c
  | (y, k) :: r, n, acc, x, h => by
    unfold cellsFrom
    rcases List.mem_cons.mp h with e | h
    · obtain ⟨rfl, rfl⟩ := Prod.mk.inj e
      simp only [beq_self_eq_true, if_true]
      rw [cf_app, lookup_app]
      cases q : (cellsFrom (n + 1) r []).lookup x with
      | some c => exact ⟨c, rfl⟩
      | none => exact ⟨n, by simp [List.lookup_cons]⟩
    · split
      · exact cf_has h
      · exact cf_has h
theorem cf_mem : ∀ {names : List (Str × NameKind)} {n : Nat} {x : Str} {c : Addr}, (x, c) ∈ cellsFrom n names [] → (x, NameKind.cell) ∈ names
  | (y, k) :: r, n, x, c, h => by
    unfold cellsFrom at h
    split at h
    · rename_i hk
      rw [cf_app] at h
      rcases List.mem_append.mp h with q | q
      · exact List.mem_cons_of_mem _ (cf_mem q)
      · have hk' : k = .cell := by simpa using hk
        subst hk'
        have e : (x, c) = (y, n) := by simpa using q
        cases e
        exact List.mem_cons_self
    · exact List.mem_cons_of_mem _ (cf_mem h)
/-- the scope of the block as it runs -/
def relabelS (sc osc : Scope) : Scope :=
  { sc with names := sc.names.map fun (n, k) => if (k == .free && osc.kind == .function && osc.names.lookup n == some .cell) then (n, .cell) else (n, k) }
theorem relabel_eq (sc : Scope) (env : Env) : relabel sc env = relabelS sc env.scope := rfl
theorem relabelS_lookup {osc : Scope} : ∀ {names : List (Str × NameKind)} {x : Str} {k : NameKind}, (names.map fun (p : Str × NameKind) => (match p with | (n, k) => if (k == NameKind.free && osc.kind == .function && osc.names.lookup n == some NameKind.cell) = true then (n, NameKind.cell) else (n, k))).lookup x = some k →
    ∃ k', names.lookup x = some k' ∧ (k' = k ∨ (k' = .free ∧ k = .cell))
  | [], _, _, h => by simp at h
  | (n, k0) :: r, x, k, h => by
    rw [List.map_cons] at h
    by_cases hc : (k0 == NameKind.free && osc.kind == .function && osc.names.lookup n == some NameKind.cell) = true
    · simp only [hc, if_true] at h
      rw [List.lookup_cons] at h
      cases hx : x == n with
      | true =>
        rw [hx] at h
        simp only [Option.some.injEq] at h
        subst h
        refine ⟨k0, by rw [List.lookup_cons, hx], .inr ⟨?_, rfl⟩⟩
        simp only [Bool.and_eq_true, beq_iff_eq] at hc
        exact hc.1.1
      | false =>
        rw [hx] at h
        obtain ⟨k', e, d⟩ := relabelS_lookup h
        exact ⟨k', by rw [List.lookup_cons, hx]; exact e, d⟩
    · simp only [if_neg hc] at h
      rw [List.lookup_cons] at h
      cases hx : x == n with
      | true =>
        rw [hx] at h
        simp only [Option.some.injEq] at h
        subst h
        exact ⟨k0, by rw [List.lookup_cons, hx], .inl rfl⟩
      | false =>
        rw [hx] at h
        obtain ⟨k', e, d⟩ := relabelS_lookup h
        exact ⟨k', by rw [List.lookup_cons, hx]; exact e, d⟩

theorem lookup_of_mem {α : Type} : ∀ {l : List (Str × α)} {x : Str} {k : α}, (l.map (·.1)).Nodup → (x, k) ∈ l → l.lookup x = some k
  | (y, j) :: r, x, k, nd, h => by
    rw [List.map_cons, List.nodup_cons] at nd
    rw [List.lookup_cons]
    rcases List.mem_cons.mp h with e | h'
    · cases e; rw [beq_self_eq_true]
    · have : (x == y) = false := by
        apply beq_eq_false_iff_ne.mpr
        intro e
        subst e
        exact nd.1 (List.mem_map.mpr ⟨_, h', rfl⟩)
      rw [this]
      exact lookup_of_mem nd.2 h'
/-! ### what is asked of the names; ix: for each name of the block the outer slot that it closes over -/
def csOk (osc sc : Scope) (N N' : List Str) (ix : List (Option Nat)) : Bool :=
  decide (sc.kind = .function) && decide (osc.kind = .function) && sc.names.all (fun y => decide (y.2 = .local → sc.names.lookup y.1 = some .local)) &&
  sc.names.all (fun y => decide (y.2 = .free → (osc.names.lookup y.1 = some .cell ∨ osc.names.lookup y.1 = some .free))) && decide (N'.Nodup) && decide ((sc.names.map (·.1)).Nodup) && decide (N'.length = ix.length) &&
  (List.range ix.length).all fun i => match ix[i]? with
    | some (some j) => decide (N[j]? = N'[i]?) && (match N'[i]? with | some x => decide (sc.names.lookup x = some .free) | none => false)
    | _ => true
structure CS (osc sc : Scope) (N N' : List Str) (ix : List (Option Nat)) : Prop where
  kind : sc.kind = .function
  okind : osc.kind = .function
  names : ∀ y ∈ sc.names, y.2 = .local → sc.names.lookup y.1 = some .local
  free : ∀ y ∈ sc.names, y.2 = .free → osc.names.lookup y.1 = some .cell ∨ osc.names.lookup y.1 = some .free
  nd : N'.Nodup
  ns : (sc.names.map (·.1)).Nodup
  len : N'.length = ix.length
  ixs : ∀ (i j : Nat), ix[i]? = some (some j) → ∃ x, N'[i]? = some x ∧ N[j]? = some x ∧ sc.names.lookup x = some .free
theorem CS.of {osc sc : Scope} {N N' : List Str} {ix : List (Option Nat)} (h : csOk osc sc N N' ix = true) : CS osc sc N N' ix := by
  unfold csOk at h
  simp only [Bool.and_eq_true, List.all_eq_true, decide_eq_true_eq] at h
  obtain ⟨⟨⟨⟨⟨⟨⟨h1, h2⟩, h3⟩, h4⟩, h5⟩, h8⟩, h6⟩, h7⟩ := h
  refine ⟨h1, h2, h3, h4, h5, h8, h6, fun i j e => ?_⟩
  have hi : i < ix.length := (List.getElem?_eq_some_iff.mp e).1
  have q := h7 i (List.mem_range.mpr hi)
  rw [e] at q
  simp only [Bool.and_eq_true, decide_eq_true_eq] at q
  cases e2 : N'[i]? with
  | none => rw [e2] at q; exact absurd q.2 (by simp)
  | some x =>
    rw [e2] at q
    exact ⟨x, rfl, q.1, by simpa using q.2⟩
def subS (ix : List (Option Nat)) (σ : L2.St) : L2.St := ix.map fun o => match o with | some j => (σ[j]?).join | none => none

/-- the block's context -/
structure CB where
  C : Addr
  s₀ : Shared
  H₀ : Hp
  ex : List Addr
def cEnv (osc sc : Scope) (cl : List (Str × Addr)) (C : Addr) (env : Env) : Env :=
  { scope := relabelS sc osc, locals := C, globals := env.globals, cells := cellsFrom (C + 1) sc.names cl, qual := env.qual, func := none, code := env.code, frame := env.frame, builtins := env.builtins }
def cxC (X : Cx) (osc sc : Scope) (N' : List Str) (b : CB) : Cx where
  prog := X.prog
  w := X.w
  K := X.K
  mg := X.mg
  base := X.base
  A := X.A
  N := N'
  s₀ := b.s₀
  H₀ := b.H₀
  env := cEnv osc sc (closL X.env.cells sc.names []) b.C X.env
  outer := X.stack
  stack := X.stack
  ex := b.ex
  fn := fun x => decide (sc.names.lookup x = some .cell)
  calm := X.calm
  pn := []
  xe := fun _ _ => False
theorem cxC_K {X : Cx} {osc sc : Scope} {N' : List Str} {b : CB} : (cxC X osc sc N' b).K = X.K := rfl

def accObj : Obj := { cls := .type "list", dict := none, data := .seq ([] : List Value).toArray }
def dctObj : Obj := { cls := .type "dict", data := .dict #[] }
def blkHeap (h : Heap) (sc : Scope) : Heap := pushCells ((h.push accObj).push dctObj) sc.names
theorem blk_keeps {h : Heap} {sc : Scope} : ∀ b o, h.get? b = some o → (blkHeap h sc).get? b = some o := fun b o e => pushCells_keeps _ _ b o (Heap.get?_push_of_some _ (Heap.get?_push_of_some _ e))
theorem wpAny_newEnv_comp {M : Model} {A : Around} {E : Value → Shared → Prop} {s : Shared} {scope : Scope} {globals : Addr} {cl : List (Str × Addr)} {qual : Str} {env : Env} {Q : Env → Shared → Prop}
    (h : Q (newEnv scope s.heap.objs.size globals (cellsFrom (s.heap.objs.size + 1) scope.names cl) qual none .none (some env) builtinsNs) { s with heap := pushCells (s.heap.push dctObj) scope.names }) :
    wpAny M A (newFunctionEnv scope globals cl [] qual none .none (some env)) Q E s := by
  simp only [newFunctionEnv, Option.isSome_some, if_true]
  refine wpAny_bind (wpAny_alloc ?_)
  refine wpAny_bind (wpAny_layCells _ (fun name kind cells => by cases hkc : kind == NameKind.cell <;> simp [hkc]) _ _ _ _ ?_)
  rw [show ({ s with heap := s.heap.push { cls := .type "dict", data := .dict #[] } } : Shared).heap.objs.size = s.heap.objs.size + 1 from Heap.size_push ..]
  simp only [List.forIn_nil]
  exact wpAny_bind (wpAny_pure (wpAny_pure h))
section
variable {X : Cx} {pins : List (Addr × Obj)} {σ : L2.St} {H : Hp} {s : Shared} {osc sc : Scope} {N' : List Str} {ix : List (Option Nat)} {fp : List Addr}

theorem closes (I : Inv X pins σ H s) (cs : CS osc sc X.N N' ix) (ho : X.env.scope = osc) : ∀ y ∈ sc.names, y.2 = .free → ∃ c, X.env.cells.lookup y.1 = some c := fun y hy hf => by
  refine I.ok.has y.1 ?_
  have q := cs.free y hy hf
  rw [← ho] at q
  exact q
/-- a name's cell in the block: new, or the outer one -/
theorem blk_cell (I : Inv X pins σ H s) (cs : CS osc sc X.N N' ix) (ho : X.env.scope = osc) {C : Addr} {x : Str} {c : Addr} (h : (cellsFrom (C + 1) sc.names (closL X.env.cells sc.names [])).lookup x = some c) :
    ((x, c) ∈ cellsFrom (C + 1) sc.names [] ) ∨ ((x, NameKind.free) ∈ sc.names ∧ X.env.cells.lookup x = some c) := by
  rw [cf_app, lookup_app] at h
  cases e : (cellsFrom (C + 1) sc.names []).lookup x with
  | some d => rw [e] at h; cases h; exact .inl (mem_of_lookup e)
  | none =>
    rw [e] at h
    rcases closL_of h with q | ⟨q, d⟩
    · cases q
    · obtain ⟨c', hc⟩ := closes I cs ho _ q rfl
      rw [show X.env.cells.lookup x = some c' from hc] at d
      exact .inr ⟨q, by rw [show X.env.cells.lookup x = some c' from hc]; rw [d]; rfl⟩
theorem inv_comp (I : Inv X pins σ H s) (cs : CS osc sc X.N N' ix) (ho : X.env.scope = osc) (hfp : ∀ b ∈ fp, FpOk X pins H b) (hlt : ∀ b ∈ fp, b < s.heap.objs.size) :
    Inv (cxC X osc sc N' ⟨s.heap.objs.size + 1, s, H, fp ++ [s.heap.objs.size]⟩) [] (subS ix σ) H { s with heap := blkHeap s.heap sc } := by
  have okc := cellsFrom_ok sc.names ((s.heap.push accObj).push dctObj) (s.heap.objs.size + 2) [] ⟨fun _ _ hm => (nomatch hm), List.Pairwise.nil⟩ (by rw [Heap.size_push, Heap.size_push]; exact Nat.le_refl _)
  have esz : ((s.heap.push accObj).push dctObj).objs.size = s.heap.objs.size + 1 + 1 := by rw [Heap.size_push, Heap.size_push]
  rw [esz] at okc
  have cell := fun {x : Str} {c : Addr} => blk_cell (C := s.heap.objs.size + 1) (x := x) (c := c) I cs ho
  have oldc : ∀ {x : Str} {c : Addr}, X.env.cells.lookup x = some c → @LT.lt Nat _ c s.heap.objs.size := fun {x c} h => (I.cell x c h).elim fun v hv => hv.lt
  have ltS : ∀ {h : Heap} {b : Addr} {o : Obj}, h.get? b = some o → @LT.lt Nat _ b h.objs.size := fun e => Heap.lt_size e
  have newc : ∀ {x : Str} {c : Addr}, (x, c) ∈ cellsFrom (s.heap.objs.size + 1 + 1) sc.names [] → s.heap.objs.size + 2 ≤ c := fun {x c} h => (okc.empty x c h).2
  have nsC : ∃ m, (blkHeap s.heap sc).Ns (s.heap.objs.size + 1) m := ⟨_, by
    have q := (Heap.Ns.new (s.heap.push accObj) (.type "dict")).keeps (pushCells_keeps sc.names _)
    rw [Heap.size_push] at q
    exact q⟩
  refine ⟨?ok, rfl, I.bare, Un.kept blk_keeps, ?loc, ?cell, I.hok.fresh (Nat.le_succ _), ?freeC, ?pin, I.hok.kept blk_keeps, ?len⟩
  case ok =>
    refine ⟨I.ok.mod, cs.kind, I.ok.glob, I.ok.blt, Nat.le_succ _, ?inj, ?has, ?cab, I.ok.hd, I.ok.frames, .inl rfl, ?exf, I.bs, ?bsz, ?noex, ?exfs, I.stack, I.stkFree⟩
    case inj =>
      intro x y c hx hy
      rcases cell hx with p | ⟨p, p'⟩ <;> rcases cell hy with q | ⟨q, q'⟩
      · exact name_of_addr okc.apart p q
      · have a1 := newc p; have a2 := oldc q'; omega
      · have a1 := newc q; have a2 := oldc p'; omega
      · exact I.ok.inj x y c p' q'
    case has =>
      intro x hx
      have key : ∀ k, (relabelS sc osc).names.lookup x = some k → (k = .cell ∨ k = .free) → ∃ c, (cellsFrom (s.heap.objs.size + 1 + 1) sc.names (closL X.env.cells sc.names [])).lookup x = some c := by
        intro k hk hk2
        obtain ⟨k', e, d⟩ := relabelS_lookup hk
        have hm := mem_of_lookup e
        have : k' = .cell ∨ k' = .free := by
          rcases d with d | d
          · rcases hk2 with r | r
            · exact .inl (d.trans r)
            · exact .inr (d.trans r)
          · exact .inr d.1
        rcases this with r | r
        · subst r; exact cf_has hm
        · subst r
          rw [cf_app, lookup_app, closL_free hm]
          cases (cellsFrom (s.heap.objs.size + 1 + 1) sc.names []).lookup x with
          | some c => exact ⟨c, rfl⟩
          | none => exact ⟨_, rfl⟩
      rcases hx with hx | hx
      · exact key _ hx (.inl rfl)
      · exact key _ hx (.inr rfl)
    case cab =>
      intro x c hf hc
      have hf' : sc.names.lookup x = some .cell := of_decide_eq_true hf
      rcases cell hc with p | ⟨p, p'⟩
      · have := newc p
        show s.heap.objs.size ≤ c
        omega
      · rw [lookup_of_mem cs.ns p] at hf'
        cases hf' 
    case exf =>
      intro b hb
      rcases List.mem_append.mp hb with hb | hb
      · have hl : @LT.lt Nat _ b s.heap.objs.size := hlt b hb
        obtain ⟨f0, f1, f2, f3, f4, f5⟩ := hfp b hb
        refine ⟨fun e => ?_, fun x c hc e => ?_⟩
        · have e : b = s.heap.objs.size + 1 := e
          subst e
          omega
        · rcases cell hc with p | ⟨p, p'⟩
          · have := newc p; subst e; omega
          · exact f4 x c p' e
      · have hb : b = s.heap.objs.size := by simpa using hb
        subst hb
        refine ⟨fun e => Nat.succ_ne_self _ (Eq.symm (show s.heap.objs.size = s.heap.objs.size + 1 from e)), fun x c hc e => ?_⟩
        rcases cell hc with p | ⟨p, p'⟩
        · have := newc p; subst e; omega
        · have := oldc p'; subst e; omega
    case bsz => exact Nat.le_trans I.ok.bsz I.sz
    case noex =>
      intro b o e hb
      have e : X.base.get? b = some o := e
      rcases List.mem_append.mp hb with hb | hb
      · obtain ⟨f0, f1, f2, f3, f4, f5⟩ := hfp b hb
        rcases f3 with f3 | f3
        · exact I.ok.noex b o e f3
        · have := ltS e
          have := I.ok.bsz
          omega
      · have hb : b = s.heap.objs.size := by simpa using hb
        have := ltS e
        have := I.ok.bsz
        have := I.sz
        subst hb
        omega
    case exfs =>
      intro b hb hf
      have hf := I.stkSub b hf
      rcases List.mem_append.mp hb with hb | hb
      · obtain ⟨f0, f1, f2, f3, f4, f5⟩ := hfp b hb
        rcases List.mem_cons.mp hf with e | hf
        · exact f1 e
        · exact f2 hf
      · have hb : b = s.heap.objs.size := by simpa using hb
        rcases List.mem_cons.mp hf with e | hf
        · have l : @LT.lt Nat _ X.env.locals s.heap.objs.size := I.lt
          rw [hb] at e
          rw [← e] at l
          omega
        · exact I.nofs (Nat.le_of_eq hb.symm) hf
  case loc =>
    obtain ⟨m', hm'⟩ := nsC
    obtain ⟨m, hm, hl⟩ := I.loc
    refine ⟨m', hm', fun i x v hx hv hvis => ?_⟩
    unfold subS at hv
    rw [List.getElem?_map] at hv
    cases e : ix[i]? with
    | none => rw [e] at hv; cases hv
    | some o =>
      rw [e] at hv
      cases o with
      | none => cases hv
      | some j =>
        simp only [Option.map_some, Option.some.injEq] at hv
        obtain ⟨y, h1, h2, h3⟩ := cs.ixs i j e
        have hx' : N'[i]? = some x := hx
        rw [h1] at hx'
        cases hx'
        have hj : σ[j]? = some (some v) := by
          cases q : σ[j]? with
          | none => rw [q] at hv; cases hv
          | some z => rw [q] at hv; simp only [Option.join_some] at hv; rw [hv]
        have hfree := mem_of_lookup h3
        have hk := cs.free _ hfree rfl
        rw [← ho] at hk
        have hvis0 : Vis X.env.scope x := by
          rcases hk with r | r
          · exact .inr (.inl r)
          · exact .inr (.inr r)
        obtain ⟨u, ru, lk⟩ := hl j x v h2 hj hvis0
        refine ⟨u, ru, .inr ⟨?_, ?_⟩⟩
        · rcases hvis with q | q | q
          · obtain ⟨k', e', d⟩ := relabelS_lookup q
            rw [h3] at e'
            cases e'
            rcases d with d | d
            · cases d
            · cases d.2
          · exact .inl q
          · exact .inr q
        · rcases lk with ⟨lk, _⟩ | ⟨_, c, hc, hcell⟩
          · have : X.env.scope.names.lookup x = some .local := lk
            rw [this] at hk
            rcases hk with r | r <;> cases r
          · refine ⟨c, ?_, hcell.keeps blk_keeps⟩
            show (cellsFrom (s.heap.objs.size + 1 + 1) sc.names (closL X.env.cells sc.names [])).lookup x = some c
            rw [cf_app, lookup_app, closL_free hfree, hc]
            cases e2 : (cellsFrom (s.heap.objs.size + 1 + 1) sc.names []).lookup x with
            | some d =>
              have := lookup_of_mem cs.ns (cf_mem (mem_of_lookup e2))
              rw [h3] at this
              cases this
            | none => rfl
  case cell =>
    intro x c hc
    rcases cell hc with p | ⟨p, p'⟩
    · exact ⟨_, (okc.empty x c p).1⟩
    · obtain ⟨v, hv⟩ := I.cell x c p'
      exact ⟨v, hv.keeps blk_keeps⟩
  case freeC =>
    intro x c hc
    rcases cell hc with p | ⟨p, p'⟩
    · have := newc p
      exact I.hok.fresh (by omega)
    · exact I.freeC x c p'
  case pin => intro p hp; cases hp
  case len =>
    show (subS ix σ).length = N'.length
    unfold subS
    rw [List.length_map, cs.len]
/-! ### the block's loop -/
/-- the slots at S may change at the target's store -/
def GK (S : Nat → Bool) (g : TG) : Prop := ∀ v σ H Q, g v σ H Q → g v σ H fun σ' H' => Q σ' H' ∧ σ'.length = σ.length ∧ ∀ i : Nat, S i = false → σ'[i]? = σ[i]?
theorem gk_name {S : Nat → Bool} {i : Nat} (h : S i = true) : GK S (gName i) := fun v σ H Q q => ⟨q, List.length_set .., fun j hj => by
  rw [List.getElem?_set_ne]
  intro e
  subst e
  rw [h] at hj
  cases hj⟩
/-- tests, one after another -/
def PTs (X : Cx) (ifs : List Expr) (t : TT) : Prop :=
  ∀ (pins : List (Addr × Obj)) (s : Shared) (σ : L2.St) (H : Hp) (Q : Bool → Hp → Prop), Inv X pins σ H s → t σ H Q →
    wpAny (model X.prog X.w) X.A (forIn ifs true fun c r => if r = true then do let ok ← isTrue c X.env (eval c X.env); pure (ForInStep.yield ok) else pure (ForInStep.yield r)) (TP X pins σ Q) X.xe s
def tNoTest : TT := fun _ H Q => Q true H
theorem pts_nil {X : Cx} : PTs X [] tNoTest := fun _ _ _ H _ I h => wpAny_tests_nil ⟨H, I, h⟩
theorem pts_one {X : Cx} {c : Expr} {t : TT} (h : PT X c t) : PTs X [c] t := fun pins s σ H Q I q => wpAny_tests_one (h pins s σ H Q I q)

/-- what a comprehension's walk over J comes to; σ0: the names' values at each turn's begin -/
def tLCg (J : It) (σ0 : L2.St) (g : TG) (tt : TT) (te : TE) (H1 : Hp) (Q : VK) : Prop := ∃ W : Nat → Nat → List V → Hp → Prop, (∃ m, W 0 m [] H1) ∧ ∀ i m ys H, W i m ys H → ys.length < sizeLine ∧
  ((J.stop i H ∧ ∀ p, H p = none → Q (.ref p) (upd H p (.lst ys))) ∨
   (J.go i H ∧ ∃ N : List V → Hp → Prop, (∀ ys' H', N ys' H' → ∃ m', m' < m ∧ W (i + 1) m' ys' H') ∧ ∀ x H', J.yld i H x H' → g x σ0 H' fun σ2 H2 => tt σ2 H2 fun b H3 => if b = true then te σ2 H3 fun y H4 => N (ys ++ [y]) H4 else N ys H3))
theorem codeAny_compLoop_any {prog : Program} {w : World} {A : Around} {R : Result → Shared → Prop} {s : Shared} {elt target iter : Expr} {ifs : List Expr} {scope : Scope} {pos : Pos} {it acc : Value} {env : Env} (I : Nat → Shared → Prop)
    (turn : ∀ n s, I n s → wpAny (model prog w) A (pyNext it) (fun r s₁ => match r with
      | none => R (.ok .next) s₁
      | some v => wpAny (model prog w) A (letOwnedTupleGo target it v) (fun _ s₁ => wpAny (model prog w) A (assign target env v) (fun _ s₂ =>
          wpAny (model prog w) A (forIn ifs true fun c r => if r = true then do let ok ← isTrue c env (eval c env); pure (ForInStep.yield ok) else pure (ForInStep.yield r)) (fun ok s₃ =>
            if ok = true then wpAny (model prog w) A (eval elt env) (fun x s₄ =>
              wpAny (model prog w) A (call (.builtin "list.append") [acc, x]) (fun _ s₅ => ∃ m, m < n ∧ I m s₅) (fun _ _ => False) s₄) (fun _ _ => False) s₃
            else ∃ m, m < n ∧ I m s₃) (fun _ _ => False) s₂) (fun _ _ => False) s₁) (fun _ _ => False) s₁) (fun _ _ => False) s)
    (n : Nat) (h : I n s) :
    codeAny (model prog w) A (.compLoop (.ListComp elt [⟨target, iter, ifs, 0⟩] scope pos) 0 it acc env) R s := by
  refine codeAny_loop rfl I (fun n s hI => ?_) n h
  show wpAny _ A ((compTurn (.ListComp elt [⟨target, iter, ifs, 0⟩] scope pos) 0 it acc env).onRaise (fun x => do noteFrame x env; theTreesLotGoes x)) _ _ s
  refine wpAny_noted ?_
  rw [compTurn_list]
  refine wpAny_bind (wpAny_standAt (wpAny_bind (wpAny_mono (turn n s hI) (fun r s₁ h₁ => ?_) fun _ _ h' => h'.elim)))
  cases r with
  | none => exact wpAny_pure h₁
  | some v =>
    refine wpAny_bind (wpAny_mono h₁ (fun _ s₁ h₁ => ?_) fun _ _ h' => h'.elim)
    refine wpAny_bind (wpAny_mono h₁ (fun _ s₂ h₂ => wpAny_bind (wpAny_mono h₂ (fun ok s₃ h₃ => ?_) fun _ _ h' => h'.elim)) fun _ _ h' => h'.elim)
    cases ok with
    | false => exact wpAny_pure ⟨rfl, h₃⟩
    | true =>
      exact wpAny_bind (wpAny_bind (wpAny_mono h₃ (fun x s₄ h₄ => wpAny_bind (wpAny_mono h₄ (fun _ s₅ h₅ => wpAny_pure (wpAny_pure ⟨rfl, h₅⟩)) fun _ _ h' => h'.elim)) fun _ _ h' => h'.elim))
theorem HOk_add {P : Program} {w : World} {H : Hp} {h : Heap} {a : Addr} {o : HO} (x : HOk P w H h) (hn : H a = none) (new : ObjOk P w (upd H a o) h a o) : HOk P w (upd H a o) h := fun b u e => by
  by_cases hb : b = a
  · subst hb
    rw [upd_same] at e
    cases e
    exact new
  · rw [upd_ne hb] at e
    refine (x b u e).stay (fun _ _ _ q => q) (fun c q => ?_) fun c xs q => ?_
    · rw [upd_ne (ne_of_none q hn)]; exact q
    · rw [upd_ne (ne_of_none q hn)]; exact q
def slotS (ix : List (Option Nat)) (i : Nat) : Bool := match ix[i]? with | some (some _) => false | _ => true
/-- what stands behind the block's loop: D the new list, C the block's names -/
structure BlkEnd (X : Cx) (pins : List (Addr × Obj)) (σ : L2.St) (C D : Addr) (H : Hp) (ys : List V) (s' : Shared) : Prop where
  inv : Inv X pins σ (upd H D (.lst ys)) s'
  free : H D = none
  ns : ∃ m, s'.heap.Ns C m
  cfree : (upd H D (.lst ys)) C = none
  cl : C ≠ X.env.locals
  cn : X.s₀.heap.objs.size ≤ C
  cc : ∀ x c, X.env.cells.lookup x = some c → c ≠ C
  cp : ∀ p ∈ X.pn ++ pins, p.1 ≠ C
theorem run_block {tg elt iter : Expr} {ifs : List Expr} {scope : Scope} {pos : Pos} {J : It} {it : Addr} {tn : Nat → Heap → Prop} {g : TG} {tt : TT} {te : TE} {Q : VK} {R : Result → Shared → Prop}
    (I2 : Inv X pins σ H s) (cs : CS osc sc X.N N' ix) (ho : X.env.scope = osc) (hc : X.calm = true) (T : Turn X.prog X.w X.K tg J fp it tn) (st2 : tn 0 s.heap) (f2 : ∀ b ∈ fp, FpOk X pins H b)
    (hg : PG (cxC X osc sc N' ⟨s.heap.objs.size + 1, s, H, fp ++ [s.heap.objs.size]⟩) tg g) (gk : GK (slotS ix) g)
    (ht : PTs (cxC X osc sc N' ⟨s.heap.objs.size + 1, s, H, fp ++ [s.heap.objs.size]⟩) ifs tt) (he : PE (cxC X osc sc N' ⟨s.heap.objs.size + 1, s, H, fp ++ [s.heap.objs.size]⟩) elt te)
    (rd : tLCg J (subS ix σ) g tt te H Q)
    (hR : ∀ ys H' s', BlkEnd X pins σ (s.heap.objs.size + 1) s.heap.objs.size H' ys s' → Q (.ref s.heap.objs.size) (upd H' s.heap.objs.size (.lst ys)) → R (.ok .next) s') :
    codeAny (model X.prog X.w) X.A (.compStart (.ListComp elt [⟨tg, iter, ifs, 0⟩] scope pos) 0 (.ref it) (.ref s.heap.objs.size) (cEnv osc sc (closL X.env.cells sc.names []) (s.heap.objs.size + 1) X.env)) R { s with heap := blkHeap s.heap sc } := by
  have ltS : ∀ {h : Heap} {b : Addr} {o : Obj}, h.get? b = some o → @LT.lt Nat _ b h.objs.size := fun e => Heap.lt_size e
  have hlt : ∀ b ∈ fp, b < s.heap.objs.size := fun b hb => (T.obj 0 _ st2 b hb).elim fun o h => Heap.lt_size h.1
  have I3 := inv_comp I2 cs ho f2 hlt
  generalize eX : cxC X osc sc N' ⟨s.heap.objs.size + 1, s, H, fp ++ [s.heap.objs.size]⟩ = X' at *
  have eE : cEnv osc sc (closL X.env.cells sc.names []) (s.heap.objs.size + 1) X.env = X'.env := by rw [← eX]; rfl
  have eP : X'.prog = X.prog := by rw [← eX]; rfl
  have eW : X'.w = X.w := by rw [← eX]; rfl
  have eK : X'.K = X.K := by rw [← eX]; rfl
  have eA : X'.A = X.A := by rw [← eX]; rfl
  have eC : X'.calm = true := by rw [← eX]; exact hc
  have eL : X'.env.locals = s.heap.objs.size + 1 := by rw [← eX]; rfl
  have eF : X'.fs = frs X.stack := by rw [← eX]; rfl
  have eEx : X'.ex = fp ++ [s.heap.objs.size] := by rw [← eX]; rfl
  have eN : X'.pn = [] := by rw [← eX]; rfl
  have eS : X'.s₀ = s := by rw [← eX]; rfl
  have eH : X'.H₀ = H := by rw [← eX]; rfl
  have exe : X'.xe = fun _ _ => False := by rw [← eX]; rfl
  have okX := I3.ok
  have mD : s.heap.objs.size ∈ X'.ex := by rw [eEx]; exact List.mem_append_right _ (List.mem_singleton.mpr rfl)
  have mF : ∀ b ∈ fp, b ∈ X'.ex := fun b hb => by rw [eEx]; exact List.mem_append_left _ hb
  obtain ⟨W, ⟨m0, w0⟩, turn⟩ := rd
  -- the iterator's records, in the block
  have stat : ∀ {H' : Hp} {o : Obj}, (∀ b ∈ fp, H' b = none) → ∀ b ∈ fp, FpOk X' [(s.heap.objs.size, o)] H' b := fun {H' o} hn b hb => by
    refine ⟨hn b hb, (okX.exf b (mF b hb)).1, okX.exfs b (mF b hb), .inl (mF b hb), (okX.exf b (mF b hb)).2, fun p hp e => ?_⟩
    rw [eN] at hp
    have hp : p = (s.heap.objs.size, o) := by simpa using hp
    subst hp
    have l : @LT.lt Nat _ b s.heap.objs.size := hlt b hb
    have e : s.heap.objs.size = b := e
    rw [← e] at l
    omega
  have pinD : ∀ {σ' : L2.St} {H' : Hp} {s' : Shared} {o : Obj}, Inv X' [] σ' H' s' → s'.heap.get? s.heap.objs.size = some o → H' s.heap.objs.size = none → (∀ v, o.data ≠ .cell v) → Inv X' [(s.heap.objs.size, o)] σ' H' s' := fun {σ' H' s' o} I e hn hd => by
    refine I.pins_of fun p hp => ?_
    have hp : p = (s.heap.objs.size, o) := by simpa using hp
    subst hp
    exact ⟨e, hn, (okX.exf _ mD).1, okX.exfs _ mD, hd⟩
  rw [eE]
  have I3' : Inv X' [] (subS ix σ) H { s with heap := blkHeap s.heap sc } := I3
  have dat : ∀ (its : List Value) (k : Nat) (v : Option Value), ({ cls := .type "list", data := .seq its.toArray k } : Obj).data ≠ .cell v := fun _ _ _ z => nomatch z
  have acc0 : (blkHeap s.heap sc).get? s.heap.objs.size = some { cls := .type "list", data := .seq ([] : List Value).toArray 0 } := pushCells_keeps _ _ _ _ (Heap.get?_push_of_some _ (Heap.get?_push_size _ rfl))
  have st3 : tn 0 (blkHeap s.heap sc) := T.keep 0 _ _ st2 fun b hb o e => blk_keeps b o e
  have loop : ∀ s3 : Shared, s3 = { s with heap := blkHeap s.heap sc } → codeAny (model X.prog X.w) X.A (.compLoop (.ListComp elt [⟨tg, iter, ifs, 0⟩] scope pos) 0 (.ref it) (.ref s.heap.objs.size) X'.env) R s3 := by
    rintro s3 rfl
    refine codeAny_compLoop_any (fun n s' => ∃ i ys H' its k, Inv X' [] (subS ix σ) H' s' ∧ tn i s'.heap ∧ (∀ b ∈ fp, H' b = none) ∧ W i n ys H' ∧ s'.heap.get? s.heap.objs.size = some { cls := .type "list", data := .seq its.toArray k } ∧ Vals ys its ∧ H' s.heap.objs.size = none)
      ?_ m0 ⟨0, [], H, [], 0, I3', st3, fun b hb => (f2 b hb).1, w0, acc0, .nil, I2.hok.fresh (Nat.le_refl _)⟩
    rintro n s3 ⟨i, ys, H3, its, k, J3, t3, fr3, w3, a3, v3, d3⟩
    obtain ⟨hz, w3⟩ := turn i n ys H3 w3
    have J3p := pinD J3 a3 d3 (dat its k)
    rcases w3 with ⟨stop, q⟩ | ⟨go, N, hN, step⟩
    · have TD := T.done X' eP eW eK eC i [(s.heap.objs.size, _)] s3 (subS ix σ) H3 (fun _ _ => False) J3p (stat fr3) t3 stop
      rw [eA] at TD
      refine thn TD fun r s4 ⟨hr, I4⟩ => ?_
      subst hr
      have a4 := (I4.pin (s.heap.objs.size, _) (List.mem_append_right _ (List.mem_singleton.mpr rfl))).1
      have hd4 := I4.base
      rw [eF, eEx, eH, eS] at hd4
      refine hR ys H3 s4 ⟨?_, d3, ?_, ?_, ?_, ?_, ?_, ?_⟩ (q _ d3)
      · refine I2.call' (ch := fp ++ [s.heap.objs.size]) (by have z := I4.os; rw [eS] at z; exact z) ?_ ?_ I4.bare ?_
        · refine ⟨hd4.keep, hd4.slot, fun b o e n x => ?_, hd4.there, fun b xs e => ?_, fun b o u e => ?_, fun b ps e => ?_⟩
          · have l := ltS e
            rw [upd_ne (by intro z; subst z; omega)]
            exact hd4.free b o e n x
          · have z := hd4.tups b xs e
            rw [upd_ne (ne_of_none z d3)]; exact z
          · have z := hd4.frzs b o u e
            rw [upd_ne (ne_of_none z d3)]; exact z
          · obtain ⟨more, z⟩ := hd4.tbls b ps e
            exact ⟨more, by rw [upd_ne (ne_of_none z d3)]; exact z⟩
        · have hk := I4.hok
          rw [eP, eW] at hk
          exact HOk_add hk d3 ⟨Nat.le_of_lt hz, its, k, v3, a4⟩
        · intro b hb
          rcases List.mem_append.mp hb with hb | hb
          · obtain ⟨f0, f1, f2, f3, f4, f5⟩ := f2 b hb
            exact ⟨f3, f1, f4, f5⟩
          · have hb : b = s.heap.objs.size := by simpa using hb
            subst hb
            refine ⟨.inr I2.sz, fun e => ?_, fun x c hx e => ?_, fun p hp e => ?_⟩
            · have l : @LT.lt Nat _ X.env.locals s.heap.objs.size := I2.lt
              rw [← e] at l
              omega
            · obtain ⟨v, hv⟩ := I2.cell x c hx
              have l : @LT.lt Nat _ c s.heap.objs.size := hv.lt
              rw [e] at l
              omega
            · have l := ltS (I2.pin p hp).1
              rw [e] at l
              omega
      · obtain ⟨m, hm, _⟩ := I4.loc
        rw [eL] at hm
        exact ⟨m, hm⟩
      · rw [upd_ne (Nat.succ_ne_self _)]
        have z := I4.free
        rw [eL] at z
        exact z
      · intro e
        have l : @LT.lt Nat _ X.env.locals s.heap.objs.size := I2.lt
        rw [← e] at l
        omega
      · have := I2.sz
        exact Nat.le_succ_of_le this
      · intro x c hx e
        obtain ⟨v, hv⟩ := I2.cell x c hx
        have l : @LT.lt Nat _ c s.heap.objs.size := hv.lt
        rw [e] at l
        omega
      · intro p hp e
        have l := ltS (I2.pin p hp).1
        rw [e] at l
        omega
    · have TI := T.item X' eP eW eK eC i [(s.heap.objs.size, _)] s3 (subS ix σ) H3 (fun _ _ => False) J3p (stat fr3) t3 go
      rw [eA] at TI
      refine thn TI fun r s4 ⟨u, hr, h4⟩ => ?_
      subst hr
      refine thn h4 fun _ s5 ⟨x, H5, I5, r5, y5, st5, fr5⟩ => ?_
      have I5' := I5.pinned (stat fr5) (T.obj _ _ st5)
      have HG := hg _ s5 (subS ix σ) H5 x u _ I5' r5 (gk _ _ _ _ (step x H5 y5))
      rw [eP, eW, eA, exe] at HG
      refine thn HG fun _ s6 ⟨σ6, H6, I6, q6, l6, k6⟩ => ?_
      have HT := ht _ s6 σ6 H6 _ I6 q6
      rw [eP, eW, eA, exe] at HT
      refine thn HT fun b s7 ⟨H7, I7, q7⟩ => ?_
      have weak : ∀ {ps : List (Addr × Obj)} {H' : Hp} {s' : Shared}, Inv X' ps σ6 H' s' → Inv X' ps (subS ix σ) H' s' := fun I => I.weak l6.symm fun j v e => by
        have hs : slotS ix j = false := by
          unfold slotS
          unfold subS at e
          rw [List.getElem?_map] at e
          cases e2 : ix[j]? with
          | none => rw [e2] at e; cases e
          | some o =>
            rw [e2] at e
            cases o with
            | none => cases e
            | some z => rfl
        rw [k6 j hs]
        exact e
      have pinA : ∀ {σ' : L2.St} {H' : Hp} {s' : Shared}, Inv X' ([(s.heap.objs.size, { cls := .type "list", data := .seq its.toArray k })] ++ pinsAt fp s5.heap) σ' H' s' →
          s'.heap.get? s.heap.objs.size = some { cls := .type "list", data := .seq its.toArray k } ∧ H' s.heap.objs.size = none ∧ tn (i + 1) s'.heap ∧ ∀ b ∈ fp, H' b = none := fun {σ' H' s'} I => by
        have z := I.pin (s.heap.objs.size, _) (List.mem_append_right _ (List.mem_append_left _ (List.mem_singleton.mpr rfl)))
        refine ⟨z.1, z.2.1, T.keep _ _ _ st5 fun b hb o e => (I.pin (b, o) (List.mem_append_right _ (List.mem_append_right _ (mem_pinsAt hb e)))).1, fun b hb => ?_⟩
        obtain ⟨o, e, d⟩ := T.obj _ _ st5 b hb
        exact (I.pin (b, o) (List.mem_append_right _ (List.mem_append_right _ (mem_pinsAt hb e)))).2.1
      cases b with
      | false =>
        have q7 : N ys H7 := q7
        obtain ⟨m', hm, w7⟩ := hN ys H7 q7
        obtain ⟨p1, p2, p3, p4⟩ := pinA I7
        exact ⟨m', hm, i + 1, ys, H7, its, k, (weak I7).pins_of (fun _ z => (nomatch z)), p3, p4, w7, p1, v3, p2⟩
      | true =>
        have HE := he _ s7 σ6 H7 _ I7 q7
        rw [eP, eW, eA, exe] at HE
        refine thn HE fun y s8 ⟨z, H8, I8, r8, q8⟩ => ?_
        obtain ⟨m', hm, w8⟩ := hN _ H8 q8
        obtain ⟨p1, p2, p3, p4⟩ := pinA I8
        refine call_meets F.slot_list_append ⟨_, p1, rfl⟩ F.entry_list_append (F.args_list_append_2 _ _) (PySem.list_append s.heap.objs.size its.toArray k y (by rw [List.size_toArray, ← v3.length]; omega)) ⟨p1, ?_⟩
        have q := PySem.IsL.update p1 (fun a => a.push y)
        have other : ∀ b o, b ≠ s.heap.objs.size → s8.heap.get? b = some o → (s8.heap.update s.heap.objs.size (Obj.mapSeq fun a => a.push y)).get? b = some o := fun b o hb e => (Heap.get?_update_other s8.heap _ (Ne.symm hb)).trans e
        have eq : its.toArray.push y = (its ++ [y]).toArray := by simp
        have q : IsL (s8.heap.update s.heap.objs.size (Obj.mapSeq fun a => a.push y)) s.heap.objs.size (its.toArray.push y) _ := q
        rw [eq] at q
        refine ⟨m', hm, i + 1, ys ++ [z], H8, its ++ [y], _, ?_, T.keep _ _ _ p3 fun b hb o e => other b o (fun z => ?_) e, p4, w8, q, v3.append (.cons r8 .nil), p2⟩
        · have I8w : Inv X' [] (subS ix σ) H8 s8 := (weak I8).pins_of fun _ z => nomatch z
          refine I8w.turned (it := s.heap.objs.size) other p2 (okX.exf _ mD).1 (.inl mD) (okX.exf _ mD).2 fun p hp => ?_
          rw [eN] at hp
          cases hp
        · have l : @LT.lt Nat _ b s.heap.objs.size := hlt b hb
          rw [z] at l
          omega
  exact codeAny_compStart_list (loop _ rfl) (T.self X.A 0 _ _ _ st3 (loop _ rfl))
/-- [elt for tg in iter if ..]: a new list -/
def tLC (ix : List (Option Nat)) (wi : TI) (g : CB → TG) (tt : CB → TT) (te : CB → TE) : TE := fun σ H Q => wi σ H fun J H1 => ∀ b : CB, tLCg J (subS ix σ) (g b) (tt b) (te b) H1 Q
theorem pe_lc {tg elt iter : Expr} {ifs : List Expr} {pos : Pos} {wi : TI} {g : CB → TG} {tt : CB → TT} {te : CB → TE} (hc : X.calm = true) (ho : X.env.scope = osc) {N : List Str} (hN : X.N = N) (hcs : csOk osc sc N N' ix = true) (hi : PI X tg iter wi)
    (hb : ∀ b : CB, PG (cxC X osc sc N' b) tg (g b) ∧ PTs (cxC X osc sc N' b) ifs (tt b) ∧ PE (cxC X osc sc N' b) elt (te b)) (gk : ∀ b : CB, GK (slotS ix) (g b))
    (hs : ∀ x, foldedSetIterable iter X.env x = pure x := by intro _; rfl) : PE X (.ListComp elt [⟨tg, iter, ifs, 0⟩] sc pos) (tLC ix wi g tt te) := by
  subst hN
  have cs := CS.of hcs
  intro pins s σ H Q I h
  rw [eval_ListComp]
  have hcl := closureFor_eq (closes I cs ho)
  refine wpAny_comprehension_free (use := none) rfl hs hcl cs.kind cs.names (thn (hi pins s σ H _ I h) fun v s1 h1 => thn h1 fun itv s2 h2 => ?_)
  obtain ⟨it, fp, tn, J, H2, e, I2, T, st2, f2, rd⟩ := h2
  subst e
  refine wpAny_newObj_type ?_
  refine wpAny_newEnv_comp ?_
  have hb' := hb ⟨s2.heap.objs.size + 1, s2, H2, fp ++ [s2.heap.objs.size]⟩
  have rb := run_block (scope := sc) (pos := pos) (iter := iter) (R := compPost (model X.prog X.w) X.A X.xe none (EP X pins σ Q) (.ref s2.heap.objs.size) (s2.heap.objs.size + 1)) I2 cs ho hc T st2 f2 hb'.1 (gk _) hb'.2.1 hb'.2.2 (rd _) (fun ys H' s' B q => by
    obtain ⟨m, hm⟩ := B.ns
    refine ⟨m, hm, fun h' hsb => ?_⟩
    refine ⟨.ref s2.heap.objs.size, upd H' s2.heap.objs.size (.lst ys), ?_, rfl, q⟩
    exact B.inv.turned (it := s2.heap.objs.size + 1) (fun b o hb e => hsb.extBut b o hb e) B.cfree B.cl (.inr B.cn) B.cc B.cp)
  have sz : (s2.heap.push accObj).objs.size = s2.heap.objs.size + 1 := Heap.size_push ..
  show codeAny _ _ (.compStart _ 0 (.ref it) (.ref s2.heap.objs.size) { newEnv sc (s2.heap.push accObj).objs.size X.env.globals (cellsFrom ((s2.heap.push accObj).objs.size + 1) sc.names (closL X.env.cells sc.names [])) X.env.qual none .none (some X.env) builtinsNs with scope := relabel sc X.env }) (compPost _ _ _ none _ (.ref s2.heap.objs.size) (s2.heap.push accObj).objs.size) _
  rw [sz, relabel_eq, ho]
  exact rb
/-- x = [elt for ..], x a local of the frame on the same line: stored ahead of the block's end -/
def tSetC (i : Nat) (t : TE) : TS := fun D σ H => t σ H fun v H1 => D.nx (σ.set i (some v)) H1
theorem ps_setC {tg elt iter : Expr} {ifs : List Expr} {pos py spos : Pos} {wi : TI} {g : CB → TG} {tt : CB → TT} {te : CB → TE} {i : Nat} {y : Str} (hnd : X.N.Nodup) (hi' : X.N[i]? = some y) (hy : X.env.scope.names.lookup y = some .local)
    (hsw : swapsWith (.ListComp elt [⟨tg, iter, ifs, 0⟩] sc pos) (some (.Name y py)) spos.line X.env = pure true)
    (hc : X.calm = true) (ho : X.env.scope = osc) {N : List Str} (hN : X.N = N) (hcs : csOk osc sc N N' ix = true) (hi : PI X tg iter wi)
    (hb : ∀ b : CB, PG (cxC X osc sc N' b) tg (g b) ∧ PTs (cxC X osc sc N' b) ifs (tt b) ∧ PE (cxC X osc sc N' b) elt (te b)) (gk : ∀ b : CB, GK (slotS ix) (g b))
    (hs : ∀ x, foldedSetIterable iter X.env x = pure x := by intro _; rfl) : PS X (.Assign [.Name y py] (.ListComp elt [⟨tg, iter, ifs, 0⟩] sc pos) spos) (tSetC i (tLC ix wi g tt te)) := by
  have hN' := hN
  subst hN
  have cs := CS.of hcs
  intro pins s σ H D I h
  rw [exec_Assign_Name_used _ _ _ _ hsw]
  have hcl := closureFor_eq (closes I cs ho)
  refine wpAny_bind (wpAny_standAt (wpAny_bind ?_))
  show wpAny _ X.A (do let _ ← comprehension (.ListComp elt [⟨tg, iter, ifs, 0⟩] sc pos) sc X.env _ (newList []) false (eval iter X.env) (some (assign (.Name y py) X.env))) _ _ s
  refine wpAny_bind (wpAny_mono (wpAny_comprehension_free (use := some (assign (.Name y py) X.env)) (Q := fun _ s' => SP X pins D .next s') rfl hs hcl cs.kind cs.names
    (thn (hi pins s σ H _ I h) fun v s1 h1 => thn h1 fun itv s2 h2 => ?_)) (fun _ s' hq => wpAny_pure (wpAny_pure hq)) fun _ _ e => e)
  obtain ⟨it, fp, tn, J, H2, e, I2, T, st2, f2, rd⟩ := h2
  subst e
  refine wpAny_newObj_type ?_
  refine wpAny_newEnv_comp ?_
  have hb' := hb ⟨s2.heap.objs.size + 1, s2, H2, fp ++ [s2.heap.objs.size]⟩
  have rb := run_block (scope := sc) (pos := pos) (iter := iter) (R := compPost (model X.prog X.w) X.A X.xe (some (assign (.Name y py) X.env)) (fun _ s' => SP X pins D .next s') (.ref s2.heap.objs.size) (s2.heap.objs.size + 1)) I2 cs ho hc T st2 f2 hb'.1 (gk _) hb'.2.1 hb'.2.2 (rd _) (fun ys H' s' B q => by
    show wpAny _ X.A (assign (.Name y py) X.env (.ref s2.heap.objs.size)) _ _ s'
    refine wpAny_assign_Name (store_ok2 (v := .ref s2.heap.objs.size) B.inv hnd hi' (.inl hy) rfl (fun s'' I'' ⟨a, sb, ha⟩ => ?_) (.inr hy))
    have hne : s2.heap.objs.size + 1 ≠ a := by
      rcases ha with ha | ha
      · rw [ha]; exact B.cl
      · exact (B.cc y a ha).symm
    obtain ⟨m, hm⟩ := B.ns
    refine ⟨m, hm.sameBut sb hne, fun h' hsb => ?_⟩
    exact ⟨_, _, I''.turned (it := s2.heap.objs.size + 1) (fun b o hb e => hsb.extBut b o hb e) B.cfree B.cl (.inr B.cn) B.cc B.cp, q⟩)
  have sz : (s2.heap.push accObj).objs.size = s2.heap.objs.size + 1 := Heap.size_push ..
  show codeAny _ _ (.compStart _ 0 (.ref it) (.ref s2.heap.objs.size) { newEnv sc (s2.heap.push accObj).objs.size X.env.globals (cellsFrom ((s2.heap.push accObj).objs.size + 1) sc.names (closL X.env.cells sc.names [])) X.env.qual none .none (some X.env) builtinsNs with scope := relabel sc X.env }) (compPost _ _ _ _ _ (.ref s2.heap.objs.size) (s2.heap.push accObj).objs.size) _
  rw [sz, relabel_eq, ho]
  exact rb
end
end Tf

set_option Elab.async false
set_option linter.all false
set_option maxRecDepth 100000
set_option maxHeartbeats 4000000
namespace Tf
open PySem PySem.Spec PyProof.Rows L2

/-! ### zip of two lists -/
def Itz (K : PySem.W.Frag) (a b : Addr) : It :=
  ⟨fun i H => ∃ xs ys x y, SqL K H a xs ∧ SqL K H b ys ∧ xs[i]? = some x ∧ ys[i]? = some y,
   fun i H v H' => ∃ p x y, H p = none ∧ v = .ref p ∧ H' = upd H p (.tup [x, y]) ∧ (∀ xs, SqL K H a xs → xs[i]? = some x) ∧ (∀ ys, SqL K H b ys → ys[i]? = some y),
   fun i H => ∃ xs ys, SqL K H a xs ∧ SqL K H b ys ∧ (xs.length ≤ i ∨ ys.length ≤ i)⟩
def tnZip (z TI TO i1 i2 l1 l2 : Addr) (i : Nat) (h : Heap) : Prop := IsZip h z TI TO .none ∧ IsPair h TI (.ref i1) (.ref i2) ∧ (∃ a b, IsPair h TO a b) ∧ h.IsListIter i1 l1 i ∧ h.IsListIter i2 l2 i
theorem turn_zip {P : Program} {w : World} {K : PySem.W.Frag} {elts : List Expr} {k : Nat} {pos : Pos} {z TI TO i1 i2 l1 l2 : Addr} (D : ZipApart z TI TO i1 i2 l1 l2) :
    Turn P w K (.Tuple elts k pos) (Itz K l1 l2) [z, TI, TO, i1, i2] z (tnZip z TI TO i1 i2 l1 l2) where
  mem := by simp
  obj := fun i h st b hb => by
    obtain ⟨h1, h2, ⟨a, c, h3⟩, ⟨o4, h4, _, d4⟩, ⟨o5, h5, _, d5⟩⟩ := st
    simp only [List.mem_cons, List.not_mem_nil, or_false] at hb
    rcases hb with rfl | rfl | rfl | rfl | rfl
    · exact ⟨_, h1, fun v e => (nomatch e)⟩
    · exact ⟨_, h2, fun v e => (nomatch e)⟩
    · exact ⟨_, h3, fun v e => (nomatch e)⟩
    · exact ⟨_, h4, fun v e => by rw [d4] at e; cases e⟩
    · exact ⟨_, h5, fun v e => by rw [d5] at e; cases e⟩
  keep := fun i h h' st kk => by
    obtain ⟨h1, h2, ⟨a, c, h3⟩, h4, h5⟩ := st
    exact ⟨kk z (by simp) _ h1, kk TI (by simp) _ h2, ⟨a, c, kk TO (by simp) _ h3⟩, h4.at fun o e => kk i1 (by simp) o e, h5.at fun o e => kk i2 (by simp) o e⟩
  item := by
    intro X hP hw hK hc i pins s σ H E I hf st hg
    subst hP hw hK
    obtain ⟨h1, h2, ⟨a, c, h3⟩, h4, h5⟩ := st
    obtain ⟨xs, ys, x, y, q1, q2, hx, hy⟩ := hg
    obtain ⟨its, rv, p, hz⟩ := I.list q1
    obtain ⟨jts, rw', p', hz'⟩ := I.list q2
    obtain ⟨u, hu, ru⟩ := rv.get hx
    obtain ⟨u', hu', ru'⟩ := rw'.get hy
    have ltS : ∀ {h : Heap} {b : Addr} {o : Obj}, h.get? b = some o → @LT.lt Nat _ b h.objs.size := fun e => Heap.lt_size e
    refine wpAny_pyNext_zip_item D h1 h2 h3 h4 h5 p.isList p'.isList (x := u) (y := u') (by simpa using hu) (by simpa using hu') fun h' a1 a2 a3 a4 a5 a6 hk => ?_
    refine ⟨_, rfl, wpAny_letOwnedTupleGo_zip a1 fun h'' a1' sb => ?_⟩
    have ch : ∀ b ∈ [z, TI, TO, i1, i2], H b = none := fun b hb => (hf b hb).1
    have kk : ∀ b o, b ∉ [z, TO, i1, i2] → s.heap.get? b = some o → h''.get? b = some o := fun b o hb e => by
      simp only [List.mem_cons, List.not_mem_nil, or_false, not_or] at hb
      exact sb.extBut b o hb.1 (hk b o hb.1 hb.2.1 hb.2.2.1 hb.2.2.2 e)
    have eT : h''.get? s.heap.objs.size = some { cls := .type "tuple", data := .seq #[u, u'] } := sb.extBut _ _ (fun e => by have l := ltS h1; rw [← e] at l; omega) a5
    have sub : ∀ b, b ∈ [z, TO, i1, i2] → b ∈ [z, TI, TO, i1, i2] := fun b hb => by
      simp only [List.mem_cons, List.not_mem_nil, or_false] at hb ⊢
      rcases hb with r | r | r | r
      · exact .inl r
      · exact .inr (.inr (.inl r))
      · exact .inr (.inr (.inr (.inl r)))
      · exact .inr (.inr (.inr (.inr r)))
    have nT : H s.heap.objs.size = none := I.hok.fresh (Nat.le_refl _)
    have hok1 : HOk X.prog X.w H h'' := fun b o e => (I.hok b o e).stay (fun d v hd q => kk d v (fun hm => by
        have n := ch d (sub d hm)
        rcases hd with hd | hd
        · rw [hd, e] at n; cases n
        · rw [hd] at n; cases n) q) (fun _ q => q) fun _ _ q => q
    have hok2 : HOk X.prog X.w (upd H s.heap.objs.size (.tup [x, y])) h'' := HOk_add hok1 nT ⟨by show 2 ≤ sizeLine; decide, [u, u'], .cons ru (.cons ru' .nil), ⟨_, eT, rfl, _, rfl⟩⟩
    have un : Un (frs X.stack) [z, TO, i1, i2] H (upd H s.heap.objs.size (.tup [x, y])) s.heap h'' := by
      refine ⟨fun b o e _ _ hx => kk b o hx e, fun b o e _ _ hx => ⟨o.slots, kk b o hx e⟩, fun b o e n _ => ?_, fun b o e hx => ⟨o, kk b o hx e⟩, fun b zs e => ?_, fun b o v e => ?_, fun b ps e => ⟨#[], ?_⟩⟩
      · have l := ltS e
        rw [upd_ne (by intro q; subst q; omega)]; exact n
      · rw [upd_ne (ne_of_none e nT)]; exact e
      · rw [upd_ne (ne_of_none e nT)]; exact e
      · rw [upd_ne (ne_of_none e nT)]; simpa using e
    have I2 : Inv X pins σ (upd H s.heap.objs.size (.tup [x, y])) { s with heap := h'' } := I.call' rfl un hok2 I.bare fun b hb => by
      obtain ⟨f0, f1, f2, f3, f4, f5⟩ := hf b (sub b hb)
      exact ⟨f3, f1, f4, f5⟩
    refine ⟨.ref s.heap.objs.size, _, I2, rfl, ⟨s.heap.objs.size, x, y, nT, rfl, rfl, fun zs hq => ?_, fun zs hq => ?_⟩, ⟨a1', ?_, ⟨_, _, sb.extBut _ _ D.TOz a2⟩, a3.extBut sb.extBut D.i1z, a4.extBut sb.extBut D.i2z⟩, fun b hb => ?_⟩
    · rw [I.list_inj hq q1]; exact hx
    · rw [I.list_inj hq q2]; exact hy
    · exact sb.extBut _ _ D.TIz (hk TI _ D.TIz D.TITO D.TIi1 D.TIi2 h2)
    · have n := ch b hb
      obtain ⟨o, e⟩ : ∃ o, s.heap.get? b = some o := by
        simp only [List.mem_cons, List.not_mem_nil, or_false] at hb
        rcases hb with rfl | rfl | rfl | rfl | rfl
        · exact ⟨_, h1⟩
        · exact ⟨_, h2⟩
        · exact ⟨_, h3⟩
        · obtain ⟨o, e, _⟩ := h4; exact ⟨o, e⟩
        · obtain ⟨o, e, _⟩ := h5; exact ⟨o, e⟩
      have l := ltS e
      rw [upd_ne (by intro q; subst q; omega)]
      exact n
  done := by
    intro X hP hw hK hc i pins s σ H E I hf st hg
    subst hP hw hK
    obtain ⟨h1, h2, ⟨a, c, h3⟩, h4, h5⟩ := st
    obtain ⟨xs, ys, q1, q2, he⟩ := hg
    obtain ⟨its, rv, p, hz⟩ := I.list q1
    obtain ⟨jts, rw', p', hz'⟩ := I.list q2
    have l1 := rv.length
    have l2 := rw'.length
    refine wpAny_pyNext_zip_end (I.ok.hd hc) D h1 h2 h3 h4 h5 p.isList p'.isList (by rcases he with e | e; · left; simp; omega
                                                                                     · right; simp; omega) fun h' hk => ⟨rfl, ?_⟩
    have ch : ∀ b ∈ [z, TI, TO, i1, i2], H b = none := fun b hb => (hf b hb).1
    have sub : ∀ b, b ∈ [z, TO, i1, i2] → b ∈ [z, TI, TO, i1, i2] := fun b hb => by
      simp only [List.mem_cons, List.not_mem_nil, or_false] at hb ⊢
      rcases hb with r | r | r | r
      · exact .inl r
      · exact .inr (.inr (.inl r))
      · exact .inr (.inr (.inr (.inl r)))
      · exact .inr (.inr (.inr (.inr r)))
    have kk : ∀ b o, b ∉ [z, TO, i1, i2] → s.heap.get? b = some o → h'.get? b = some o := fun b o hb e => by
      simp only [List.mem_cons, List.not_mem_nil, or_false, not_or] at hb
      exact hk b o hb.1 hb.2.1 hb.2.2.1 hb.2.2.2 e
    have hok1 : HOk X.prog X.w H h' := fun b o e => (I.hok b o e).stay (fun d v hd q => kk d v (fun hm => by
        have n := ch d (sub d hm)
        rcases hd with hd | hd
        · rw [hd, e] at n; cases n
        · rw [hd] at n; cases n) q) (fun _ q => q) fun _ _ q => q
    have un : Un (frs X.stack) [z, TO, i1, i2] H H s.heap h' :=
      ⟨fun b o e _ _ hx => kk b o hx e, fun b o e _ _ hx => ⟨o.slots, kk b o hx e⟩, fun b o e n _ => n, fun b o e hx => ⟨o, kk b o hx e⟩, fun b zs e => e, fun b o v e => e, fun b ps e => ⟨#[], by simpa using e⟩⟩
    exact I.call' rfl un hok1 I.bare fun b hb => by
      obtain ⟨f0, f1, f2, f3, f4, f5⟩ := hf b (sub b hb)
      exact ⟨f3, f1, f4, f5⟩
  self := fun _ _ _ _ _ st h => wpAny_pyIter_zip st.1 h
section
variable {X : Cx}
def iZip (K : PySem.W.Frag) (ta : TA) : TI := fun σ H R => ta σ H fun vs H1 => ∃ l1 l2, vs = [.ref l1, .ref l2] ∧ (∃ xs, SqL K H1 l1 xs) ∧ (∃ ys, SqL K H1 l2 ys) ∧ R (Itz K l1 l2) H1
theorem pi_zip {a b : Expr} {ta : TA} {elts : List Expr} {k : Nat} {tp p pos : Pos} (hg : Gl X "zip") (hm : X.mg "zip" = none) (ha : PA X [a, b] ta) (hs : starEach [a, b] X.env = [(false, eval a X.env), (false, eval b X.env)] := by rfl) (hs2 : starEach [b] X.env = [(false, eval b X.env)] := by rfl) :
    PI X (.Tuple elts k tp) (.Call (.Name "zip" p) [a, b] [] pos) (iZip X.K ta) := by
  intro pins s σ H R I h
  refine Call_ (ld_blt I hg hm bt_zip (PyProof.Rows.callWith_type1 (thn (ha pos pins s σ H _ I h) fun us s1 ⟨vs, H1, I1, r1, q1⟩ => ?_) (by rw [hs, hs2]) (by rw [hs2]; rfl)))
  obtain ⟨l1, l2, e, ⟨xs, q1⟩, ⟨ys, q2⟩, q⟩ := q1
  subst e
  obtain ⟨u, w', rfl, ru, rw'⟩ := vals2 r1
  cases (show u = Value.ref l1 from ru)
  cases (show w' = Value.ref l2 from rw')
  obtain ⟨its, rv, p1, hz⟩ := I1.list q1
  obtain ⟨jts, rv', p2, hz'⟩ := I1.list q2
  have lt1 : l1 < s1.heap.objs.size := by obtain ⟨o, n, e, _⟩ := p1; exact Heap.lt_size e
  have lt2 : l2 < s1.heap.objs.size := by obtain ⟨o, n, e, _⟩ := p2; exact Heap.lt_size e
  refine call_zip_2 p1.isList p2.isList fun h' a1 a2 a3 a4 a5 a6 hk => ?_
  refine wpAny_pyIter_zip (s := { s1 with heap := h' }) a1 ?_
  refine ⟨_, [s1.heap.objs.size + 4, s1.heap.objs.size + 2, s1.heap.objs.size + 3, s1.heap.objs.size, s1.heap.objs.size + 1], _, _, H1, rfl, I1.kept (t' := s1.toks) hk, turn_zip (zipApart_new lt1 lt2), ⟨a1, a2, ⟨_, _, a3⟩, a4, a5⟩, fun b hb => ?_, q⟩
  have hb : s1.heap.objs.size ≤ b := by
    simp only [List.mem_cons, List.not_mem_nil, or_false] at hb
    rcases hb with rfl | rfl | rfl | rfl | rfl
    · exact Nat.le_add_right _ _
    · exact Nat.le_add_right _ _
    · exact Nat.le_add_right _ _
    · exact Nat.le_refl _
    · exact Nat.le_add_right _ _
  exact I1.fpOk hb (I1.hok.fresh hb)

/-! ### ranges with a step of -1 -/
def Itd (hi : Int) (n : Nat) : It := ⟨fun i _ => i < n, fun i H x H' => H' = H ∧ x = .int (hi - i), fun i _ => n ≤ i⟩
theorem turn_down {P : Program} {w : World} {K : PySem.W.Frag} {tg : Expr} (it : Addr) (hi : Int) (n : Nat) : Turn P w K tg (Itd hi n) [it] it (fun i h => IsRangeIter h it (hi + (i : Nat) * (-1)) ((n : Int) - (i : Nat)) (-1)) where
  mem := by simp
  obj := fun i h st b hb => by
    have e : b = it := by simpa using hb
    subst e
    exact ⟨_, st, fun v z => by
      have z' : Data.fields _ = Data.cell v := z
      cases z'⟩
  keep := fun i h h' st k => k it (by simp) _ st
  item := by
    intro X hP hw hK hc i pins s σ H E I hf st hg
    subst hP hw hK
    obtain ⟨f0, f1, f2, f3, f4, f5⟩ := hf it (by simp)
    have W := Walks.range (prog := X.prog) (w := X.w) (I.ok.hd hc) it hi (-1) n
    refine W.item i s _ _ hg st fun v h' tk hv st' kk => ?_
    obtain ⟨t, rfl⟩ := hv
    have I1 : Inv X pins σ H { s with heap := h', toks := tk } := I.turned (fun b o hb e => kk b o (by simpa using hb) e) f0 f1 f3 f4 f5
    refine ⟨_, rfl, go_of (s := { s with heap := h', toks := tk }) (n := "range_iterator") st' rfl rfl (by decide) ⟨.int (hi - i), H, I1, ⟨t, ?_⟩, ⟨rfl, rfl⟩, st', fun b hb => (hf b hb).1⟩⟩
    have : hi + (i : Int) * (-1) = hi - i := by omega
    rw [this]
  done := by
    intro X hP hw hK hc i pins s σ H E I hf st hg
    subst hP hw hK
    obtain ⟨f0, f1, f2, f3, f4, f5⟩ := hf it (by simp)
    exact wpAny_pyNext_range_end (I.ok.hd hc) st (by have : n ≤ i := hg; omega) fun h' eb => ⟨rfl, I.turned (t' := s.toks) (fun b o hb e => eb b o hb e) f0 f1 f3 f4 f5⟩
  self := fun _ _ _ _ _ st h => wpAny_pyIter_rangeiter st h
theorem small_down {a b : Int} (ha : -(2 ^ 62) ≤ a) (ha' : a < 2 ^ 62) (hb : -(2 ^ 62) ≤ b) (hb' : b < 2 ^ 62) : Builtin.Range.small a b (-1) = true := by
  unfold Builtin.Range.small
  unfold Builtin.Range.rangeSize
  simp only [Builtin.Range.rangeFitsLong, Bool.and_eq_true, Bool.or_eq_true, decide_eq_true_eq, beq_iff_eq, show ¬ ((-1 : Int) > 0) by decide, if_false, show -(-1 : Int) = 1 by decide, Int.ediv_one]
  split <;> omega
def iRngD (ta : TA) : TI := fun σ H R => ta σ H fun vs H1 => ∃ i j : Int, vs = [.int i, .int j, .int (-1)] ∧ (-(2 ^ 62) ≤ i ∧ i < 2 ^ 62 ∧ -(2 ^ 62) ≤ j ∧ j < 2 ^ 62) ∧ R (Itd i (i - j).toNat) H1
theorem pi_rangeD {tg : Expr} {a b c : Expr} {ta : TA} {p pos : Pos} (hg : Gl X "range") (hm : X.mg "range" = none) (ha : PA X [a, b, c] ta) (hs : starEach [a, b, c] X.env = (false, eval a X.env) :: starEach [b, c] X.env := by rfl) (hs2 : (backTo pos (starEach [b, c] X.env)).any (·.1) = false := by rfl) :
    PI X tg (.Call (.Name "range" p) [a, b, c] [] pos) (iRngD ta) := by
  intro pins s σ H R I h
  refine Call_ (ld_blt I hg hm bt_range (PyProof.Rows.callWith_type1 (thn (ha pos pins s σ H _ I h) fun us s1 ⟨vs, H1, I1, r1, q1⟩ => ?_) hs hs2))
  obtain ⟨i, j, e, ⟨q1, q2, q3, q4⟩, q⟩ := q1
  subst e
  cases r1 with
  | cons r rr =>
    cases rr with
    | cons r' rr =>
      obtain ⟨u, rfl, t'', rfl⟩ := vals1 rr
      obtain ⟨t, rfl⟩ := r
      obtain ⟨t', rfl⟩ := r'
      refine call_range_3 (by decide) ?_ (.inl (PyProof.noPylong_of_log2 (by decide +kernel)))
      refine wpAny_pyIter_range (IsRange.new ..) (small_down q1 q2 q3 q4) ?_
      have I2 : Inv X pins σ H1 { s1 with heap := s1.heap.push { cls := .type "range", data := .fields #[.int i t, .int j t', .int (-1) t''] }, toks := s1.toks } := I1.kept fun b o e => Heap.get?_push_of_some _ e
      refine ⟨(s1.heap.push { cls := .type "range", data := .fields #[.int i t, .int j t', .int (-1) t''] }).objs.size, [(s1.heap.push { cls := .type "range", data := .fields #[.int i t, .int j t', .int (-1) t''] }).objs.size], _, _, H1, rfl,
        I2.kept (t' := s1.toks) fun b o e => Heap.get?_push_of_some _ e, turn_down _ i (i - j).toNat, ?_, fun b hb => ?_, q⟩
      · have e1 : i + ((0 : Nat) : Int) * (-1) = i := by simp
        have e2 : (((i - j).toNat : Nat) : Int) - ((0 : Nat) : Int) = Builtin.Range.rangeSize i j (-1) := by
          unfold Builtin.Range.rangeSize
          rw [if_neg (by decide), show -(-1 : Int) = 1 by decide, Int.ediv_one]
          split <;> omega
        show IsRangeIter _ _ (i + ((0 : Nat) : Int) * (-1)) ((((i - j).toNat : Nat) : Int) - ((0 : Nat) : Int)) (-1)
        rw [e1, e2]
        exact Heap.get?_push_size _ rfl
      · have e : b = (s1.heap.push { cls := .type "range", data := .fields #[.int i t, .int j t', .int (-1) t''] }).objs.size := by simpa using hb
        subst e
        exact I2.fpOk (Nat.le_refl _) (I2.hok.fresh (Nat.le_refl _))

/-! ### sum of a list of ints -/
theorem call_sum (hc : X.calm = true) : CallR X (.builtin "sum") (fun xs H Q => ∃ p ns, xs = [.ref p] ∧ SqL X.K H p (ns.map V.int) ∧ Q (.int (List.sum ns)) H) := by
  intro pins s σ H xs us Q I r h
  obtain ⟨p, ns, rfl, hq, q⟩ := h
  obtain ⟨u, rfl, ru⟩ := vals1 r
  cases (show u = Value.ref p from ru)
  obtain ⟨its, rv, pl, hz⟩ := I.list hq
  have hi := intsAre_of rv
  obtain ⟨zs, ez⟩ := hi.allInts.items
  have hl : s.heap.IsList p (intItems zs) := ez ▸ pl.isList
  have en : preSum (numAt zs) zs.size = ns.sum := by
    rw [preSum_eq, List.take_of_length_le (by simp)]
    have := hi.numsOf
    rw [← this]
    have e2 : its = (intItems zs).toList := by rw [← ez]
    rw [e2, nums_intItems]
  refine sum_intListG (I.ok.hd hc) hl fun h' tk t' hk => ?_
  rw [en]
  exact ⟨.int ns.sum, H, I.kept hk, ⟨t', rfl⟩, q⟩
/-! ### a comprehension's walk, by an invariant -/
section
variable {K : PySem.W.Frag} {σ0 : L2.St} {g : TG} {tt : TT} {te : TE} {H : Hp} {Q : VK}
theorem lcg_list {a : Addr} {xs : List V} (Pv : Nat → List V → Hp → Prop) (h0 : Pv 0 [] H) (hn : xs.length < sizeLine) (hl : ∀ i ys H, Pv i ys H → SqL K H a xs ∧ ys.length ≤ i)
    (hs : ∀ i x ys H, xs[i]? = some x → Pv i ys H → g x σ0 H fun σ2 H2 => tt σ2 H2 fun b H3 => if b = true then te σ2 H3 fun y H4 => Pv (i + 1) (ys ++ [y]) H4 else Pv (i + 1) ys H3)
    (hd : ∀ ys H, Pv xs.length ys H → ∀ p, H p = none → Q (.ref p) (upd H p (.lst ys))) : tLCg (Itl K a) σ0 g tt te H Q := by
  refine ⟨fun i m ys H => m = xs.length - i ∧ i ≤ xs.length ∧ Pv i ys H, ⟨_, rfl, Nat.zero_le _, h0⟩, ?_⟩
  rintro i m ys H ⟨rfl, hi, p⟩
  obtain ⟨q, hy⟩ := hl i ys H p
  refine ⟨by omega, ?_⟩
  by_cases hlt : i < xs.length
  · refine .inr ⟨⟨xs, xs[i], q, by simp [hlt]⟩, Pv (i + 1), fun ys' H' p' => ⟨xs.length - (i + 1), by omega, rfl, hlt, p'⟩, fun x H' y => ?_⟩
    obtain ⟨e, y⟩ := y
    subst e
    exact hs i x ys _ (y xs q) p
  · have e : i = xs.length := by omega
    subst e
    exact .inl ⟨⟨xs, q, Nat.le_refl _⟩, hd ys H p⟩
theorem lcg_range {lo : Int} {n : Nat} (Pv : Nat → List V → Hp → Prop) (h0 : Pv 0 [] H) (hn : n < sizeLine) (hl : ∀ i ys H, Pv i ys H → ys.length ≤ i)
    (hs : ∀ i ys H, i < n → Pv i ys H → g (.int (lo + i)) σ0 H fun σ2 H2 => tt σ2 H2 fun b H3 => if b = true then te σ2 H3 fun y H4 => Pv (i + 1) (ys ++ [y]) H4 else Pv (i + 1) ys H3)
    (hd : ∀ ys H, Pv n ys H → ∀ p, H p = none → Q (.ref p) (upd H p (.lst ys))) : tLCg (Itr lo n) σ0 g tt te H Q := by
  refine ⟨fun i m ys H => m = n - i ∧ i ≤ n ∧ Pv i ys H, ⟨_, rfl, Nat.zero_le _, h0⟩, ?_⟩
  rintro i m ys H ⟨rfl, hi, p⟩
  have hy := hl i ys H p
  refine ⟨by omega, ?_⟩
  by_cases hlt : i < n
  · refine .inr ⟨hlt, Pv (i + 1), fun ys' H' p' => ⟨n - (i + 1), by omega, rfl, hlt, p'⟩, fun x H' y => ?_⟩
    obtain ⟨e, y⟩ := y
    subst e y
    exact hs i ys _ hlt p
  · have e : i = n := by omega
    subst e
    exact .inl ⟨Nat.le_refl _, hd ys H p⟩
theorem lcg_zip {a b : Addr} {xs ys : List V} (Pv : Nat → List V → Hp → Prop) (h0 : Pv 0 [] H) (hn : xs.length < sizeLine) (hxy : xs.length = ys.length) (hl : ∀ i zs H, Pv i zs H → SqL K H a xs ∧ SqL K H b ys ∧ zs.length ≤ i)
    (hs : ∀ i x y zs H p, xs[i]? = some x → ys[i]? = some y → Pv i zs H → H p = none → g (.ref p) σ0 (upd H p (.tup [x, y])) fun σ2 H2 => tt σ2 H2 fun b H3 => if b = true then te σ2 H3 fun y H4 => Pv (i + 1) (zs ++ [y]) H4 else Pv (i + 1) zs H3)
    (hd : ∀ zs H, Pv xs.length zs H → ∀ p, H p = none → Q (.ref p) (upd H p (.lst zs))) : tLCg (Itz K a b) σ0 g tt te H Q := by
  refine ⟨fun i m zs H => m = xs.length - i ∧ i ≤ xs.length ∧ Pv i zs H, ⟨_, rfl, Nat.zero_le _, h0⟩, ?_⟩
  rintro i m zs H ⟨rfl, hi, p⟩
  obtain ⟨q, q', hy⟩ := hl i zs H p
  refine ⟨by omega, ?_⟩
  by_cases hlt : i < xs.length
  · have hlt' : i < ys.length := by omega
    refine .inr ⟨⟨xs, ys, xs[i], ys[i], q, q', by simp [hlt], by simp [hlt']⟩, Pv (i + 1), fun ys' H' p' => ⟨xs.length - (i + 1), by omega, rfl, hlt, p'⟩, fun x H' y => ?_⟩
    obtain ⟨pp, x1, y1, hn, e1, e2, hx, hy⟩ := y
    subst e1 e2
    exact hs i x1 y1 zs H pp (hx xs q) (hy ys q') p hn
  · have e : i = xs.length := by omega
    subst e
    exact .inl ⟨⟨xs, ys, q, q', .inl (Nat.le_refl _)⟩, hd zs H p⟩
/-! .. whose elements are data, each of a place -/
theorem Reps.snoc {vs : List V} {ds : List PyData} {v : V} {d : PyData} (h : Reps K H vs ds) (k : Rep K H v d) : Reps K H (vs ++ [v]) (ds ++ [d]) := by
  induction vs generalizing ds with
  | nil => cases h; exact .cons k .nil
  | cons x xs ih => cases h with | cons a b => exact .cons a (ih b)
theorem Reps.length : ∀ {vs : List V} {ds : List PyData}, Reps K H vs ds → vs.length = ds.length
  | _, _, .nil => rfl
  | _, _, .cons _ h => by rw [List.length_cons, List.length_cons, Reps.length h]
theorem Reps.get : ∀ {vs : List V} {ds : List PyData} {i : Nat} {d : PyData}, Reps K H vs ds → ds[i]? = some d → ∃ v, vs[i]? = some v ∧ Rep K H v d
  | _, _, _, _, .nil, e => by simp at e
  | _, _, 0, _, .cons r _, e => by simp at e; subst e; exact ⟨_, rfl, r⟩
  | _, _, i + 1, d, .cons _ t, e => by
    obtain ⟨u, h1, h2⟩ := Reps.get (i := i) (d := d) t (by simpa using e)
    exact ⟨u, by simpa using h1, h2⟩
theorem lcg_mapR {lo : Int} {n : Nat} (f : Nat → PyData) (hn : n < sizeLine)
    (hs : ∀ i H1, i < n → Same H H1 → g (.int (lo + i)) σ0 H1 fun σ2 H2 => te σ2 H2 fun y H4 => Same H1 H4 ∧ Rep K H4 y (f i))
    (mono : ∀ x H1 Q Q', (∀ y H4, Q y H4 → Q' y H4) → (g x σ0 H1 fun σ2 H2 => te σ2 H2 Q) → (g x σ0 H1 fun σ2 H2 => te σ2 H2 Q'))
    (hd : ∀ ys H1, Same H H1 → Reps K H1 ys ((List.range n).map f) → ∀ p, H1 p = none → Q (.ref p) (upd H1 p (.lst ys))) : tLCg (Itr lo n) σ0 g tNoTest te H Q := by
  refine lcg_range (fun i ys H1 => Same H H1 ∧ Reps K H1 ys ((List.range i).map f)) ⟨Same.refl H, .nil⟩ hn (fun i ys H1 ⟨_, r⟩ => by rw [r.length]; simp) ?_ fun ys H1 ⟨s, r⟩ => hd ys H1 s r
  rintro i ys H1 hi ⟨s, r⟩
  show g _ σ0 H1 fun σ2 H2 => te σ2 H2 _
  refine mono _ _ _ _ (fun y H4 ⟨s4, r4⟩ => ⟨s.trans s4, ?_⟩) (hs i H1 hi s)
  rw [List.range_succ, List.map_append]
  exact Reps.snoc (r.same s4) r4
end
end
end Tf

set_option Elab.async false
set_option linter.all false
set_option maxRecDepth 100000
set_option maxHeartbeats 4000000
namespace Dm
open PySem PySem.Spec PyProof.Rows L2 Tf

/-! ### what a name holds: data, or a list that the frame alone holds -/
inductive Sl where
  | val (d : PyData)
  | own (ds : List PyData)
def Sl.dat : Sl → PyData
  | .val d => d
  | .own ds => .list ds
abbrev En := List (Option Sl)

/-! ### heaps: H0 the part that is never written any more -/
theorem same_upd2 {H0 H : Hp} {p : Addr} {o : HO} (h : Same H0 H) : Same (upd H0 p o) (upd H p o) := fun b u e => by
  by_cases hb : b = p
  · subst hb; rw [upd_same] at e ⊢; exact e
  · rw [upd_ne hb] at e ⊢; exact h b u e
structure Ext (H0 H H0' H' : Hp) : Prop where
  s : Same H H'
  s0 : Same H0 H0'
  s1 : Same H0' H'
  own : ∀ a o, H a = some o → H0 a = none → H0' a = none
theorem Ext.refl {H0 H : Hp} (h : Same H0 H) : Ext H0 H H0 H := ⟨Same.refl _, Same.refl _, h, fun _ _ _ h => h⟩
theorem Ext.trans {H0 H H1 J1 H2 J2 : Hp} (a : Ext H0 H H1 J1) (b : Ext H1 J1 H2 J2) : Ext H0 H H2 J2 :=
  ⟨a.s.trans b.s, a.s0.trans b.s0, b.s1, fun x o h h0 => b.own x o (a.s x o h) (a.own x o h h0)⟩
/-- one base, two stretches -/
theorem Ext.chain {S0 HB H0 H H1 J1 : Hp} (a : Ext S0 HB H0 H) (b : Ext H0 H H1 J1) : Ext S0 HB H1 J1 :=
  ⟨a.s.trans b.s, a.s0.trans b.s0, b.s1, fun x o h h0 => b.own x o (a.s x o h) (a.own x o h h0)⟩
theorem Ext.rebase {S0 HB H0 H : Hp} (a : Ext S0 HB H0 H) : Ext H0 HB H0 H := ⟨a.s, Same.refl _, a.s1, fun _ _ _ h => h⟩
theorem Ext.unbase {S0 HB H0 H H1 J1 : Hp} (a : Ext S0 HB H0 H) (b : Ext H0 HB H1 J1) : Ext S0 HB H1 J1 :=
  ⟨b.s, a.s0.trans b.s0, b.s1, fun x o h h0 => b.own x o h (a.own x o h h0)⟩
theorem Ext.alloc {H0 H : Hp} {p : Addr} (h : Same H0 H) (hp : H p = none) (o : HO) : Ext H0 H H0 (upd H p o) :=
  ⟨Same.upd hp o, Same.refl _, h.trans (Same.upd hp o), fun _ _ _ h => h⟩
theorem Ext.allocF {H0 H : Hp} {p : Addr} (h : Same H0 H) (hp : H p = none) (o : HO) : Ext H0 H (upd H0 p o) (upd H p o) :=
  ⟨Same.upd hp o, Same.upd (h.free hp) o, same_upd2 h, fun a o' ha h0 => by rw [upd_ne (ne_of_none ha hp)]; exact h0⟩

section
variable {K : PySem.W.Frag}
/-- read: whatever lies there -/
def SlP (K : PySem.W.Frag) (H0 H : Hp) (v : V) : Sl → Prop
  | .val d => Rep K H0 v d
  | .own ds => ∃ a vs, v = .ref a ∧ H a = some (.lst vs) ∧ Reps K H0 vs ds
/-- held: a list is new since HB -/
def SlH (K : PySem.W.Frag) (HB H0 H : Hp) (v : V) : Sl → Prop
  | .val d => Rep K H0 v d
  | .own ds => ∃ a vs, v = .ref a ∧ HB a = none ∧ H0 a = none ∧ H a = some (.lst vs) ∧ Reps K H0 vs ds
theorem SlH.p {HB H0 H : Hp} {v : V} : ∀ {s : Sl}, SlH K HB H0 H v s → SlP K H0 H v s
  | .val _, h => h
  | .own _, ⟨a, vs, e, _, _, h1, h2⟩ => ⟨a, vs, e, h1, h2⟩
theorem SlH.base {HB HB' H0 H : Hp} {v : V} (s : Same HB HB') : ∀ {r : Sl}, SlH K HB' H0 H v r → SlH K HB H0 H v r
  | .val _, h => h
  | .own _, ⟨a, vs, e, h0, h1, h2, h3⟩ => ⟨a, vs, e, s.free h0, h1, h2, h3⟩
theorem SlH.ext {HB H0 H H0' H' : Hp} {v : V} (x : Ext H0 H H0' H') : ∀ {r : Sl}, SlH K HB H0 H v r → SlH K HB H0' H' v r
  | .val _, h => Rep.same x.s0 h
  | .own _, ⟨a, vs, e, h0, h1, h2, h3⟩ => ⟨a, vs, e, h0, x.own a _ h2 h1, x.s _ _ h2, Reps.same x.s0 h3⟩
theorem SlP.ext {H0 H H0' H' : Hp} {v : V} (x : Ext H0 H H0' H') : ∀ {r : Sl}, SlP K H0 H v r → SlP K H0' H' v r
  | .val _, h => Rep.same x.s0 h
  | .own _, ⟨a, vs, e, h2, h3⟩ => ⟨a, vs, e, x.s _ _ h2, Reps.same x.s0 h3⟩
/-- its data, over the whole heap -/
theorem SlP.rep {H0 H : Hp} {v : V} (s : Same H0 H) : ∀ {r : Sl}, SlP K H0 H v r → Rep K H v r.dat
  | .val _, h => Rep.same s h
  | .own _, ⟨a, vs, e, h2, h3⟩ => by subst e; exact .list (SqL.of h2) (Reps.same s h3)
/-- a list, to be read -/
theorem SlP.lst {H0 H : Hp} {v : V} {ds : List PyData} (s : Same H0 H) : ∀ {r : Sl}, SlP K H0 H v r → r.dat = .list ds → ∃ a vs, v = .ref a ∧ SqL K H a vs ∧ Reps K H0 vs ds
  | .val _, h, e => by
    cases h with
    | list h1 h2 => cases e; exact ⟨_, _, rfl, s.seq h1, h2⟩
    | _ => cases e
  | .own _, ⟨a, vs, e, h2, h3⟩, e2 => by cases e2; exact ⟨a, vs, e, SqL.of h2, h3⟩
theorem SlP.tup {H0 H : Hp} {v : V} {ds : List PyData} : ∀ {r : Sl}, SlP K H0 H v r → r.dat = .tuple ds → ∃ a vs, v = .ref a ∧ SqT K H0 a vs ∧ Reps K H0 vs ds
  | .val _, h, e => by
    cases h with
    | tuple h1 h2 => cases e; exact ⟨_, _, rfl, h1, h2⟩
    | _ => cases e
  | .own _, _, e => by cases e
theorem SlP.int {H0 H : Hp} {v : V} {i : Int} (h : SlP K H0 H v (.val (.int i))) : v = .int i := by cases (show Rep K H0 v (.int i) from h); rfl
theorem SlP.bool {H0 H : Hp} {v : V} {i : Bool} (h : SlP K H0 H v (.val (.bool i))) : v = .bl i := by cases (show Rep K H0 v (.bool i) from h); rfl
theorem SlP.str {H0 H : Hp} {v : V} {i : Str} (h : SlP K H0 H v (.val (.str i))) : v = .str i := by cases (show Rep K H0 v (.str i) from h); rfl
theorem SlP.none {H0 H : Hp} {v : V} (h : SlP K H0 H v (.val .none)) : v = .non := by cases (show Rep K H0 v .none from h); rfl
theorem rep_non {H : Hp} {v : V} {d : PyData} (h : Rep K H v d) : v = .non ↔ d = .none := by
  cases h <;> simp

structure ER (K : PySem.W.Frag) (HB H0 H : Hp) (σ : L2.St) (ρ : En) : Prop where
  len : σ.length = ρ.length
  get : ∀ (i : Nat) s, ρ[i]? = some (some s) → ∃ v, σ[i]? = some (some v) ∧ SlH K HB H0 H v s
  apart : ∀ (i j : Nat) a ds es, i ≠ j → ρ[i]? = some (some (.own ds)) → ρ[j]? = some (some (.own es)) → σ[i]? = some (some (.ref a)) → σ[j]? ≠ some (some (.ref a))
theorem ER.ext {HB H0 H H0' H' : Hp} {σ : L2.St} {ρ : En} (x : Ext H0 H H0' H') (e : ER K HB H0 H σ ρ) : ER K HB H0' H' σ ρ :=
  ⟨e.len, fun i s h => by obtain ⟨v, h1, h2⟩ := e.get i s h; exact ⟨v, h1, h2.ext x⟩, e.apart⟩

/-! ### what a frame's state is: plain, or with an object -/
structure Rl where
  r : Hp → Hp → Hp → L2.St → En → Prop
  slot : Nat → Prop
structure ST (R : Rl) (HB H0 H : Hp) (σ : L2.St) (ρ : En) : Prop where
  r : R.r HB H0 H σ ρ
class RelOk (K : outParam PySem.W.Frag) (R : Rl) : Prop where
  ext : ∀ {HB H0 H H0' H' : Hp} {σ : L2.St} {ρ : En}, Ext H0 H H0' H' → R.r HB H0 H σ ρ → R.r HB H0' H' σ ρ
  get : ∀ {HB H0 H : Hp} {σ : L2.St} {ρ : En} {i : Nat} {s : Sl}, R.r HB H0 H σ ρ → R.slot i → ρ[i]? = some (some s) → ∃ v, σ[i]? = some (some v) ∧ SlH K HB H0 H v s
  set : ∀ {HB H0 H H0' H' : Hp} {σ : L2.St} {ρ : En} {i : Nat} {v : V} {s : Sl}, R.r HB H0 H σ ρ → R.slot i → Ext H0 H H0' H' → Same HB H → SlH K H H0' H' v s → R.r HB H0' H' (σ.set i (some v)) (ρ.set i (some s))
  write : ∀ {HB H0 H : Hp} {σ : L2.St} {ρ : En} {i : Nat} {a : Addr} {ds es : List PyData} {vs ys : List V}, R.r HB H0 H σ ρ → R.slot i → ρ[i]? = some (some (.own ds)) → σ[i]? = some (some (.ref a)) → HB a = none → H0 a = none → H a = some (.lst vs) → Reps K H0 ys es → R.r HB H0 (upd H a (.lst ys)) σ (ρ.set i (some (.own es)))
  frz : ∀ {S0 HB H0 H : Hp} {σ : L2.St} {ρ : En} {i : Nat} {ds : List PyData}, R.r HB H0 H σ ρ → ρ[i]? = some (some (.own ds)) → Ext S0 HB H0 H → ∃ H0', Ext S0 HB H0' H ∧ R.r HB H0' H σ (ρ.set i (some (.val (.list ds))))
theorem ST.ext {R : Rl} [RelOk K R] {HB H0 H H0' H' : Hp} {σ : L2.St} {ρ : En} (x : Ext H0 H H0' H') (e : ST R HB H0 H σ ρ) : ST R HB H0' H' σ ρ := ⟨RelOk.ext (K := K) x e.r⟩
def PR (K : PySem.W.Frag) : Rl := ⟨ER K, fun _ => True⟩
variable {R : Rl} [RelOk K R]
/-! ### judgements over the readings -/
def RX {α : Type} (K : PySem.W.Frag) (R : Rl) (P : Hp → Hp → Hp → V → α → Prop) (te : TE) (f : En → Option α) : Prop :=
  ∀ (HB : Hp) (σ : L2.St) (ρ : En) (H0 H : Hp), Same H0 H → ST R HB H0 H σ ρ → ∀ r, f ρ = some r → ∀ Q : VK, (∀ v H0' H', Ext H0 H H0' H' → P H H0' H' v r → Q v H') → te σ H Q
abbrev RE (K : PySem.W.Frag) (R : Rl) : TE → (En → Option Sl) → Prop := RX K R (fun H H0' H' v r => SlH K H H0' H' v r)
abbrev RP (K : PySem.W.Frag) (R : Rl) : TE → (En → Option Sl) → Prop := RX K R (fun _ H0' H' v r => SlP K H0' H' v r)
abbrev RV (K : PySem.W.Frag) (R : Rl) : TE → (En → Option PyData) → Prop := RX K R (fun _ H0' _ v d => Rep K H0' v d)
def RT (K : PySem.W.Frag) (R : Rl) (tt : TT) (f : En → Option Bool) : Prop :=
  ∀ (HB : Hp) (σ : L2.St) (ρ : En) (H0 H : Hp), Same H0 H → ST R HB H0 H σ ρ → ∀ b, f ρ = some b → ∀ Q : Bool → Hp → Prop, (∀ H0' H', Ext H0 H H0' H' → Q b H') → tt σ H Q
def RA (K : PySem.W.Frag) (R : Rl) (ta : TA) (f : En → Option (List PyData)) : Prop :=
  ∀ (HB : Hp) (σ : L2.St) (ρ : En) (H0 H : Hp), Same H0 H → ST R HB H0 H σ ρ → ∀ ds, f ρ = some ds → ∀ Q : List V → Hp → Prop, (∀ vs H0' H', Ext H0 H H0' H' → Reps K H0' vs ds → Q vs H') → ta σ H Q
def RQ (K : PySem.W.Frag) (R : Rl) (ta : TA) (f : En → Option (List Sl)) : Prop :=
  ∀ (HB : Hp) (σ : L2.St) (ρ : En) (H0 H : Hp), Same H0 H → ST R HB H0 H σ ρ → ∀ ss, f ρ = some ss → ∀ Q : List V → Hp → Prop, (∀ vs H0' H', Ext H0 H H0' H' → Paired (SlP K H0' H') vs ss → Q vs H') → ta σ H Q
theorem RE.rp {te : TE} {f : En → Option Sl} (h : RE K R te f) : RP K R te f := fun HB σ ρ H0 H s e r hr Q q => h HB σ ρ H0 H s e r hr Q fun v H0' H' x p => q v H0' H' x p.p
/-- a new list is laid to the part that is never written -/
theorem frz_ext {H0 H H0' H' : Hp} {a : Addr} {vs : List V} (x : Ext H0 H H0' H') (hn : H a = none) (h1 : H0' a = none) (h2 : H' a = some (.lst vs)) : Ext H0 H (upd H0' a (.lst vs)) H' :=
  ⟨x.s, x.s0.trans (Same.upd h1 _), fun b u e => by
    by_cases hb : b = a
    · subst hb; rw [upd_same] at e; rw [h2]; exact e
    · rw [upd_ne hb] at e; exact x.s1 b u e, fun b o hb h0 => by
    rw [upd_ne (ne_of_none hb hn)]; exact x.own b o hb h0⟩
def mDat (f : En → Option Sl) : En → Option PyData := fun ρ => (f ρ).map Sl.dat
theorem RE.rv {te : TE} {f : En → Option Sl} (h : RE K R te f) : RV K R te (mDat f) := fun HB σ ρ H0 H s e d hd Q q => by
  obtain ⟨r, hr, rfl⟩ := Option.map_eq_some_iff.mp hd
  refine h HB σ ρ H0 H s e r hr Q fun v H0' H' x p => ?_
  cases r with
  | val d => exact q v H0' H' x p
  | own ds =>
    obtain ⟨a, vs, rfl, hn, h1, h2, h3⟩ := p
    exact q _ _ _ (frz_ext x hn h1 h2) (.list (SqL.of upd_same) (Reps.same (Same.upd h1 _) h3))

/-! names, constants -/
def mPk (i : Nat) : En → Option Sl := fun ρ => (ρ[i]?).join
def mVar (i : Nat) : En → Option Sl := fun ρ => match (ρ[i]?).join with
  | some (.val d) => some (.val d)
  | _ => none
def mK (d : PyData) : En → Option Sl := fun _ => some (.val d)
theorem join_some {α : Type} {o : Option (Option α)} {a : α} (h : o.join = some a) : o = some (some a) := by
  cases o with
  | none => cases h
  | some b => exact congrArg some h
theorem rp_var (i : Nat) (hs : R.slot i) : RP K R (tVar i) (mPk i) := fun HB σ ρ H0 H s e r hr Q q => by
  obtain ⟨v, h1, h2⟩ := RelOk.get (K := K) e.r hs (join_some hr)
  exact ⟨v, h1, q v H0 H (Ext.refl s) h2.p⟩
theorem re_var (i : Nat) (hs : R.slot i) : RE K R (tVar i) (mVar i) := fun HB σ ρ H0 H s e r hr Q q => by
  unfold mVar at hr
  cases ej : (ρ[i]?).join with
  | none => rw [ej] at hr; cases hr
  | some r' =>
    rw [ej] at hr
    cases r' with
    | own _ => cases hr
    | val d =>
      cases hr
      obtain ⟨v, h1, h2⟩ := RelOk.get (K := K) e.r hs (join_some ej)
      exact ⟨v, h1, q v H0 H (Ext.refl s) h2⟩
theorem re_k {v : V} {d : PyData} (h : ∀ H0 : Hp, Rep K H0 v d) : RE K R (tC v) (mK d) := fun HB σ ρ H0 H s e r hr Q q => by
  cases hr
  exact q v H0 H (Ext.refl s) (h H0)

/-! operators -/
def OpD (K : PySem.W.Frag) (r : R2) (op : Sl → Sl → Option Sl) : Prop :=
  ∀ (H0 H : Hp) (x y : V) (sx sy z : Sl), Same H0 H → SlP K H0 H x sx → SlP K H0 H y sy → op sx sy = some z → ∀ Q : VK, (∀ v H0' H', Ext H0 H H0' H' → SlH K H H0' H' v z → Q v H') → r x y H Q
def UnD (K : PySem.W.Frag) (r : V → Hp → VK → Prop) (op : Sl → Option Sl) : Prop :=
  ∀ (H0 H : Hp) (x : V) (sx z : Sl), Same H0 H → SlP K H0 H x sx → op sx = some z → ∀ Q : VK, (∀ v H0' H', Ext H0 H H0' H' → SlH K H H0' H' v z → Q v H') → r x H Q
def mBin (op : Sl → Sl → Option Sl) (fa fb : En → Option Sl) : En → Option Sl := fun ρ => (fa ρ).bind fun a => (fb ρ).bind fun b => op a b
def mUn (op : Sl → Option Sl) (fa : En → Option Sl) : En → Option Sl := fun ρ => (fa ρ).bind op
theorem re_bin {r : R2} {op : Sl → Sl → Option Sl} {ta tb : TE} {fa fb : En → Option Sl} (ho : OpD K r op) (ha : RP K R ta fa) (hb : RP K R tb fb) : RE K R (tOp r ta tb) (mBin op fa fb) := fun HB σ ρ H0 H s e z hz Q q => by
  obtain ⟨x, hx, hz⟩ := Option.bind_eq_some_iff.mp hz
  obtain ⟨y, hy, hz⟩ := Option.bind_eq_some_iff.mp hz
  refine ha HB σ ρ H0 H s e x hx _ fun v H1 J1 x1 p1 => ?_
  refine hb HB σ ρ H1 J1 x1.s1 (e.ext (K := K) x1) y hy _ fun u H2 J2 x2 p2 => ?_
  exact ho H2 J2 v u x y z x2.s1 (p1.ext x2) p2 hz Q fun w H3 J3 x3 p3 => q w H3 J3 ((x1.trans x2).trans x3) (p3.base (x1.trans x2).s)
theorem re_un {r : V → Hp → VK → Prop} {op : Sl → Option Sl} {ta : TE} {fa : En → Option Sl} (ho : UnD K r op) (ha : RP K R ta fa) : RE K R (tUn r ta) (mUn op fa) := fun HB σ ρ H0 H s e z hz Q q => by
  obtain ⟨x, hx, hz⟩ := Option.bind_eq_some_iff.mp hz
  refine ha HB σ ρ H0 H s e x hx _ fun v H1 J1 x1 p1 => ?_
  exact ho H1 J1 v x z x1.s1 p1 hz Q fun w H3 J3 x3 p3 => q w H3 J3 (x1.trans x3) (p3.base x1.s)
/-- ints -/
def iop (g : Int → Int → Int) : Sl → Sl → Option Sl
  | .val (.int i), .val (.int j) => some (.val (.int (g i j)))
  | _, _ => none
open Classical in
noncomputable def iopC (C : Int → Int → Prop) (g : Int → Int → Int) : Sl → Sl → Option Sl
  | .val (.int i), .val (.int j) => if C i j then some (.val (.int (g i j))) else none
  | _, _ => none
def icmp (g : Int → Int → Bool) : Sl → Sl → Option Sl
  | .val (.int i), .val (.int j) => some (.val (.bool (g i j)))
  | _, _ => none
def iun (g : Int → Int) : Sl → Option Sl
  | .val (.int i) => some (.val (.int (g i)))
  | _ => none
theorem opd_iop {g : Int → Int → Int} : OpD K (rI0 fun i j => .int (g i j)) (iop g) := fun H0 H x y sx sy z s px py hz Q q => by
  unfold iop at hz
  split at hz
  · cases hz
    exact ⟨_, _, px.int, py.int, q _ _ _ (Ext.refl s) (.int _)⟩
  · cases hz
theorem opd_iopC {C : Int → Int → Prop} {g : Int → Int → Int} : OpD K (rI C fun i j => .int (g i j)) (iopC C g) := fun H0 H x y sx sy z s px py hz Q q => by
  unfold iopC at hz
  split at hz
  · split at hz
    · rename_i hc
      cases hz
      exact ⟨_, _, px.int, py.int, hc, q _ _ _ (Ext.refl s) (.int _)⟩
    · cases hz
  · cases hz
theorem opd_icmp {g : Int → Int → Bool} : OpD K (rI0 fun i j => .bl (g i j)) (icmp g) := fun H0 H x y sx sy z s px py hz Q q => by
  unfold icmp at hz
  split at hz
  · cases hz
    exact ⟨_, _, px.int, py.int, q _ _ _ (Ext.refl s) (.bool _)⟩
  · cases hz
theorem und_iun {g : Int → Int} : UnD K (rU fun i => .int (g i)) (iun g) := fun H0 H x sx z s px hz Q q => by
  unfold iun at hz
  split at hz
  · cases hz
    exact ⟨_, px.int, q _ _ _ (Ext.refl s) (.int _)⟩
  · cases hz
/-- == of data -/
def eqD (a b : PyData) : Option Bool := if a.canLay0 = true ∧ b.canLay0 = true ∧ min a.depth b.depth ≤ 60 then some (PyData.eqv a b) else none
def deq : Sl → Sl → Option Sl := fun a b => (eqD a.dat b.dat).map fun k => .val (.bool k)
def dne : Sl → Sl → Option Sl := fun a b => (eqD a.dat b.dat).map fun k => .val (.bool (!k))
theorem opd_eq : OpD K (rEqD K) deq := fun H0 H x y sx sy z s px py hz Q q => by
  obtain ⟨k, hk, rfl⟩ := Option.map_eq_some_iff.mp hz
  unfold eqD at hk
  split at hk
  · rename_i hc
    cases hk
    exact ⟨_, _, px.rep s, py.rep s, hc.1, hc.2.1, hc.2.2, q _ _ _ (Ext.refl s) (.bool _)⟩
  · cases hk
theorem opd_ne : OpD K (rNeD K) dne := fun H0 H x y sx sy z s px py hz Q q => by
  obtain ⟨k, hk, rfl⟩ := Option.map_eq_some_iff.mp hz
  unfold eqD at hk
  split at hk
  · rename_i hc
    cases hk
    exact ⟨_, _, px.rep s, py.rep s, hc.1, hc.2.1, hc.2.2, q _ _ _ (Ext.refl s) (.bool _)⟩
  · cases hk
def isNone : PyData → Bool
  | .none => true
  | _ => false
def disN : Sl → Sl → Option Sl
  | a, .val .none => some (.val (.bool (isNone a.dat)))
  | _, _ => none
def disNN : Sl → Sl → Option Sl
  | a, .val .none => some (.val (.bool (!isNone a.dat)))
  | _, _ => none
theorem isNone_of {H0 H : Hp} {v : V} {r : Sl} (s : Same H0 H) (p : SlP K H0 H v r) : decide (v = .non) = isNone r.dat := by
  have h := rep_non (p.rep s)
  cases e : r.dat <;> simp_all [isNone]
theorem opd_isN : OpD K (fun x y H Q => y = .non ∧ Q (.bl (decide (x = .non))) H) disN := fun H0 H x y sx sy z s px py hz Q q => by
  unfold disN at hz
  split at hz
  · cases hz
    refine ⟨py.none, ?_⟩
    rw [isNone_of s px]
    exact q _ _ _ (Ext.refl s) (.bool _)
  · cases hz
theorem opd_isNN : OpD K (fun x y H Q => y = .non ∧ Q (.bl (!decide (x = .non))) H) disNN := fun H0 H x y sx sy z s px py hz Q q => by
  unfold disNN at hz
  split at hz
  · cases hz
    refine ⟨py.none, ?_⟩
    rw [isNone_of s px]
    exact q _ _ _ (Ext.refl s) (.bool _)
  · cases hz
/-- items -/
def dix : Sl → Sl → Option Sl
  | a, .val (.int i) => match a.dat with
    | .list ds => (atI ds i).map .val
    | .tuple ds => (atI ds i).map .val
    | _ => none
  | _, _ => none
theorem Reps.atI {H : Hp} {vs : List V} {ds : List PyData} {i : Int} {d : PyData} (h : Reps K H vs ds) (e : atI ds i = some d) : ∃ v, atI vs i = some v ∧ Rep K H v d := by
  unfold L2.atI at e ⊢
  rw [h.length]
  cases ej : ixN ds.length i with
  | none => rw [ej] at e; cases e
  | some j =>
    rw [ej] at e
    obtain ⟨v, h1, h2⟩ := Tf.Reps.get h (show ds[j]? = some d from e)
    exact ⟨v, h1, h2⟩
theorem opd_ix : OpD K (rIx K) dix := fun H0 H x y sx sy z s px py hz Q q => by
  unfold dix at hz
  split at hz
  · split at hz
    · rename_i i ds hd
      obtain ⟨d, he, rfl⟩ := Option.map_eq_some_iff.mp hz
      obtain ⟨a, vs, rfl, h1, h2⟩ := px.lst s hd
      obtain ⟨v, h3, h4⟩ := Reps.atI h2 he
      exact .inl ⟨a, vs, _, v, rfl, py.int, h1, h3, q _ _ _ (Ext.refl s) h4⟩
    · rename_i i ds hd
      obtain ⟨d, he, rfl⟩ := Option.map_eq_some_iff.mp hz
      obtain ⟨a, vs, rfl, h1, h2⟩ := px.tup hd
      obtain ⟨v, h3, h4⟩ := Reps.atI h2 he
      exact .inr (.inl ⟨a, vs, _, v, rfl, py.int, s.seqT h1, h3, q _ _ _ (Ext.refl s) h4⟩)
    · cases hz
  · cases hz
end
end Dm

set_option Elab.async false
set_option linter.all false
set_option maxRecDepth 100000
set_option maxHeartbeats 4000000
namespace Dm
open PySem PySem.Spec PyProof.Rows L2 Tf
section
variable {K : PySem.W.Frag} {R : Rl} [RelOk K R]
/-! ### argument lists, displays, calls -/
def mNil : En → Option (List PyData) := fun _ => some []
def mCons (f : En → Option Sl) (g : En → Option (List PyData)) : En → Option (List PyData) := fun ρ => (f ρ).bind fun a => (g ρ).bind fun as => some (a.dat :: as)
theorem ra_nil : RA K R tNil mNil := fun HB σ ρ H0 H s e ds hd Q q => by
  cases hd
  exact q [] H0 H (Ext.refl s) .nil
theorem ra_cons {te : TE} {ta : TA} {f : En → Option Sl} {g : En → Option (List PyData)} (hf : RE K R te f) (hg : RA K R ta g) : RA K R (tCons te ta) (mCons f g) := fun HB σ ρ H0 H s e ds hd Q q => by
  obtain ⟨a, ha, hd⟩ := Option.bind_eq_some_iff.mp hd
  obtain ⟨as, has, hd⟩ := Option.bind_eq_some_iff.mp hd
  cases hd
  refine hf.rv HB σ ρ H0 H s e a.dat (by unfold mDat; rw [ha]; rfl) _ fun v H1 J1 x1 p1 => ?_
  exact hg HB σ ρ H1 J1 x1.s1 (e.ext (K := K) x1) as has _ fun vs H2 J2 x2 p2 => q _ H2 J2 (x1.trans x2) (.cons (Rep.same x2.s0 p1) p2)
def mNilP : En → Option (List Sl) := fun _ => some []
def mConsP (f : En → Option Sl) (g : En → Option (List Sl)) : En → Option (List Sl) := fun ρ => (f ρ).bind fun a => (g ρ).bind fun as => some (a :: as)
theorem rq_nil : RQ K R tNil mNilP := fun HB σ ρ H0 H s e ds hd Q q => by
  cases hd
  exact q [] H0 H (Ext.refl s) .nil
theorem paired_ext {H0 H H0' H' : Hp} (x : Ext H0 H H0' H') : ∀ {vs : List V} {ss : List Sl}, Paired (SlP K H0 H) vs ss → Paired (SlP K H0' H') vs ss
  | _, _, .nil => .nil
  | _, _, .cons h t => .cons (h.ext x) (paired_ext x t)
theorem rq_cons {te : TE} {ta : TA} {f : En → Option Sl} {g : En → Option (List Sl)} (hf : RP K R te f) (hg : RQ K R ta g) : RQ K R (tCons te ta) (mConsP f g) := fun HB σ ρ H0 H s e ds hd Q q => by
  obtain ⟨a, ha, hd⟩ := Option.bind_eq_some_iff.mp hd
  obtain ⟨as, has, hd⟩ := Option.bind_eq_some_iff.mp hd
  cases hd
  refine hf HB σ ρ H0 H s e a ha _ fun v H1 J1 x1 p1 => ?_
  exact hg HB σ ρ H1 J1 x1.s1 (e.ext (K := K) x1) as has _ fun vs H2 J2 x2 p2 => q _ H2 J2 (x1.trans x2) (.cons (p1.ext x2) p2)
def mTup (f : En → Option (List PyData)) : En → Option Sl := fun ρ => (f ρ).bind fun ds => if ds.length ≤ sizeLine then some (.val (.tuple ds)) else none
def mLst (f : En → Option (List PyData)) : En → Option Sl := fun ρ => (f ρ).bind fun ds => if ds.length ≤ sizeLine then some (.own ds) else none
theorem re_tup {ta : TA} {f : En → Option (List PyData)} (h : RA K R ta f) : RE K R (tTup ta) (mTup f) := fun HB σ ρ H0 H s e z hz Q q => by
  obtain ⟨ds, hd, hz⟩ := Option.bind_eq_some_iff.mp hz
  split at hz
  · rename_i hl
    cases hz
    refine h HB σ ρ H0 H s e ds hd _ fun vs H1 J1 x1 p1 => ⟨by rw [p1.length]; exact hl, fun p hp => ?_⟩
    exact q _ _ _ (x1.trans (Ext.allocF x1.s1 hp _)) (.tuple (SqT.of upd_same) (Reps.same (Same.upd (x1.s1.free hp) _) p1))
  · cases hz
theorem re_lst {ta : TA} {f : En → Option (List PyData)} (h : RA K R ta f) : RE K R (tLst ta) (mLst f) := fun HB σ ρ H0 H s e z hz Q q => by
  obtain ⟨ds, hd, hz⟩ := Option.bind_eq_some_iff.mp hz
  split at hz
  · rename_i hl
    cases hz
    refine h HB σ ρ H0 H s e ds hd _ fun vs H1 J1 x1 p1 => ⟨by rw [p1.length]; exact hl, fun p hp => ?_⟩
    exact q _ _ _ (x1.trans (Ext.alloc x1.s1 hp _)) ⟨p, vs, rfl, x1.s.free hp, x1.s1.free hp, upd_same, p1⟩
  · cases hz
/-- a def's promise: by the function F of its arguments' data -/
def spD (K : PySem.W.Frag) (F : List PyData → Option Sl) : Sp := fun vs H Q _ => ∃ H0 ds r, Same H0 H ∧ Reps K H0 vs ds ∧ F ds = some r ∧ ∀ v H0' H', Ext H0 H H0' H' → SlH K H H0' H' v r → Q v H'
def mCall (F : List PyData → Option Sl) (f : En → Option (List PyData)) : En → Option Sl := fun ρ => (f ρ).bind F
theorem re_call {F : List PyData → Option Sl} {E : XK} {ta : TA} {f : En → Option (List PyData)} (h : RA K R ta f) : RE K R (tCall (spD K F) [] E ta) (mCall F f) := fun HB σ ρ H0 H s e z hz Q q => by
  obtain ⟨ds, hd, hz⟩ := Option.bind_eq_some_iff.mp hz
  refine h HB σ ρ H0 H s e ds hd _ fun vs H1 J1 x1 p1 => ?_
  rw [List.append_nil]
  exact ⟨H1, ds, z, x1.s1, p1, hz, fun v H2 J2 x2 p2 => q v H2 J2 (x1.trans x2) (p2.base x1.s)⟩
def CallD (K : PySem.W.Frag) (r : List V → Hp → VK → Prop) (F : List Sl → Option Sl) : Prop :=
  ∀ (H0 H : Hp) (vs : List V) (ss : List Sl) (z : Sl), Same H0 H → Paired (SlP K H0 H) vs ss → F ss = some z → ∀ Q : VK, (∀ v H0' H', Ext H0 H H0' H' → SlH K H H0' H' v z → Q v H') → r vs H Q
def mCallP (F : List Sl → Option Sl) (f : En → Option (List Sl)) : En → Option Sl := fun ρ => (f ρ).bind F
theorem re_callB {r : List V → Hp → VK → Prop} {F : List Sl → Option Sl} {ta : TA} {f : En → Option (List Sl)} (hc : CallD K r F) (h : RQ K R ta f) : RE K R (tCB r ta) (mCallP F f) := fun HB σ ρ H0 H s e z hz Q q => by
  obtain ⟨ss, hd, hz⟩ := Option.bind_eq_some_iff.mp hz
  refine h HB σ ρ H0 H s e ss hd _ fun vs H1 J1 x1 p1 => ?_
  exact hc H1 J1 vs ss z x1.s1 p1 hz Q fun v H2 J2 x2 p2 => q v H2 J2 (x1.trans x2) (p2.base x1.s)
theorem paired1 {H0 H : Hp} {vs : List V} {a : Sl} (h : Paired (SlP K H0 H) vs [a]) : ∃ v, vs = [v] ∧ SlP K H0 H v a := by
  cases h with | cons h t => cases t; exact ⟨_, rfl, h⟩
theorem paired2 {H0 H : Hp} {vs : List V} {a b : Sl} (h : Paired (SlP K H0 H) vs [a, b]) : ∃ v w, vs = [v, w] ∧ SlP K H0 H v a ∧ SlP K H0 H w b := by
  cases h with | cons h t => cases t with | cons h2 t => cases t; exact ⟨_, _, rfl, h, h2⟩
def dLen : List Sl → Option Sl
  | [a] => match a.dat with
    | .list ds => some (.val (.int ds.length))
    | .tuple ds => some (.val (.int ds.length))
    | _ => none
  | _ => none
theorem cd_len : CallD K (fun xs H Q => ∃ p ys, xs = [.ref p] ∧ (SqL K H p ys ∨ SqT K H p ys) ∧ Q (.int ys.length) H) dLen := fun H0 H vs ss z s p hz Q q => by
  unfold dLen at hz
  split at hz
  · obtain ⟨v, rfl, pa⟩ := paired1 p
    split at hz
    · rename_i ds hd
      cases hz
      obtain ⟨a, vs, rfl, h1, h2⟩ := pa.lst s hd
      refine ⟨a, vs, rfl, .inl h1, ?_⟩
      rw [h2.length]
      exact q _ _ _ (Ext.refl s) (.int _)
    · rename_i ds hd
      cases hz
      obtain ⟨a, vs, rfl, h1, h2⟩ := pa.tup hd
      refine ⟨a, vs, rfl, .inr (s.seqT h1), ?_⟩
      rw [h2.length]
      exact q _ _ _ (Ext.refl s) (.int _)
    · cases hz
  · cases hz
def dAbs : List Sl → Option Sl
  | [.val (.int i)] => some (.val (.int (if i < 0 then -i else i)))
  | _ => none
theorem cd_abs : CallD K (fun xs H Q => ∃ i, xs = [.int i] ∧ Q (.int (if i < 0 then -i else i)) H) dAbs := fun H0 H vs ss z s p hz Q q => by
  unfold dAbs at hz
  split at hz
  · obtain ⟨v, rfl, pa⟩ := paired1 p
    cases hz
    exact ⟨_, by rw [pa.int], q _ _ _ (Ext.refl s) (.int _)⟩
  · cases hz
def dList : List Sl → Option Sl
  | [a] => match a.dat with
    | .list ds => some (.own ds)
    | .tuple ds => some (.own ds)
    | _ => none
  | _ => none
theorem cd_list : CallD K (fun xs H Q => ∃ p ys, xs = [.ref p] ∧ (SqL K H p ys ∨ SqT K H p ys) ∧ ∀ l, H l = none → Q (.ref l) (upd H l (.lst ys))) dList := fun H0 H vs ss z s p hz Q q => by
  unfold dList at hz
  split at hz
  · obtain ⟨v, rfl, pa⟩ := paired1 p
    split at hz
    · rename_i ds hd
      cases hz
      obtain ⟨a, vs, rfl, h1, h2⟩ := pa.lst s hd
      exact ⟨a, vs, rfl, .inl h1, fun l hl => q _ _ _ (Ext.alloc s hl _) ⟨l, vs, rfl, hl, s.free hl, upd_same, h2⟩⟩
    · rename_i ds hd
      cases hz
      obtain ⟨a, vs, rfl, h1, h2⟩ := pa.tup hd
      exact ⟨a, vs, rfl, .inr (s.seqT h1), fun l hl => q _ _ _ (Ext.alloc s hl _) ⟨l, vs, rfl, hl, s.free hl, upd_same, h2⟩⟩
    · cases hz
  · cases hz
def dTuple : List Sl → Option Sl
  | [a] => match a.dat with
    | .list ds => some (.val (.tuple ds))
    | .tuple ds => some (.val (.tuple ds))
    | _ => none
  | _ => none
theorem cd_tuple : CallD K (fun xs H Q => ∃ p ys, xs = [.ref p] ∧ ((SqL K H p ys ∧ ∀ l, H l = none → Q (.ref l) (upd H l (.tup ys))) ∨ (SqT K H p ys ∧ Q (.ref p) H))) dTuple := fun H0 H vs ss z s p hz Q q => by
  unfold dTuple at hz
  split at hz
  · obtain ⟨v, rfl, pa⟩ := paired1 p
    split at hz
    · rename_i ds hd
      cases hz
      obtain ⟨a, vs, rfl, h1, h2⟩ := pa.lst s hd
      exact ⟨a, vs, rfl, .inl ⟨h1, fun l hl => q _ _ _ (Ext.allocF s hl _) (.tuple (SqT.of upd_same) (Reps.same (Same.upd (s.free hl) _) h2))⟩⟩
    · rename_i ds hd
      cases hz
      obtain ⟨a, vs, rfl, h1, h2⟩ := pa.tup hd
      exact ⟨a, vs, rfl, .inr ⟨s.seqT h1, q _ _ _ (Ext.refl s) (.tuple h1 h2)⟩⟩
    · cases hz
  · cases hz
def intsOf : List PyData → Option (List Int)
  | [] => some []
  | .int i :: r => (intsOf r).map (i :: ·)
  | _ :: _ => none
theorem intsOf_eq : ∀ {ds : List PyData} {ns : List Int}, intsOf ds = some ns → ds = ns.map .int
  | [], ns, h => by cases h; rfl
  | .int i :: r, ns, h => by
    obtain ⟨ms, h1, rfl⟩ := Option.map_eq_some_iff.mp (show (intsOf r).map (i :: ·) = some ns from h)
    rw [intsOf_eq h1]; rfl
theorem intsOf_map : ∀ ns : List Int, intsOf (ns.map .int) = some ns
  | [] => rfl
  | i :: r => by show (intsOf (r.map .int)).map (i :: ·) = _; rw [intsOf_map r]; rfl
theorem reps_ints {H : Hp} : ∀ {vs : List V} {ns : List Int}, Reps K H vs (ns.map .int) → vs = ns.map .int
  | _, [], h => by cases h; rfl
  | _, n :: r, h => by
    cases h with
    | cons h t => cases h; rw [reps_ints t]; rfl
def dSum : List Sl → Option Sl
  | [a] => match a.dat with
    | .list ds => (intsOf ds).map fun ns => .val (.int (List.sum ns))
    | _ => none
  | _ => none
theorem cd_sum : CallD K (fun xs H Q => ∃ p ns, xs = [.ref p] ∧ SqL K H p (ns.map V.int) ∧ Q (.int (List.sum ns)) H) dSum := fun H0 H vs ss z s p hz Q q => by
  unfold dSum at hz
  split at hz
  · obtain ⟨v, rfl, pa⟩ := paired1 p
    split at hz
    · rename_i ds hd
      obtain ⟨ns, hn, rfl⟩ := Option.map_eq_some_iff.mp hz
      obtain ⟨a, vs, rfl, h1, h2⟩ := pa.lst s hd
      rw [intsOf_eq hn] at h2
      rw [reps_ints h2] at h1
      exact ⟨a, ns, rfl, h1, q _ _ _ (Ext.refl s) (.int _)⟩
    · cases hz
  · cases hz
def dInt : List Sl → Option Sl
  | [.val (.int i)] => some (.val (.int i))
  | [.val (.bool k)] => some (.val (.int (if k then 1 else 0)))
  | _ => none
theorem cd_int : CallD K (fun xs H Q => (∃ i, xs = [.int i] ∧ Q (.int i) H) ∨ ∃ k, xs = [.bl k] ∧ Q (.int (if k then 1 else 0)) H) dInt := fun H0 H vs ss z s p hz Q q => by
  unfold dInt at hz
  split at hz
  · obtain ⟨v, rfl, pa⟩ := paired1 p
    cases hz
    exact .inl ⟨_, by rw [pa.int], q _ _ _ (Ext.refl s) (.int _)⟩
  · obtain ⟨v, rfl, pa⟩ := paired1 p
    cases hz
    exact .inr ⟨_, by rw [pa.bool], q _ _ _ (Ext.refl s) (.int _)⟩
  · cases hz
def dMax : List Sl → Option Sl
  | [.val (.int i), .val (.int j)] => some (.val (.int (if j > i then j else i)))
  | _ => none
theorem cd_max : CallD K (fun xs H Q => ∃ i j, xs = [.int i, .int j] ∧ Q (.int (if j > i then j else i)) H) dMax := fun H0 H vs ss z s p hz Q q => by
  unfold dMax at hz
  split at hz
  · obtain ⟨v, w, rfl, pa, pb⟩ := paired2 p
    cases hz
    exact ⟨_, _, by rw [pa.int, pb.int], q _ _ _ (Ext.refl s) (.int _)⟩
  · cases hz
def dMin : List Sl → Option Sl
  | [.val (.int i), .val (.int j)] => some (.val (.int (if j < i then j else i)))
  | _ => none
theorem cd_min : CallD K (fun xs H Q => ∃ i j, xs = [.int i, .int j] ∧ Q (.int (if j < i then j else i)) H) dMin := fun H0 H vs ss z s p hz Q q => by
  unfold dMin at hz
  split at hz
  · obtain ⟨v, w, rfl, pa, pb⟩ := paired2 p
    cases hz
    exact ⟨_, _, by rw [pa.int, pb.int], q _ _ _ (Ext.refl s) (.int _)⟩
  · cases hz
/-! isinstance(x, T) -/
def tyD : PyData → Option String
  | .none => some "NoneType"
  | .bool _ => some "bool"
  | .int _ => some "int"
  | .str _ => some "str"
  | .list _ => some "list"
  | .tuple _ => some "tuple"
  | _ => none
theorem tyD_of {H : Hp} {v : V} {d : PyData} (h : Rep K H v d) : ∃ t, tyD d = some t ∧ TyV K H v t := by
  cases h with
  | none => exact ⟨_, rfl, .non⟩
  | bool b => exact ⟨_, rfl, .bl b⟩
  | int i => exact ⟨_, rfl, .int i⟩
  | str x => exact ⟨_, rfl, .str x⟩
  | list h _ => exact ⟨_, rfl, .lst h⟩
  | tuple h _ => exact ⟨_, rfl, .tup h⟩
/-- of the written built-in types -/
def isiD (n : String) (t : String) : Option Bool :=
  if n = "int" then some (t == "int" || t == "bool") else if n = "bool" ∨ n = "str" ∨ n = "list" ∨ n = "tuple" then some (t == n) else none
def mIsi (n : String) (f : En → Option Sl) : En → Option Sl := fun ρ => (f ρ).bind fun a => (tyD a.dat).bind fun t => (isiD n t).map fun b => .val (.bool b)
theorem re_isi {te : TE} {f : En → Option Sl} {n : String} (hk : ∀ t b, isiD n t = some b → (t = "NoneType" ∨ t = "bool" ∨ t = "int" ∨ t = "str" ∨ t = "list" ∨ t = "tuple") → PySem.W.kitOne K (.type t) (.type n) = some b) (h : RP K R te f) : RE K R (tCB (rIsI K) (tCons te (tCons (tC (.ty n)) tNil))) (mIsi n f) := fun HB σ ρ H0 H s e z hz Q q => by
  obtain ⟨a, ha, hz⟩ := Option.bind_eq_some_iff.mp hz
  obtain ⟨t, ht, hz⟩ := Option.bind_eq_some_iff.mp hz
  obtain ⟨b, hb, rfl⟩ := Option.map_eq_some_iff.mp hz
  refine h HB σ ρ H0 H s e a ha _ fun v H1 J1 x1 p1 => ?_
  obtain ⟨t', ht', ty⟩ := tyD_of (p1.rep x1.s1)
  rw [ht] at ht'
  cases ht'
  refine ⟨v, n, t, b, rfl, ty, hk t b hb ?_, q _ _ _ x1 (.bool _)⟩
  cases ty <;> simp
/-! ### tests -/
def mTest (f : En → Option Sl) : En → Option Bool := fun ρ => (f ρ).bind fun a => match a with
  | .val (.bool b) => some b
  | _ => none
theorem mTest_some {f : En → Option Sl} {ρ : En} {b : Bool} (h : mTest f ρ = some b) : f ρ = some (.val (.bool b)) := by
  obtain ⟨a, ha, h⟩ := Option.bind_eq_some_iff.mp h
  rw [ha]
  split at h
  · cases h; rfl
  · cases h
theorem rt_test {te : TE} {f : En → Option Sl} (h : RP K R te f) : RT K R (tTest te) (mTest f) := fun HB σ ρ H0 H s e b hb Q q =>
  h HB σ ρ H0 H s e _ (mTest_some hb) _ fun v H1 J1 x1 p1 => ⟨b, p1.bool, q _ _ x1⟩
theorem rt_b {te : TE} {f : En → Option Sl} (h : RP K R te f) : RT K R (tB te) (mTest f) := fun HB σ ρ H0 H s e b hb Q q =>
  h HB σ ρ H0 H s e _ (mTest_some hb) _ fun v H1 J1 x1 p1 => ⟨b, p1.bool, q _ _ x1⟩
def mAnd (f g : En → Option Bool) : En → Option Bool := fun ρ => (f ρ).bind fun b => if b then g ρ else some false
def mOr (f g : En → Option Bool) : En → Option Bool := fun ρ => (f ρ).bind fun b => if b then some true else g ρ
def mNot (f : En → Option Bool) : En → Option Bool := fun ρ => (f ρ).map (!·)
theorem rt_and {t u : TT} {f g : En → Option Bool} (h : RT K R t f) (k : RT K R u g) : RT K R (tAnd t u) (mAnd f g) := fun HB σ ρ H0 H s e b hb Q q => by
  obtain ⟨c, hc, hb⟩ := Option.bind_eq_some_iff.mp hb
  refine h HB σ ρ H0 H s e c hc _ fun H1 J1 x1 => ?_
  cases c with
  | true => exact iteT (k HB σ ρ H1 J1 x1.s1 (e.ext (K := K) x1) b hb Q fun H2 J2 x2 => q _ _ (x1.trans x2))
  | false => cases hb; exact iteF (q _ _ x1)
theorem rt_or {t u : TT} {f g : En → Option Bool} (h : RT K R t f) (k : RT K R u g) : RT K R (tOr t u) (mOr f g) := fun HB σ ρ H0 H s e b hb Q q => by
  obtain ⟨c, hc, hb⟩ := Option.bind_eq_some_iff.mp hb
  refine h HB σ ρ H0 H s e c hc _ fun H1 J1 x1 => ?_
  cases c with
  | false => exact iteF (k HB σ ρ H1 J1 x1.s1 (e.ext (K := K) x1) b hb Q fun H2 J2 x2 => q _ _ (x1.trans x2))
  | true => cases hb; exact iteT (q _ _ x1)
theorem rt_not {t : TT} {f : En → Option Bool} (h : RT K R t f) : RT K R (tNot t) (mNot f) := fun HB σ ρ H0 H s e b hb Q q => by
  obtain ⟨c, hc, rfl⟩ := Option.map_eq_some_iff.mp hb
  exact h HB σ ρ H0 H s e c hc _ fun H1 J1 x1 => q _ _ x1
/-! .. as values -/
def mAndV (f g : En → Option Sl) : En → Option Sl := fun ρ => (mTest f ρ).bind fun b => if b then g ρ else some (.val (.bool false))
def mOrV (f g : En → Option Sl) : En → Option Sl := fun ρ => (mTest f ρ).bind fun b => if b then some (.val (.bool true)) else g ρ
def mNotV (f : En → Option Sl) : En → Option Sl := fun ρ => (mTest f ρ).map fun b => .val (.bool (!b))
theorem re_andV {t u : TE} {f g : En → Option Sl} (h : RP K R t f) (k : RE K R u g) : RE K R (tAndV t u) (mAndV f g) := fun HB σ ρ H0 H s e z hz Q q => by
  obtain ⟨c, hc, hz⟩ := Option.bind_eq_some_iff.mp hz
  refine h HB σ ρ H0 H s e _ (mTest_some hc) _ fun v H1 J1 x1 p1 => ⟨c, p1.bool, ?_⟩
  cases c with
  | true => exact iteT (k HB σ ρ H1 J1 x1.s1 (e.ext (K := K) x1) z hz Q fun v H2 J2 x2 p2 => q _ _ _ (x1.trans x2) (p2.base x1.s))
  | false => cases hz; exact iteF (q _ _ _ x1 (.bool _))
theorem re_orV {t u : TE} {f g : En → Option Sl} (h : RP K R t f) (k : RE K R u g) : RE K R (tOrV t u) (mOrV f g) := fun HB σ ρ H0 H s e z hz Q q => by
  obtain ⟨c, hc, hz⟩ := Option.bind_eq_some_iff.mp hz
  refine h HB σ ρ H0 H s e _ (mTest_some hc) _ fun v H1 J1 x1 p1 => ⟨c, p1.bool, ?_⟩
  cases c with
  | false => exact iteF (k HB σ ρ H1 J1 x1.s1 (e.ext (K := K) x1) z hz Q fun v H2 J2 x2 p2 => q _ _ _ (x1.trans x2) (p2.base x1.s))
  | true => cases hz; exact iteT (q _ _ _ x1 (.bool _))
theorem re_notV {t : TE} {f : En → Option Sl} (h : RP K R t f) : RE K R (tNotV t) (mNotV f) := fun HB σ ρ H0 H s e z hz Q q => by
  obtain ⟨c, hc, rfl⟩ := Option.map_eq_some_iff.mp hz
  exact h HB σ ρ H0 H s e _ (mTest_some hc) _ fun v H1 J1 x1 p1 => ⟨c, p1.bool, q _ _ _ x1 (.bool _)⟩
def mIfE (c : En → Option Bool) (f g : En → Option Sl) : En → Option Sl := fun ρ => (c ρ).bind fun b => if b then f ρ else g ρ
theorem re_ifE {c : TT} {t u : TE} {fc : En → Option Bool} {f g : En → Option Sl} (hc : RT K R c fc) (h : RE K R t f) (k : RE K R u g) : RE K R (tIf c t u) (mIfE fc f g) := fun HB σ ρ H0 H s e z hz Q q => by
  obtain ⟨b, hb, hz⟩ := Option.bind_eq_some_iff.mp hz
  refine hc HB σ ρ H0 H s e b hb _ fun H1 J1 x1 => ?_
  cases b with
  | true => exact iteT (h HB σ ρ H1 J1 x1.s1 (e.ext (K := K) x1) z hz Q fun v H2 J2 x2 p2 => q _ _ _ (x1.trans x2) (p2.base x1.s))
  | false => exact iteF (k HB σ ρ H1 J1 x1.s1 (e.ext (K := K) x1) z hz Q fun v H2 J2 x2 p2 => q _ _ _ (x1.trans x2) (p2.base x1.s))
/-! ### slices -/
def RO (K : PySem.W.Frag) (R : Rl) (to : TO) (f : En → Option (Option Int)) : Prop :=
  ∀ (HB : Hp) (σ : L2.St) (ρ : En) (H0 H : Hp), Same H0 H → ST R HB H0 H σ ρ → ∀ o, f ρ = some o → ∀ Q : Option Int → Hp → Prop, (∀ H0' H', Ext H0 H H0' H' → Q o H') → to σ H Q
def mNoPart : En → Option (Option Int) := fun _ => some none
def mPart (f : En → Option Sl) : En → Option (Option Int) := fun ρ => (f ρ).bind fun a => match a with
  | .val (.int i) => some (some i)
  | _ => none
theorem ro_none : RO K R tNoPart mNoPart := fun HB σ ρ H0 H s e o ho Q q => by cases ho; exact q _ _ (Ext.refl s)
theorem ro_some {te : TE} {f : En → Option Sl} (h : RP K R te f) : RO K R (tPart te) (mPart f) := fun HB σ ρ H0 H s e o ho Q q => by
  obtain ⟨a, ha, ho⟩ := Option.bind_eq_some_iff.mp ho
  split at ho
  · cases ho
    exact h HB σ ρ H0 H s e _ ha _ fun v H1 J1 x1 p1 => ⟨_, p1.int, q _ _ x1⟩
  · cases ho
def cutD {α : Type} (xs : List α) (lo hi : Option Int) : List α := (xs.drop (HT.sIx xs.length 0 lo)).take (HT.sIx xs.length xs.length hi - HT.sIx xs.length 0 lo)
theorem Reps.drop {H : Hp} : ∀ {vs : List V} {ds : List PyData} (n : Nat), Reps K H vs ds → Reps K H (vs.drop n) (ds.drop n)
  | _, _, 0, h => h
  | _, _, _ + 1, .nil => .nil
  | _, _, n + 1, .cons _ t => Reps.drop n t
theorem Reps.take {H : Hp} : ∀ {vs : List V} {ds : List PyData} (n : Nat), Reps K H vs ds → Reps K H (vs.take n) (ds.take n)
  | _, _, 0, _ => .nil
  | _, _, _ + 1, .nil => .nil
  | _, _, n + 1, .cons h t => .cons h (Reps.take n t)
theorem Reps.cut {H : Hp} {vs : List V} {ds : List PyData} (h : Reps K H vs ds) (lo hi : Option Int) : Reps K H (cutV vs lo hi) (cutD ds lo hi) := by
  unfold cutV cutD
  rw [h.length]
  exact Reps.take _ (Reps.drop _ h)
def dSl (a : Sl) (lo hi : Option Int) : Option Sl := match a.dat with
  | .list ds => some (.own (cutD ds lo hi))
  | .tuple ds => if HT.sIx ds.length 0 lo = 0 ∧ HT.sIx ds.length ds.length hi = ds.length then none else some (.val (.tuple (cutD ds lo hi)))
  | _ => none
def mSl (f : En → Option Sl) (l h : En → Option (Option Int)) : En → Option Sl := fun ρ => (f ρ).bind fun a => (l ρ).bind fun lo => (h ρ).bind fun hi => dSl a lo hi
theorem re_sl {te : TE} {tl th : TO} {f : En → Option Sl} {fl fh : En → Option (Option Int)} (h : RP K R te f) (hl : RO K R tl fl) (hh : RO K R th fh) : RE K R (tSl (fun x lo hi H Q => rSlL K x lo hi H Q ∨ rSlT K x lo hi H Q) te tl th) (mSl f fl fh) := fun HB σ ρ H0 H s e z hz Q q => by
  obtain ⟨a, ha, hz⟩ := Option.bind_eq_some_iff.mp hz
  obtain ⟨lo, hlo, hz⟩ := Option.bind_eq_some_iff.mp hz
  obtain ⟨hi, hhi, hz⟩ := Option.bind_eq_some_iff.mp hz
  refine h HB σ ρ H0 H s e a ha _ fun v H1 J1 x1 p1 => ?_
  refine hl HB σ ρ H1 J1 x1.s1 (e.ext (K := K) x1) lo hlo _ fun H2 J2 x2 => ?_
  refine hh HB σ ρ H2 J2 x2.s1 ((e.ext (K := K) x1).ext (K := K) x2) hi hhi _ fun H3 J3 x3 => ?_
  have x := (x1.trans x2).trans x3
  have p := p1.ext (x2.trans x3)
  unfold dSl at hz
  split at hz
  · rename_i ds hd
    cases hz
    obtain ⟨b, vs, rfl, h1, h2⟩ := p.lst x.s1 hd
    exact .inl ⟨b, vs, rfl, h1, fun l hl => q _ _ _ (x.trans (Ext.alloc x.s1 hl _)) ⟨l, _, rfl, x.s.free hl, x.s1.free hl, upd_same, Reps.cut h2 lo hi⟩⟩
  · rename_i ds hd
    split at hz
    · cases hz
    · rename_i hw
      cases hz
      obtain ⟨b, vs, rfl, h1, h2⟩ := p.tup hd
      refine .inr ⟨b, vs, rfl, x.s1.seqT h1, by rw [h2.length]; exact hw, fun l hl => q _ _ _ (x.trans (Ext.allocF x.s1 hl _)) (.tuple (SqT.of upd_same) (Reps.same (Same.upd (x.s1.free hl) _) (Reps.cut h2 lo hi)))⟩
  · cases hz
end
end Dm

set_option Elab.async false
set_option linter.all false
set_option maxRecDepth 100000
set_option maxHeartbeats 4000000
namespace Dm
open PySem PySem.Spec PyProof.Rows L2 Tf
inductive Out where
  | nx (ρ : En) | rt (r : Sl) (ρ : En) | bk (ρ : En) | ct (ρ : En)
section
variable {K : PySem.W.Frag} {R : Rl} [RelOk K R]
def EndR (K : PySem.W.Frag) (R : Rl) (HB S0 : Hp) (D : Ends) : Out → Prop
  | .nx ρ => ∀ σ H0 H, Ext S0 HB H0 H → ST R HB H0 H σ ρ → D.nx σ H
  | .bk ρ => ∀ σ H0 H, Ext S0 HB H0 H → ST R HB H0 H σ ρ → D.bk σ H
  | .ct ρ => ∀ σ H0 H, Ext S0 HB H0 H → ST R HB H0 H σ ρ → D.ct σ H
  | .rt r ρ => ∀ v σ H0 H, Ext S0 HB H0 H → ST R HB H0 H σ ρ → SlH K HB H0 H v r → D.rt v H
def RS (K : PySem.W.Frag) (R : Rl) (ts : TS) (g : En → Option Out) : Prop :=
  ∀ (HB S0 : Hp) (σ : L2.St) (ρ : En) (H0 H : Hp), Ext S0 HB H0 H → ST R HB H0 H σ ρ → ∀ o, g ρ = some o → ∀ D : Ends, EndR K R HB S0 D o → ts D σ H
def mNext : En → Option Out := fun ρ => some (.nx ρ)
def mBrk : En → Option Out := fun ρ => some (.bk ρ)
def mCt : En → Option Out := fun ρ => some (.ct ρ)
def mRetN : En → Option Out := fun ρ => some (.rt (.val .none) ρ)
theorem rs_next : RS K R tNext mNext := fun HB S0 σ ρ H0 H x e o ho D d => by cases ho; exact d σ H0 H x e
theorem rs_brk : RS K R tBreak mBrk := fun HB S0 σ ρ H0 H x e o ho D d => by cases ho; exact d σ H0 H x e
theorem rs_ct : RS K R tCont mCt := fun HB S0 σ ρ H0 H x e o ho D d => by cases ho; exact d σ H0 H x e
theorem rs_retN : RS K R tRetN mRetN := fun HB S0 σ ρ H0 H x e o ho D d => by cases ho; exact d .non σ H0 H x e .none
def mSeq (f g : En → Option Out) : En → Option Out := fun ρ => (f ρ).bind fun o => match o with
  | .nx ρ' => g ρ'
  | o => some o
theorem rs_seq {t u : TS} {f g : En → Option Out} (h : RS K R t f) (k : RS K R u g) : RS K R (tSeq t u) (mSeq f g) := fun HB S0 σ ρ H0 H x e o ho D d => by
  obtain ⟨o1, h1, ho⟩ := Option.bind_eq_some_iff.mp ho
  refine h HB S0 σ ρ H0 H x e o1 h1 { D with nx := u D } ?_
  cases o1 with
  | nx ρ' => exact fun σ' H0' H' x' e' => k HB S0 σ' ρ' H0' H' x' e' o ho D d
  | rt r _ => cases ho; exact d
  | bk r => cases ho; exact d
  | ct r => cases ho; exact d
theorem ER.set {HB H0 H H0' H' : Hp} {σ : L2.St} {ρ : En} {i : Nat} {v : V} {r : Sl} (e : ER K HB H0 H σ ρ) (x : Ext H0 H H0' H') (sb : Same HB H) (h : SlH K H H0' H' v r) : ER K HB H0' H' (σ.set i (some v)) (ρ.set i (some r)) := by
  have e' := e.ext x
  refine ⟨by rw [List.length_set, List.length_set]; exact e.len, fun j s hs => ?_, fun j k a ds es hjk hj hk h1 h2 => ?_⟩
  · by_cases hj : i = j
    · subst hj
      rw [List.getElem?_set_self'] at hs ⊢
      cases hq : ρ[i]? with
      | none => rw [hq] at hs; cases hs
      | some q =>
        rw [hq] at hs
        have hi : i < σ.length := by rw [e.len]; exact (List.getElem?_eq_some_iff.mp hq).1
        rw [List.getElem?_eq_getElem hi]
        cases hs
        exact ⟨v, rfl, h.base sb⟩
    · rw [List.getElem?_set_ne hj] at hs ⊢
      exact e'.get j s hs
  · have key : ∀ (j' k' : Nat) (b : Addr) ds' es', i = j' → i ≠ k' → (ρ.set i (some r))[j']? = some (some (.own ds')) → ρ[k']? = some (some (.own es')) → (σ.set i (some v))[j']? = some (some (.ref b)) → σ[k']? ≠ some (some (.ref b)) := by
      clear hj hk h1 h2 hjk
      intro j' k' b ds' es' hij hik hj hk h1 h2
      subst hij
      rw [List.getElem?_set_self'] at hj h1
      cases hq : ρ[i]? with
      | none => rw [hq] at hj; cases hj
      | some q =>
        rw [hq] at hj
        cases hj
        have hi : i < σ.length := by rw [e.len]; exact (List.getElem?_eq_some_iff.mp hq).1
        rw [List.getElem?_eq_getElem hi] at h1
        cases h1
        obtain ⟨a', vs, ea, hn, _⟩ := h
        cases ea
        obtain ⟨w, hw, hb⟩ := e.get k' _ hk
        rw [h2] at hw
        cases hw
        obtain ⟨b', ws, eb, _, _, hs, _⟩ := hb
        cases eb
        rw [hn] at hs
        cases hs
    by_cases hij : i = j
    · have hik : i ≠ k := fun z => hjk (hij.symm.trans z)
      rw [List.getElem?_set_ne hik] at hk h2
      exact key j k a ds es hij hik hj hk h1 h2
    · rw [List.getElem?_set_ne hij] at hj h1
      by_cases hik : i = k
      · exact key k j a es ds hik hij hk hj h2 h1
      · rw [List.getElem?_set_ne hik] at hk h2
        exact e.apart j k a ds es hjk hj hk h1 h2
def mAsg (i : Nat) (f : En → Option Sl) : En → Option Out := fun ρ => (f ρ).map fun r => .nx (ρ.set i (some r))
theorem rs_asg {te : TE} {f : En → Option Sl} {i : Nat} (hsl : R.slot i) (h : RE K R te f) : RS K R (tAsg te (gName i)) (mAsg i f) := fun HB S0 σ ρ H0 H x e o ho D d => by
  obtain ⟨r, hr, rfl⟩ := Option.map_eq_some_iff.mp ho
  exact h HB σ ρ H0 H x.s1 e r hr _ fun v H1 J1 x1 p1 => d _ H1 J1 (x.chain x1) ⟨RelOk.set e.r hsl x1 x.s p1⟩
theorem rs_asgC {te : TE} {f : En → Option Sl} {i : Nat} (hsl : R.slot i) (h : RE K R te f) : RS K R (tSetC i te) (mAsg i f) := fun HB S0 σ ρ H0 H x e o ho D d => by
  obtain ⟨r, hr, rfl⟩ := Option.map_eq_some_iff.mp ho
  exact h HB σ ρ H0 H x.s1 e r hr _ fun v H1 J1 x1 p1 => d _ H1 J1 (x.chain x1) ⟨RelOk.set e.r hsl x1 x.s p1⟩
def mRet (f : En → Option Sl) : En → Option Out := fun ρ => (f ρ).map fun r => .rt r ρ
theorem rs_ret {te : TE} {f : En → Option Sl} (h : RE K R te f) : RS K R (tRet te) (mRet f) := fun HB S0 σ ρ H0 H x e o ho D d => by
  obtain ⟨r, hr, rfl⟩ := Option.map_eq_some_iff.mp ho
  exact h HB σ ρ H0 H x.s1 e r hr _ fun v H1 J1 x1 p1 => d v σ H1 J1 (x.chain x1) (e.ext (K := K) x1) (p1.base x.s)
theorem rs_retV (i : Nat) (hsl : R.slot i) : RS K R (tRet (tVar i)) (mRet (mPk i)) := fun HB S0 σ ρ H0 H x e o ho D d => by
  obtain ⟨r, hr, rfl⟩ := Option.map_eq_some_iff.mp ho
  obtain ⟨v, h1, h2⟩ := RelOk.get (K := K) e.r hsl (join_some hr)
  exact ⟨v, h1, d v σ H0 H x e h2⟩
def mIf (c : En → Option Bool) (f g : En → Option Out) : En → Option Out := fun ρ => (c ρ).bind fun b => if b then f ρ else g ρ
theorem rs_if {c : TT} {t u : TS} {fc : En → Option Bool} {f g : En → Option Out} (hc : RT K R c fc) (h : RS K R t f) (k : RS K R u g) : RS K R (tIfS c t u) (mIf fc f g) := fun HB S0 σ ρ H0 H x e o ho D d => by
  obtain ⟨b, hb, ho⟩ := Option.bind_eq_some_iff.mp ho
  refine hc HB σ ρ H0 H x.s1 e b hb _ fun H1 J1 x1 => ?_
  cases b with
  | true => exact iteT (h HB S0 σ ρ H1 J1 (x.chain x1) (e.ext (K := K) x1) o ho D d)
  | false => exact iteF (k HB S0 σ ρ H1 J1 (x.chain x1) (e.ext (K := K) x1) o ho D d)
def mDrop (f : En → Option Sl) : En → Option Out := fun ρ => (f ρ).map fun _ => .nx ρ
theorem rs_drop {te : TE} {f : En → Option Sl} (h : RE K R te f) : RS K R (tDrop te) (mDrop f) := fun HB S0 σ ρ H0 H x e o ho D d => by
  obtain ⟨r, hr, rfl⟩ := Option.map_eq_some_iff.mp ho
  exact h HB σ ρ H0 H x.s1 e r hr _ fun v H1 J1 x1 p1 => d σ H1 J1 (x.chain x1) (e.ext (K := K) x1)
/-! ### a list of the frame's own is written -/
theorem Ext.write {S0 HB H0 H : Hp} {a : Addr} (x : Ext S0 HB H0 H) (hb : HB a = none) (h0 : H0 a = none) (o : HO) : Ext S0 HB H0 (upd H a o) :=
  ⟨fun b u e => by rw [upd_ne (ne_of_none e hb)]; exact x.s b u e, x.s0, fun b u e => by rw [upd_ne (ne_of_none e h0)]; exact x.s1 b u e, x.own⟩
theorem ER.write {HB H0 H : Hp} {σ : L2.St} {ρ : En} {i : Nat} {a : Addr} {ds es : List PyData} {ys : List V} (e : ER K HB H0 H σ ρ) (hi : ρ[i]? = some (some (.own ds))) (hs : σ[i]? = some (some (.ref a))) (hb : HB a = none) (h0 : H0 a = none) (hr : Reps K H0 ys es) :
    ER K HB H0 (upd H a (.lst ys)) σ (ρ.set i (some (.own es))) := by
  have own : ∀ (j : Nat), ∀ ts, (ρ.set i (some (.own es)))[j]? = some (some (.own ts)) → ∃ ts', ρ[j]? = some (some (.own ts')) := by
    intro j ts h
    by_cases hj : i = j
    · subst hj; exact ⟨_, hi⟩
    · rw [List.getElem?_set_ne hj] at h; exact ⟨_, h⟩
  refine ⟨by rw [List.length_set]; exact e.len, fun j s hq => ?_, fun j k b ts us hjk hj hk h1 h2 => ?_⟩
  · by_cases hj : i = j
    · subst hj
      rw [List.getElem?_set_self', hi] at hq
      cases hq
      exact ⟨.ref a, hs, a, ys, rfl, hb, h0, upd_same, hr⟩
    · rw [List.getElem?_set_ne hj] at hq
      obtain ⟨v, h1, h2⟩ := e.get j s hq
      refine ⟨v, h1, ?_⟩
      cases s with
      | val d => exact h2
      | own ts =>
        obtain ⟨b, vs, rfl, g1, g2, g3, g4⟩ := h2
        refine ⟨b, vs, rfl, g1, g2, ?_, g4⟩
        rw [upd_ne]
        · exact g3
        · rintro rfl
          exact e.apart i j b ds ts hj hi hq hs h1
  · obtain ⟨ts', hj⟩ := own j ts hj
    obtain ⟨us', hk⟩ := own k us hk
    exact e.apart j k b ts' us' hjk hj hk h1 h2
def mApp (i : Nat) (f : En → Option Sl) : En → Option Out := fun ρ => match (ρ[i]?).join with
  | some (.own ds) => (f ρ).bind fun r => if ds.length < sizeLine then some (.nx (ρ.set i (some (.own (ds ++ [r.dat]))))) else none
  | _ => none
theorem own_of {HB H0 H : Hp} {σ : L2.St} {ρ : En} {i : Nat} {ds : List PyData} (e : ST R HB H0 H σ ρ) (hsl : R.slot i) (h : (ρ[i]?).join = some (.own ds)) :
    ∃ a vs, ρ[i]? = some (some (.own ds)) ∧ σ[i]? = some (some (.ref a)) ∧ HB a = none ∧ H0 a = none ∧ H a = some (.lst vs) ∧ Reps K H0 vs ds := by
  obtain ⟨v, h1, a, vs, rfl, g1, g2, g3, g4⟩ := RelOk.get (K := K) e.r hsl (join_some h)
  exact ⟨a, vs, join_some h, h1, g1, g2, g3, g4⟩
theorem rs_app {te : TE} {f : En → Option Sl} {i : Nat} (hsl : R.slot i) (h : RE K R te f) : RS K R (tDrop (tBM K "list" rAppend (tVar i) (tCons te tNil))) (mApp i f) := fun HB S0 σ ρ H0 H x e o ho D d => by
  unfold mApp at ho
  split at ho
  · rename_i ds hj
    obtain ⟨r, hr, ho⟩ := Option.bind_eq_some_iff.mp ho
    split at ho
    · rename_i hl
      cases ho
      obtain ⟨a, vs, hi, hs, g1, g2, g3, g4⟩ := own_of (K := K) e hsl hj
      refine ⟨.ref a, hs, .inl ⟨rfl, vs, SqL.of g3⟩, ?_⟩
      refine h.rv HB σ ρ H0 H x.s1 e r.dat (by unfold mDat; rw [hr]; rfl) _ fun v H1 J1 x1 p1 => ?_
      have l0 := x1.own a _ g3 g2
      refine ⟨a, vs, v, rfl, rfl, x1.s _ _ g3, by rw [g4.length]; exact hl, ?_⟩
      exact d σ H1 _ ((x.chain x1).write g1 l0 _) ⟨RelOk.write (K := K) (e.ext (K := K) x1).r hsl hi hs g1 l0 (x1.s _ _ g3) (Tf.Reps.snoc (Reps.same x1.s0 g4) p1)⟩
    · cases ho
  · cases ho
def mSet (i : Nat) (fj f : En → Option Sl) : En → Option Out := fun ρ => (f ρ).bind fun r => match (ρ[i]?).join with
  | some (.own ds) => (fj ρ).bind fun k => match k with
    | .val (.int k) => (ixN ds.length k).map fun j => .nx (ρ.set i (some (.own (ds.set j r.dat))))
    | _ => none
  | _ => none
theorem Reps.set {H : Hp} {v : V} {d : PyData} (r : Rep K H v d) : ∀ {vs : List V} {ds : List PyData} (i : Nat), Reps K H vs ds → Reps K H (vs.set i v) (ds.set i d)
  | _, _, _, .nil => .nil
  | _, _, 0, .cons _ t => .cons r t
  | _, _, i + 1, .cons q t => .cons q (Reps.set r i t)
theorem rs_set {te tj : TE} {f fj : En → Option Sl} {i : Nat} (hsl : R.slot i) (h : RE K R te f) (hj : RP K R tj fj) : RS K R (tAsg te (gSub (tVar i) tj rSetL)) (mSet i fj f) := fun HB S0 σ ρ H0 H x e o ho D d => by
  obtain ⟨r, hr, ho⟩ := Option.bind_eq_some_iff.mp ho
  split at ho
  · rename_i ds hown
    obtain ⟨k, hk, ho⟩ := Option.bind_eq_some_iff.mp ho
    split at ho
    · rename_i k
      obtain ⟨j, hix, rfl⟩ := Option.map_eq_some_iff.mp ho
      refine h.rv HB σ ρ H0 H x.s1 e r.dat (by unfold mDat; rw [hr]; rfl) _ fun v H1 J1 x1 p1 => ?_
      obtain ⟨a, vs, hi, hs, g1, g2, g3, g4⟩ := own_of (K := K) (e.ext (K := K) x1) hsl hown
      refine ⟨.ref a, hs, ?_⟩
      refine hj HB σ ρ H1 J1 x1.s1 (e.ext (K := K) x1) _ hk _ fun w H2 J2 x2 p2 => ?_
      have l0 := x2.own a _ g3 g2
      refine ⟨a, vs, k, j, rfl, p2.int, x2.s _ _ g3, by rw [g4.length]; exact hix, ?_⟩
      exact d σ H2 _ (((x.chain x1).chain x2).write g1 l0 _) ⟨RelOk.write (K := K) ((e.ext (K := K) x1).ext (K := K) x2).r hsl hi hs g1 l0 (x2.s _ _ g3) (Reps.set (Rep.same x2.s0 p1) j (Reps.same x2.s0 g4))⟩
    · cases ho
  · cases ho
/-! ### a list is given up to be shared -/
def frz1 (i : Nat) (ρ : En) : En := match (ρ[i]?).join with
  | some (.own ds) => ρ.set i (some (.val (.list ds)))
  | _ => ρ
def mFrz (i : Nat) (g : En → Option Out) : En → Option Out := fun ρ => g (frz1 i ρ)
theorem ER.frz {S0 HB H0 H : Hp} {σ : L2.St} {ρ : En} {i : Nat} {ds : List PyData} (e : ER K HB H0 H σ ρ) (hi : ρ[i]? = some (some (.own ds))) (x : Ext S0 HB H0 H) : ∃ a vs, H a = some (.lst vs) ∧ Ext S0 HB (upd H0 a (.lst vs)) H ∧ ER K HB (upd H0 a (.lst vs)) H σ (ρ.set i (some (.val (.list ds)))) := by
  obtain ⟨v, hs, a, vs, rfl, g1, g2, g3, g4⟩ := e.get i _ hi
  have s0 : Same H0 (upd H0 a (.lst vs)) := Same.upd g2 _
  have x' : Ext S0 HB (upd H0 a (.lst vs)) H := ⟨x.s, x.s0.trans s0, fun b u q => by
      by_cases hb : b = a
      · subst hb; rw [upd_same] at q; rw [g3]; exact q
      · rw [upd_ne hb] at q; exact x.s1 b u q, fun b u q q0 => by rw [upd_ne (ne_of_none q g1)]; exact x.own b u q q0⟩
  refine ⟨a, vs, g3, x', ⟨by rw [List.length_set]; exact e.len, fun j s hq => ?_, fun j k b ts us hjk h1 h2 h3 h4 => ?_⟩⟩
  · by_cases hij : i = j
    · subst hij
      rw [List.getElem?_set_self', hi] at hq
      cases hq
      exact ⟨.ref a, hs, .list (SqL.of upd_same) (Reps.same s0 g4)⟩
    · rw [List.getElem?_set_ne hij] at hq
      obtain ⟨v, h1, h2⟩ := e.get j s hq
      refine ⟨v, h1, ?_⟩
      cases s with
      | val d => exact Rep.same s0 h2
      | own ts =>
        obtain ⟨b, ws, rfl, q1, q2, q3, q4⟩ := h2
        refine ⟨b, ws, rfl, q1, ?_, q3, Reps.same s0 q4⟩
        rw [upd_ne]
        · exact q2
        · rintro rfl
          exact e.apart i j b ds ts hij hi hq hs h1
  · have hij : i ≠ j := by
      rintro rfl
      rw [List.getElem?_set_self', hi] at h1
      cases h1
    have hik : i ≠ k := by
      rintro rfl
      rw [List.getElem?_set_self', hi] at h2
      cases h2
    rw [List.getElem?_set_ne hij] at h1
    rw [List.getElem?_set_ne hik] at h2
    exact e.apart j k b ts us hjk h1 h2 h3 h4
instance relOk_PR : RelOk K (PR K) where
  ext := fun x e => ER.ext x e
  get := fun e _ h => ER.get e _ _ h
  set := fun e _ x s h => ER.set e x s h
  write := fun e _ h1 h2 h3 h4 _ h5 => ER.write e h1 h2 h3 h4 h5
  frz := fun e h x => by obtain ⟨a, vs, _, h1, h2⟩ := ER.frz e h x; exact ⟨_, h1, h2⟩
theorem rs_frz {ts : TS} {g : En → Option Out} (i : Nat) (h : RS K R ts g) : RS K R ts (mFrz i g) := fun HB S0 σ ρ H0 H x e o ho D d => by
  unfold mFrz frz1 at ho
  split at ho
  · rename_i ds hj
    obtain ⟨H0', x', e'⟩ := RelOk.frz (K := K) e.r (join_some hj) x
    exact h HB S0 σ _ H0' H x' ⟨e'⟩ o ho D d
  · exact h HB S0 σ ρ H0 H x e o ho D d
/-! ### loops -/
/-- the target takes an item -/
def RG (K : PySem.W.Frag) (R : Rl) (g : TG) (fg : PyData → En → Option En) : Prop :=
  ∀ (HB : Hp) (σ : L2.St) (ρ ρ' : En) (H0 H : Hp) (v : V) (d : PyData), Same H0 H → Same HB H → ST R HB H0 H σ ρ → Rep K H0 v d → fg d ρ = some ρ' → ∀ Q : L2.St → Hp → Prop, (∀ σ', ST R HB H0 H σ' ρ' → Q σ' H) → g v σ H Q
def gVar (i : Nat) : PyData → En → Option En := fun d ρ => some (ρ.set i (some (.val d)))
theorem rg_name (i : Nat) (hsl : R.slot i) : RG K R (gName i) (gVar i) := fun HB σ ρ ρ' H0 H v d s sb e r h Q q => by
  cases h
  exact q _ ⟨RelOk.set (K := K) e.r hsl (Ext.refl s) sb (show SlH K H H0 H v (.val d) from r)⟩
def gsAll : List (PyData → En → Option En) → List PyData → En → Option En
  | [], [], ρ => some ρ
  | g :: gs, d :: ds, ρ => (g d ρ).bind fun ρ' => gsAll gs ds ρ'
  | _, _, _ => none
def gTupD (gs : List (PyData → En → Option En)) : PyData → En → Option En := fun d ρ => match d with
  | .tuple ds => if ds.length = gs.length then gsAll gs ds ρ else none
  | _ => none
def RGs (K : PySem.W.Frag) (R : Rl) (g : TGs) (gs : List (PyData → En → Option En)) : Prop :=
  ∀ (HB : Hp) (σ : L2.St) (ρ ρ' : En) (H0 H : Hp) (vs : List V) (ds : List PyData), Same H0 H → Same HB H → ST R HB H0 H σ ρ → Reps K H0 vs ds → gsAll gs ds ρ = some ρ' → ∀ Q : L2.St → Hp → Prop, (∀ σ', ST R HB H0 H σ' ρ' → Q σ' H) → g vs σ H Q
theorem rgs_nil : RGs K R gNil [] := fun HB σ ρ ρ' H0 H vs ds s sb e r h Q q => by
  cases r with
  | nil => cases h; exact ⟨rfl, q _ e⟩
  | cons _ _ => cases h
theorem rgs_cons {g : TG} {u : TGs} {fg : PyData → En → Option En} {gs : List (PyData → En → Option En)} (h1 : RG K R g fg) (h2 : RGs K R u gs) : RGs K R (gCons g u) (fg :: gs) := fun HB σ ρ ρ' H0 H vs ds s sb e r h Q q => by
  cases r with
  | nil => cases h
  | cons r1 r2 =>
    obtain ⟨ρ1, e1, h⟩ := Option.bind_eq_some_iff.mp (show (fg _ ρ).bind _ = some ρ' from h)
    exact ⟨_, _, rfl, h1 HB σ ρ ρ1 H0 H _ _ s sb e r1 e1 _ fun σ' e' => h2 HB σ' ρ1 ρ' H0 H _ _ s sb e' r2 h Q q⟩
theorem rg_tup {g : TGs} {gs : List (PyData → En → Option En)} {n : Nat} (hn : n = gs.length) (h : RGs K R g gs) : RG K R (gTup K n g) (gTupD gs) := fun HB σ ρ ρ' H0 H v d s sb e r hd Q q => by
  unfold gTupD at hd
  split at hd
  · split at hd
    · rename_i ds hl
      cases r with
      | tuple r1 r2 => exact ⟨_, _, rfl, s.seqT r1, by rw [r2.length, hl, hn], h HB σ ρ ρ' H0 H _ _ s sb e r2 hd Q q⟩
    · cases hd
  · cases hd
/-- what a walk yields -/
def ItR (K : PySem.W.Frag) (H0 : Hp) (J : It) (ds : List PyData) : Prop := ∀ H0' H', Same H0 H0' → Same H0' H' → ∀ i : Nat, (∀ d, ds[i]? = some d → J.go i H' ∧ ∀ x H2, J.yld i H' x H2 → ∃ H02, Ext H0' H' H02 H2 ∧ Rep K H02 x d) ∧ (ds.length ≤ i → J.stop i H')
def RI (K : PySem.W.Frag) (R : Rl) (wi : TI) (f : En → Option (List PyData)) : Prop :=
  ∀ (HB : Hp) (σ : L2.St) (ρ : En) (H0 H : Hp), Same H0 H → ST R HB H0 H σ ρ → ∀ ds, f ρ = some ds → ∀ R : It → Hp → Prop, (∀ J H0' H', Ext H0 H H0' H' → ItR K H0' J ds → R J H') → wi σ H R
def mItems (f : En → Option Sl) : En → Option (List PyData) := fun ρ => (f ρ).bind fun a => match a.dat with
  | .list ds => some ds
  | _ => none
def mItemsT (f : En → Option Sl) : En → Option (List PyData) := fun ρ => (f ρ).bind fun a => match a.dat with
  | .tuple ds => some ds
  | _ => none
theorem it_list {H0 : Hp} {a : Addr} {vs : List V} {ds : List PyData} (h : SqL K H0 a vs) (r : Reps K H0 vs ds) : ItR K H0 (Itl K a) ds := fun H0' H' s s' i => by
  have h' := s'.seq (s.seq h)
  refine ⟨fun d hd => ?_, fun hi => ⟨vs, h', by rw [r.length]; exact hi⟩⟩
  obtain ⟨v, e1, e2⟩ := Tf.Reps.get r hd
  refine ⟨⟨vs, v, h', e1⟩, fun x H2 y => ?_⟩
  obtain ⟨rfl, y⟩ := y
  have := y vs h'
  rw [e1] at this
  cases this
  exact ⟨H0', Ext.refl s', Rep.same s e2⟩
theorem it_tup {H0 : Hp} {a : Addr} {vs : List V} {ds : List PyData} (h : SqT K H0 a vs) (r : Reps K H0 vs ds) : ItR K H0 (Itt K a) ds := fun H0' H' s s' i => by
  have h' := s'.seqT (s.seqT h)
  refine ⟨fun d hd => ?_, fun hi => ⟨vs, h', by rw [r.length]; exact hi⟩⟩
  obtain ⟨v, e1, e2⟩ := Tf.Reps.get r hd
  refine ⟨⟨vs, v, h', e1⟩, fun x H2 y => ?_⟩
  obtain ⟨rfl, y⟩ := y
  have := y vs h'
  rw [e1] at this
  cases this
  exact ⟨H0', Ext.refl s', Rep.same s e2⟩
theorem ri_list {te : TE} {f : En → Option Sl} (h : RE K R te f) : RI K R (iList K te) (mItems f) := fun HB σ ρ H0 H s e ds hd R q => by
  obtain ⟨a, ha, hd⟩ := Option.bind_eq_some_iff.mp hd
  split at hd
  · rename_i es he
    cases hd
    refine h.rv HB σ ρ H0 H s e a.dat (by unfold mDat; rw [ha]; rfl) _ fun v H1 J1 x1 p1 => ?_
    rw [he] at p1
    cases p1 with
    | list h1 h2 => exact ⟨_, rfl, ⟨_, x1.s1.seq h1⟩, q _ _ _ x1 (it_list h1 h2)⟩
  · cases hd
theorem ri_tup {te : TE} {f : En → Option Sl} (h : RE K R te f) : RI K R (iTup K te) (mItemsT f) := fun HB σ ρ H0 H s e ds hd R q => by
  obtain ⟨a, ha, hd⟩ := Option.bind_eq_some_iff.mp hd
  split at hd
  · rename_i es he
    cases hd
    refine h.rv HB σ ρ H0 H s e a.dat (by unfold mDat; rw [ha]; rfl) _ fun v H1 J1 x1 p1 => ?_
    rw [he] at p1
    cases p1 with
    | tuple h1 h2 => exact ⟨_, rfl, ⟨_, x1.s1.seqT h1⟩, q _ _ _ x1 (it_tup h1 h2)⟩
  · cases hd
def rngD (lo : Int) (n : Nat) : List PyData := (List.range n).map fun i => .int (lo + (i : Nat))
theorem rngD_get {lo : Int} {n i : Nat} : (rngD lo n)[i]? = if i < n then some (.int (lo + (i : Nat))) else none := by
  unfold rngD
  rw [List.getElem?_map]
  by_cases h : i < n
  · rw [List.getElem?_range h, if_pos h]; rfl
  · rw [if_neg h, List.getElem?_eq_none (by simpa using h)]; rfl
theorem it_range {H0 : Hp} {lo : Int} {n : Nat} : ItR K H0 (Itr lo n) (rngD lo n) := fun H0' H' s s' i => by
  refine ⟨fun d hd => ?_, fun hi => show n ≤ i by simpa [rngD] using hi⟩
  rw [rngD_get] at hd
  split at hd
  · rename_i hi
    cases hd
    exact ⟨hi, fun x H2 y => by obtain ⟨rfl, rfl⟩ := y; exact ⟨H0', Ext.refl s', .int _⟩⟩
  · cases hd
def inB (i : Int) : Prop := -(2 ^ 62) ≤ i ∧ i < 2 ^ 62
noncomputable instance (i : Int) : Decidable (inB i) := Classical.propDecidable _
noncomputable def mRng1 (f : En → Option (List Sl)) : En → Option (List PyData) := fun ρ => (f ρ).bind fun a => match a with
  | [.val (.int j)] => if inB j then some (rngD 0 j.toNat) else none
  | _ => none
theorem ri_range1 {ta : TA} {f : En → Option (List Sl)} (h : RQ K R ta f) : RI K R (iRng1 ta) (mRng1 f) := fun HB σ ρ H0 H s e ds hd R q => by
  obtain ⟨a, ha, hd⟩ := Option.bind_eq_some_iff.mp hd
  split at hd
  · split at hd
    · rename_i j hb
      cases hd
      refine h HB σ ρ H0 H s e _ ha _ fun vs H1 J1 x1 p1 => ?_
      obtain ⟨v, rfl, pa⟩ := paired1 p1
      exact ⟨j, by rw [pa.int], hb.1, hb.2, q _ _ _ x1 it_range⟩
    · cases hd
  · cases hd
noncomputable def mRng2 (f : En → Option (List Sl)) : En → Option (List PyData) := fun ρ => (f ρ).bind fun a => match a with
  | [.val (.int i), .val (.int j)] => if inB i ∧ inB j then some (rngD i (j - i).toNat) else none
  | _ => none
theorem ri_range2 {ta : TA} {f : En → Option (List Sl)} (h : RQ K R ta f) : RI K R (iRng2 ta) (mRng2 f) := fun HB σ ρ H0 H s e ds hd R q => by
  obtain ⟨a, ha, hd⟩ := Option.bind_eq_some_iff.mp hd
  split at hd
  · split at hd
    · rename_i i j hb
      cases hd
      refine h HB σ ρ H0 H s e _ ha _ fun vs H1 J1 x1 p1 => ?_
      obtain ⟨v, w, rfl, pa, pb⟩ := paired2 p1
      exact ⟨i, j, by rw [pa.int, pb.int], ⟨hb.1.1, hb.1.2, hb.2.1, hb.2.2⟩, q _ _ _ x1 it_range⟩
    · cases hd
  · cases hd
def rngDn (hi : Int) (n : Nat) : List PyData := (List.range n).map fun i => .int (hi - (i : Nat))
theorem it_down {H0 : Hp} {hi : Int} {n : Nat} : ItR K H0 (Itd hi n) (rngDn hi n) := fun H0' H' s s' i => by
  refine ⟨fun d hd => ?_, fun h => show n ≤ i by simpa [rngDn] using h⟩
  unfold rngDn at hd
  rw [List.getElem?_map] at hd
  by_cases h : i < n
  · rw [List.getElem?_range h] at hd
    cases hd
    exact ⟨h, fun x H2 y => by obtain ⟨rfl, rfl⟩ := y; exact ⟨H0', Ext.refl s', .int _⟩⟩
  · rw [List.getElem?_eq_none (by simpa using h)] at hd; cases hd
noncomputable def mRngD (f : En → Option (List Sl)) : En → Option (List PyData) := fun ρ => (f ρ).bind fun a => match a with
  | [.val (.int i), .val (.int j), .val (.int (-1))] => if inB i ∧ inB j then some (rngDn i (i - j).toNat) else none
  | _ => none
theorem paired3 {H0 H : Hp} {vs : List V} {a b c : Sl} (h : Paired (SlP K H0 H) vs [a, b, c]) : ∃ v w u, vs = [v, w, u] ∧ SlP K H0 H v a ∧ SlP K H0 H w b ∧ SlP K H0 H u c := by
  cases h with | cons h t => cases t with | cons h2 t => cases t with | cons h3 t => cases t; exact ⟨_, _, _, rfl, h, h2, h3⟩
theorem ri_rangeD {ta : TA} {f : En → Option (List Sl)} (h : RQ K R ta f) : RI K R (iRngD ta) (mRngD f) := fun HB σ ρ H0 H s e ds hd R q => by
  obtain ⟨a, ha, hd⟩ := Option.bind_eq_some_iff.mp hd
  split at hd
  · split at hd
    · rename_i i j hb
      cases hd
      refine h HB σ ρ H0 H s e _ ha _ fun vs H1 J1 x1 p1 => ?_
      obtain ⟨v, w, u, rfl, pa, pb, pc⟩ := paired3 p1
      exact ⟨i, j, by rw [pa.int, pb.int, pc.int], ⟨hb.1.1, hb.1.2, hb.2.1, hb.2.2⟩, q _ _ _ x1 it_down⟩
    · cases hd
  · cases hd
/-- zip of two lists -/
def zipD (xs ys : List PyData) : List PyData := List.zipWith (fun x y => .tuple [x, y]) xs ys
theorem it_zip {H0 : Hp} {a b : Addr} {vs ws : List V} {ds es : List PyData} (h : SqL K H0 a vs) (r : Reps K H0 vs ds) (h2 : SqL K H0 b ws) (r2 : Reps K H0 ws es) : ItR K H0 (Itz K a b) (zipD ds es) := fun H0' H' s s' i => by
  have h' := s'.seq (s.seq h)
  have h2' := s'.seq (s.seq h2)
  refine ⟨fun d hd => ?_, fun hi => ⟨vs, ws, h', h2', ?_⟩⟩
  · unfold zipD at hd
    rw [List.getElem?_zipWith] at hd
    cases e1 : ds[i]? with
    | none => rw [e1] at hd; cases hd
    | some x =>
      cases e2 : es[i]? with
      | none => rw [e1, e2] at hd; cases hd
      | some y =>
        rw [e1, e2] at hd
        cases hd
        obtain ⟨v, q1, q2⟩ := Tf.Reps.get r e1
        obtain ⟨w, q3, q4⟩ := Tf.Reps.get r2 e2
        refine ⟨⟨vs, ws, v, w, h', h2', q1, q3⟩, fun z H2 yl => ?_⟩
        obtain ⟨p, x', y', hp, rfl, rfl, hx, hy⟩ := yl
        have := hx vs h'
        rw [q1] at this
        cases this
        have := hy ws h2'
        rw [q3] at this
        cases this
        refine ⟨_, Ext.allocF s' hp _, .tuple (SqT.of upd_same) ?_⟩
        have s2 := s.trans (Same.upd (s'.free hp) (.tup [v, w]))
        exact .cons (Rep.same s2 q2) (.cons (Rep.same s2 q4) .nil)
  · rw [r.length, r2.length]
    unfold zipD at hi
    rw [List.length_zipWith] at hi
    omega
def mZip (f : En → Option (List PyData)) : En → Option (List PyData) := fun ρ => (f ρ).bind fun a => match a with
  | [.list xs, .list ys] => some (zipD xs ys)
  | _ => none
theorem ri_zip {ta : TA} {f : En → Option (List PyData)} (h : RA K R ta f) : RI K R (iZip K ta) (mZip f) := fun HB σ ρ H0 H s e ds hd R q => by
  obtain ⟨a, ha, hd⟩ := Option.bind_eq_some_iff.mp hd
  split at hd
  · cases hd
    refine h HB σ ρ H0 H s e _ ha _ fun vs H1 J1 x1 p1 => ?_
    cases p1 with | cons p1 t => cases t with | cons p2 t =>
      cases t
      cases p1 with | list a1 a2 => cases p2 with | list b1 b2 =>
        exact ⟨_, _, rfl, ⟨_, x1.s1.seq a1⟩, ⟨_, x1.s1.seq b1⟩, q _ _ _ x1 (it_zip a1 a2 b1 b2)⟩
  · cases hd
def forM (fg : PyData → En → Option En) (gb : En → Option Out) : List PyData → En → Option Out
  | [], ρ => some (.nx ρ)
  | d :: ds, ρ => (fg d ρ).bind fun ρ1 => (gb ρ1).bind fun o => match o with
    | .nx ρ2 => forM fg gb ds ρ2
    | .ct ρ2 => forM fg gb ds ρ2
    | .bk ρ2 => some (.nx ρ2)
    | .rt r ρ2 => some (.rt r ρ2)
def mFor (fi : En → Option (List PyData)) (fg : PyData → En → Option En) (gb : En → Option Out) : En → Option Out := fun ρ => (fi ρ).bind fun ds => forM fg gb ds ρ
theorem forM_drop {fg : PyData → En → Option En} {gb : En → Option Out} {ds : List PyData} {i : Nat} {d : PyData} {ρ : En} (h : ds[i]? = some d) : forM fg gb (ds.drop i) ρ = (fg d ρ).bind fun ρ1 => (gb ρ1).bind fun o => match o with
    | .nx ρ2 => forM fg gb (ds.drop (i + 1)) ρ2
    | .ct ρ2 => forM fg gb (ds.drop (i + 1)) ρ2
    | .bk ρ2 => some (.nx ρ2)
    | .rt r ρ2 => some (.rt r ρ2) := by
  obtain ⟨hi, e⟩ := List.getElem?_eq_some_iff.mp h
  rw [List.drop_eq_getElem_cons hi, e]
  rfl
theorem rs_for {wi : TI} {g : TG} {tb : TS} {fi : En → Option (List PyData)} {fg : PyData → En → Option En} {gb : En → Option Out} (hi : RI K R wi fi) (hg : RG K R g fg) (hb : RS K R tb gb) : RS K R (tFor wi g tb) (mFor fi fg gb) := fun HB S0 σ ρ H0 H x e o ho D d => by
  obtain ⟨ds, hds, ho⟩ := Option.bind_eq_some_iff.mp ho
  refine hi HB σ ρ H0 H x.s1 e ds hds _ fun J H1 J1 x1 it => ?_
  have x' := x.chain x1
  refine ⟨fun i m σ H => m = ds.length - i ∧ ((∃ ρ H0', i ≤ ds.length ∧ Ext H1 HB H0' H ∧ ST R HB H0' H σ ρ ∧ forM fg gb (ds.drop i) ρ = some o)), ⟨_, rfl, ρ, H1, Nat.zero_le _, x'.rebase, e.ext (K := K) x1, ho⟩, ?_⟩
  rintro i m σ1 H2 ⟨rfl, ρ1, H0', hile, xx, e1, hf⟩
  obtain ⟨ig, is⟩ := it H0' H2 xx.s0 xx.s1 i
  by_cases hlt : i < ds.length
  · right
    obtain ⟨go, yl⟩ := ig ds[i] (by simp [hlt])
    rw [forM_drop (d := ds[i]) (by simp [hlt])] at hf
    obtain ⟨ρ2, hr2, hf⟩ := Option.bind_eq_some_iff.mp hf
    obtain ⟨o2, ho2, hf⟩ := Option.bind_eq_some_iff.mp hf
    refine ⟨go, fun σ' H' => ∃ ρ H0', Ext H1 HB H0' H' ∧ ST R HB H0' H' σ' ρ ∧ forM fg gb (ds.drop (i + 1)) ρ = some o, fun σ' H' ⟨ρ', H0'', a1, a2, a3⟩ => ⟨ds.length - (i + 1), by omega, rfl, ρ', H0'', hlt, a1, a2, a3⟩, fun v H3 y => ?_⟩
    obtain ⟨H03, x3, r3⟩ := yl v H3 y
    have xx3 := xx.chain x3
    refine hg HB σ1 ρ1 ρ2 H03 H3 v _ xx3.s1 xx3.s (e1.ext (K := K) x3) r3 hr2 _ fun σ2 e2 => ?_
    refine hb HB H1 σ2 ρ2 H03 H3 xx3 e2 o2 ho2 _ ?_
    cases o2 with
    | nx ρ3 => exact fun σ' H0'' H' a b => ⟨ρ3, H0'', a, b, hf⟩
    | ct ρ3 => exact fun σ' H0'' H' a b => ⟨ρ3, H0'', a, b, hf⟩
    | bk ρ3 => cases hf; exact fun σ' H0'' H' a b => d σ' H0'' H' (x'.unbase a) b
    | rt r ρ3 => cases hf; exact fun v σ' H0'' H' a b c => d v σ' H0'' H' (x'.unbase a) b c
  · left
    refine ⟨is (by omega), ?_⟩
    rw [List.drop_eq_nil_of_le (by omega)] at hf
    cases hf
    exact d σ1 H0' H2 (x'.unbase xx) e1
/-! ### while -/
def whileF (c : En → Option Bool) (b : En → Option Out) : Nat → En → Option Out
  | 0, _ => none
  | n + 1, ρ => (c ρ).bind fun k => if k then (b ρ).bind fun o => match o with
      | .nx ρ2 => whileF c b n ρ2
      | .ct ρ2 => whileF c b n ρ2
      | .bk ρ2 => some (.nx ρ2)
      | .rt r ρ2 => some (.rt r ρ2)
    else some (.nx ρ)
open Classical in
noncomputable def mWhile (c : En → Option Bool) (b : En → Option Out) : En → Option Out := fun ρ => if h : ∃ o n, whileF c b n ρ = some o then some h.choose else none
theorem whileF_mono {c : En → Option Bool} {b : En → Option Out} : ∀ {n : Nat} {ρ : En} {o : Out}, whileF c b n ρ = some o → ∀ m, n ≤ m → whileF c b m ρ = some o
  | 0, _, _, h, _, _ => by cases h
  | n + 1, ρ, o, h, m, hm => by
    obtain ⟨m, rfl⟩ : ∃ k, m = k + 1 := ⟨m - 1, by omega⟩
    unfold whileF at h ⊢
    obtain ⟨k, hk, h⟩ := Option.bind_eq_some_iff.mp h
    rw [hk]
    cases k with
    | false => exact h
    | true =>
      show Option.bind _ _ = _
      simp only [if_true] at h
      obtain ⟨o2, h2, h⟩ := Option.bind_eq_some_iff.mp h
      rw [h2]
      cases o2 with
      | nx ρ2 => exact whileF_mono (n := n) h m (by omega)
      | ct ρ2 => exact whileF_mono (n := n) h m (by omega)
      | bk ρ2 => exact h
      | rt r _ => exact h
theorem mWhile_of {c : En → Option Bool} {b : En → Option Out} {ρ : En} {o : Out} {n : Nat} (h : whileF c b n ρ = some o) : mWhile c b ρ = some o := by
  have hx : ∃ o n, whileF c b n ρ = some o := ⟨o, n, h⟩
  unfold mWhile
  rw [dif_pos hx]
  obtain ⟨m, hm⟩ := hx.choose_spec
  have h1 := whileF_mono h (max n m) (Nat.le_max_left _ _)
  have h2 := whileF_mono hm (max n m) (Nat.le_max_right _ _)
  rw [← h2, h1]
theorem mWhile_fuel {c : En → Option Bool} {b : En → Option Out} {ρ : En} {o : Out} (h : mWhile c b ρ = some o) : ∃ n, whileF c b n ρ = some o := by
  unfold mWhile at h
  split at h
  · rename_i hx
    obtain ⟨m, hm⟩ := hx.choose_spec
    cases h
    exact ⟨m, hm⟩
  · cases h
theorem rs_while {c : TT} {tb : TS} {fc : En → Option Bool} {gb : En → Option Out} (hc : RT K R c fc) (hb : RS K R tb gb) : RS K R (tWhile c tb) (mWhile fc gb) := fun HB S0 σ ρ H0 H x e o ho D d => by
  obtain ⟨n, hn⟩ := mWhile_fuel ho
  refine ⟨fun m σ H => ∃ ρ H0, Ext S0 HB H0 H ∧ ST R HB H0 H σ ρ ∧ whileF fc gb m ρ = some o, ⟨n, ρ, H0, x, e, hn⟩, ?_⟩
  rintro m σ1 H1 ⟨ρ1, H01, x1, e1, hw⟩
  cases m with
  | zero => cases hw
  | succ m =>
    unfold whileF at hw
    obtain ⟨k, hk, hw⟩ := Option.bind_eq_some_iff.mp hw
    refine hc HB σ1 ρ1 H01 H1 x1.s1 e1 k hk _ fun H2 J2 x2 => ?_
    have x12 := x1.chain x2
    cases k with
    | false => cases hw; exact iteF (d σ1 H2 J2 x12 (e1.ext (K := K) x2))
    | true =>
      simp only [if_true] at hw
      obtain ⟨o2, h2, hw⟩ := Option.bind_eq_some_iff.mp hw
      refine iteT ⟨fun σ' H' => ∃ ρ H0, Ext S0 HB H0 H' ∧ ST R HB H0 H' σ' ρ ∧ whileF fc gb m ρ = some o, fun σ' H' h => ⟨m, Nat.lt_succ_self m, h⟩, ?_⟩
      refine hb HB S0 σ1 ρ1 H2 J2 x12 (e1.ext (K := K) x2) o2 h2 _ ?_
      cases o2 with
      | nx ρ3 => exact fun σ' H0'' H' a b => ⟨ρ3, H0'', a, b, hw⟩
      | ct ρ3 => exact fun σ' H0'' H' a b => ⟨ρ3, H0'', a, b, hw⟩
      | bk ρ3 => cases hw; exact fun σ' H0'' H' a b => d σ' H0'' H' a b
      | rt r ρ3 => cases hw; exact fun v σ' H0'' H' a b c => d v σ' H0'' H' a b c
/-- a, b = e -/
def mAsgT (g : PyData → En → Option En) (f : En → Option Sl) : En → Option Out := fun ρ => (f ρ).bind fun r => (g r.dat ρ).map .nx
theorem rs_asgT {te : TE} {g : TG} {f : En → Option Sl} {fg : PyData → En → Option En} (h : RE K R te f) (hg : RG K R g fg) : RS K R (tAsg te g) (mAsgT fg f) := fun HB S0 σ ρ H0 H x e o ho D d => by
  obtain ⟨r, hr, ho⟩ := Option.bind_eq_some_iff.mp ho
  obtain ⟨ρ', hg', rfl⟩ := Option.map_eq_some_iff.mp ho
  refine h.rv HB σ ρ H0 H x.s1 e r.dat (by unfold mDat; rw [hr]; rfl) _ fun v H1 J1 x1 p1 => ?_
  have x' := x.chain x1
  exact hg HB σ ρ ρ' H1 J1 v _ x'.s1 x'.s (e.ext (K := K) x1) p1 hg' _ fun σ' e' => d σ' H1 J1 x' e'
/-- a, b = c, d -/
def mPar (i j : Nat) (f : En → Option (List PyData)) : En → Option Out := fun ρ => (f ρ).bind fun ds => match ds with
  | [a, b] => some (.nx ((ρ.set i (some (.val a))).set j (some (.val b))))
  | _ => none
theorem rs_par {i j : Nat} (hsi : R.slot i) (hsj : R.slot j) {ta : TA} {f : En → Option (List PyData)} (h : RA K R ta f) : RS K R (tPar i j ta) (mPar i j f) := fun HB S0 σ ρ H0 H x e o ho D d => by
  obtain ⟨ds, hd, ho⟩ := Option.bind_eq_some_iff.mp ho
  split at ho
  · cases ho
    refine h HB σ ρ H0 H x.s1 e _ hd _ fun vs H1 J1 x1 p1 => ?_
    cases p1 with | cons p1 t => cases t with | cons p2 t =>
      cases t
      have x' := x.chain x1
      have e1 := RelOk.set (K := K) (e.ext (K := K) x1).r hsi (Ext.refl x'.s1) x'.s (show SlH K J1 H1 J1 _ (.val _) from p1)
      have e2 := RelOk.set (K := K) e1 hsj (Ext.refl x'.s1) x'.s (show SlH K J1 H1 J1 _ (.val _) from p2)
      exact ⟨_, _, rfl, d _ H1 J1 x' ⟨e2⟩⟩
  · cases ho
end
end Dm

set_option Elab.async false
set_option linter.all false
set_option maxRecDepth 100000
set_option maxHeartbeats 4000000
namespace Dm
open PySem PySem.Spec PyProof.Rows L2 Tf
section
variable {K : PySem.W.Frag}
/-! ### comprehensions -/
def subE (ix : List (Option Nat)) (ρ : En) : En := ix.map fun o => match o with | some j => (ρ[j]?).join | none => none
theorem ix_inj : ∀ {ix : List (Option Nat)}, (ix.filterMap id).Nodup → ∀ {i k j : Nat}, ix[i]? = some (some j) → ix[k]? = some (some j) → i = k
  | [], _, i, k, j, h, _ => by simp at h
  | o :: r, hn, i, k, j, h1, h2 => by
    have hr : (r.filterMap id).Nodup := by
      cases o with
      | none => simpa using hn
      | some a => have hn : (a :: r.filterMap id).Nodup := hn; exact (List.nodup_cons.mp hn).2
    have out : ∀ {k : Nat}, o = some j → r[k]? = some (some j) → False := by
      intro k ho hk
      subst ho
      have hn : (j :: r.filterMap id).Nodup := hn
      exact (List.nodup_cons.mp hn).1 (List.mem_filterMap.mpr ⟨some j, List.mem_of_getElem? hk, rfl⟩)
    cases i with
    | zero =>
      cases k with
      | zero => rfl
      | succ k => simp at h1 h2; exact (out h1 h2).elim
    | succ i =>
      cases k with
      | zero => simp at h1 h2; exact (out h2 h1).elim
      | succ k => simp at h1 h2; rw [ix_inj hr h1 h2]
theorem subE_get {ix : List (Option Nat)} {ρ : En} {i : Nat} {s : Sl} (h : (subE ix ρ)[i]? = some (some s)) : ∃ j, ix[i]? = some (some j) ∧ ρ[j]? = some (some s) := by
  unfold subE at h
  rw [List.getElem?_map] at h
  cases e : ix[i]? with
  | none => rw [e] at h; cases h
  | some o =>
    rw [e] at h
    cases o with
    | none => cases h
    | some j => exact ⟨j, rfl, join_some (Option.some.inj h)⟩
theorem subS_get {ix : List (Option Nat)} {σ : L2.St} {i j : Nat} (h : ix[i]? = some (some j)) : (subS ix σ)[i]? = some (σ[j]?).join := by
  unfold subS
  rw [List.getElem?_map, h]
  rfl
theorem ER.sub {HB H0 H : Hp} {σ : L2.St} {ρ : En} {ix : List (Option Nat)} (hx : (ix.filterMap id).Nodup) (e : ER K HB H0 H σ ρ) : ER K (fun _ => none) H0 H (subS ix σ) (subE ix ρ) := by
  refine ⟨by unfold subS subE; rw [List.length_map, List.length_map], fun i s h => ?_, fun i k a ds es hik h1 h2 h3 h4 => ?_⟩
  · obtain ⟨j, h1, h2⟩ := subE_get h
    obtain ⟨v, h3, h4⟩ := e.get j s h2
    refine ⟨v, by rw [subS_get h1, h3]; rfl, ?_⟩
    cases s with
    | val d => exact h4
    | own ds =>
      obtain ⟨a, vs, q1, _, q2⟩ := h4
      exact ⟨a, vs, q1, rfl, q2⟩
  · obtain ⟨j, g1, g2⟩ := subE_get h1
    obtain ⟨l, g3, g4⟩ := subE_get h2
    have hjl : j ≠ l := by
      rintro rfl
      exact hik (ix_inj hx g1 g3)
    rw [subS_get g1] at h3
    rw [subS_get g3] at h4
    exact e.apart j l a ds es hjl g2 g4 (join_some (Option.some.inj h3)) (join_some (Option.some.inj h4))
def compM (f : PyData → Option (Option PyData)) : List PyData → Option (List PyData)
  | [] => some []
  | d :: ds => (f d).bind fun r => (compM f ds).map fun rest => match r with
    | some x => x :: rest
    | none => rest
def elM (fg : PyData → En → Option En) (ft : En → Option Bool) (fe : En → Option Sl) (ρ0 : En) : PyData → Option (Option PyData) := fun d => (fg d ρ0).bind fun ρ' => (ft ρ').bind fun b => if b then (fe ρ').map (fun r => some r.dat) else some none
def mLC (sb : En → En) (fi : En → Option (List PyData)) (fg : PyData → En → Option En) (ft : En → Option Bool) (fe : En → Option Sl) : En → Option Sl := fun ρ => (fi ρ).bind fun ds =>
  if ds.length < sizeLine then (compM (elM fg ft fe (sb ρ)) ds).map .own else none
def mYes : En → Option Bool := fun _ => some true
theorem rt_yes {R : Rl} : RT K R tNoTest mYes := fun HB σ ρ H0 H s e b hb Q q => by cases hb; exact q _ _ (Ext.refl s)
theorem re_lc {R R' : Rl} [RelOk K R] [RelOk K R'] {sb : En → En} {ix : List (Option Nat)} {wi : TI} {g : CB → TG} {tt : CB → TT} {te : CB → TE} {fi : En → Option (List PyData)} {fg : PyData → En → Option En} {ft : En → Option Bool} {fe : En → Option Sl}
    (hx : ∀ (HB : Hp) (σ : L2.St) (ρ : En) (H0 H : Hp), R.r HB H0 H σ ρ → R'.r (fun _ => none) H0 H (subS ix σ) (sb ρ))
    (hi : RI K R wi fi) (hg : ∀ b, RG K R' (g b) fg) (ht : ∀ b, RT K R' (tt b) ft) (he : ∀ b, RE K R' (te b) fe) : RE K R (tLC ix wi g tt te) (mLC sb fi fg ft fe) := fun HB σ ρ H0 H s e z hz Q q => by
  obtain ⟨ds, hds, hz⟩ := Option.bind_eq_some_iff.mp hz
  split at hz
  · rename_i hlen
    obtain ⟨all, hall, rfl⟩ := Option.map_eq_some_iff.mp hz
    refine hi HB σ ρ H0 H s e ds hds _ fun J H1 J1 x1 it b => ?_
    have e1 : ST R' (fun _ => none) H1 J1 (subS ix σ) (sb ρ) := ⟨hx HB σ ρ H1 J1 (e.ext (K := K) x1).r⟩
    refine ⟨fun i m ys H => m = ds.length - i ∧ i ≤ ds.length ∧ ∃ H0' es rest, Ext H1 J1 H0' H ∧ Reps K H0' ys es ∧ es.length ≤ i ∧ compM (elM fg ft fe (sb ρ)) (ds.drop i) = some rest ∧ es ++ rest = all, ⟨_, rfl, Nat.zero_le _, H1, [], all, Ext.refl x1.s1, .nil, Nat.le_refl _, hall, rfl⟩, ?_⟩
    rintro i m ys H2 ⟨rfl, hile, H0', es, rest, xx, hr, hel, hc, hsum⟩
    obtain ⟨ig, is⟩ := it H0' H2 xx.s0 xx.s1 i
    refine ⟨by rw [hr.length]; omega, ?_⟩
    by_cases hlt : i < ds.length
    · right
      obtain ⟨go, yl⟩ := ig ds[i] (by simp [hlt])
      rw [List.drop_eq_getElem_cons hlt] at hc
      obtain ⟨r, hr1, hc⟩ := Option.bind_eq_some_iff.mp (show (elM fg ft fe (sb ρ) ds[i]).bind _ = some rest from hc)
      obtain ⟨rest', hr2, hc⟩ := Option.map_eq_some_iff.mp hc
      refine ⟨go, fun ys' H' => ∃ H0' es rest, Ext H1 J1 H0' H' ∧ Reps K H0' ys' es ∧ es.length ≤ i + 1 ∧ compM (elM fg ft fe (sb ρ)) (ds.drop (i + 1)) = some rest ∧ es ++ rest = all, fun ys' H' h => ⟨ds.length - (i + 1), by omega, rfl, hlt, h⟩, fun v H3 y => ?_⟩
      obtain ⟨H03, x3, r3⟩ := yl v H3 y
      obtain ⟨ρ', hg', hb'⟩ := Option.bind_eq_some_iff.mp hr1
      obtain ⟨bb, hbb, hb'⟩ := Option.bind_eq_some_iff.mp hb'
      have xx3 := xx.trans x3
      refine hg b (fun _ => none) _ _ ρ' H03 H3 v _ x3.s1 (fun _ _ h => by cases h) (e1.ext (K := K) xx3) r3 hg' _ fun σ2 e2 => ?_
      refine ht b _ σ2 ρ' H03 H3 x3.s1 e2 bb hbb _ fun H4 J4 x4 => ?_
      cases bb with
      | true =>
        refine iteT ?_
        obtain ⟨rr, hrr, rfl⟩ := Option.map_eq_some_iff.mp (show (fe ρ').map (fun r => some r.dat) = some r from hb')
        refine (he b).rv _ σ2 ρ' H4 J4 x4.s1 (e2.ext (K := K) x4) rr.dat (by unfold mDat; rw [hrr]; rfl) _ fun w H5 J5 x5 p5 => ?_
        refine ⟨H5, es ++ [rr.dat], rest', (xx3.trans x4).trans x5, Tf.Reps.snoc (Reps.same ((x3.s0.trans x4.s0).trans x5.s0) hr) p5, by rw [List.length_append]; simpa using hel, hr2, ?_⟩
        rw [← hsum, ← hc, List.append_assoc]
        rfl
      | false =>
        refine iteF ?_
        cases hb'
        exact ⟨H4, es, rest', xx3.trans x4, Reps.same (x3.s0.trans x4.s0) hr, by omega, hr2, by rw [← hsum, ← hc]⟩
    · left
      have hi' : i = ds.length := by omega
      refine ⟨is (by omega), fun p hp => ?_⟩
      rw [List.drop_eq_nil_of_le (by omega)] at hc
      cases hc
      rw [List.append_nil] at hsum
      subst hsum
      have xy := x1.trans xx
      exact q _ _ _ (xy.trans (Ext.alloc xx.s1 hp _)) ⟨p, ys, rfl, xy.s.free hp, xx.s1.free hp, upd_same, hr⟩
  · cases hz
/-! ### a def -/
def runD (n : Nat) (g : En → Option Out) (k : Nat) : List PyData → Option Sl := fun ds => if ds.length = k then (g (ds.map (fun d => some (.val d)) ++ List.replicate (n - ds.length) none)).bind fun o => match o with
  | .rt r _ => some r
  | .nx _ => some (.val .none)
  | _ => none else none
theorem Reps.lenV {H : Hp} {vs : List V} {ds : List PyData} (h : Reps K H vs ds) : vs.length = ds.length := h.length
theorem er_start {N : List Str} {H0 H : Hp} {vs : List V} {ds : List PyData} (h : Reps K H0 vs ds) : ER K H H0 H (L2.start N vs) (ds.map (fun d => some (.val d)) ++ List.replicate (N.length - ds.length) none) := by
  have hl := h.length
  have noown : ∀ (i : Nat) s, (ds.map (fun d => some (Sl.val d)) ++ List.replicate (N.length - ds.length) none)[i]? = some (some s) → ∃ d, ds[i]? = some d ∧ s = .val d := by
    intro i s hs
    by_cases hi : i < ds.length
    · rw [List.getElem?_append_left (by simpa using hi), List.getElem?_map, List.getElem?_eq_getElem hi] at hs
      cases hs
      exact ⟨_, List.getElem?_eq_getElem hi, rfl⟩
    · rw [List.getElem?_append_right (by simpa using hi), List.getElem?_replicate] at hs
      split at hs <;> cases hs
  refine ⟨?_, fun i s hs => ?_, fun i j a xs ys _ h1 _ _ _ => ?_⟩
  · unfold L2.start
    simp only [List.length_append, List.length_map, List.length_replicate, hl]
  · obtain ⟨d, hd, rfl⟩ := noown i s hs
    obtain ⟨v, h1, h2⟩ := Tf.Reps.get h hd
    refine ⟨v, ?_, h2⟩
    unfold L2.start
    have hi : i < vs.length := (List.getElem?_eq_some_iff.mp h1).1
    rw [List.getElem?_append_left (by simpa using hi), List.getElem?_map, h1]
    rfl
  · obtain ⟨d, _, e⟩ := noown i _ h1
    cases e
section
variable {P : Program} {w : World} {mg : Str → Option Value} {base : Heap}
def DSs (X : Cx) (R : Rl) (st : List Stmt) (g : En → Option Out) : Prop := ∃ t, PSs X st t ∧ RS X.K R t g
theorem fnD {x qual : Str} {st : Stmt} {f : Addr} {fd : FuncData} {N ps : List Str} {k n m : Nat} {g : En → Option Out} (F : Fun K x qual st f fd) (S : FnScope N ps (defScope st)) (hn : N.length = n) (hm : ps.length = m)
    (hb : ∀ (cdv : Value) (A : Around) (outer : List Env) (s : Shared) (H : Hp) (E : XK), Room k (A.deeper (envOfC qual (defScope st) s.heap.objs.size f cdv)) → DSs (cxOf CX0 P w K mg base N qual (defScope st) f cdv A outer s H E).nox (PR K) (defBody st) g) :
    FnOk P w K mg base CX0 (k + 1) f fd ps (spD K (runD n g m)) := by
  subst hn hm
  refine F.ok S (fun vs H Q E h => ?_) fun cdv A outer s H vs Q E hr h => ?_
  · obtain ⟨H0, ds, r, s, hr, hf, _⟩ := h
    unfold runD at hf
    split at hf
    · rename_i hl
      rw [hr.length, hl]
    · cases hf
  · obtain ⟨t, ht, rs⟩ := hb cdv A outer s H E hr
    refine ⟨t, ht, ?_⟩
    obtain ⟨H0, ds, r, s0, hr, hf, q⟩ := h
    unfold runD at hf
    split at hf
    · obtain ⟨o, ho, hf⟩ := Option.bind_eq_some_iff.mp hf
      refine rs H H0 _ _ H0 H (Ext.refl s0) ⟨er_start hr⟩ o ho _ ?_
      cases o with
      | rt r' _ => cases hf; exact fun v σ H1 J1 a _ b => q v H1 J1 a b
      | nx _ => cases hf; exact fun σ H1 J1 a b => q .non H1 J1 a .none
      | bk _ => cases hf
      | ct _ => cases hf
    · cases hf
end
end
/-- the law's own call -/
theorem law_imp {K : PySem.W.Frag} {F : List PyData → Option Sl} (hL : ∀ ns : List Int, ns.length ≤ 63 → F [.list (ns.map .int)] = some (.val (.bool true))) {vs : List V} {H : Hp} {Q : VK} {E : XK} (h : spLaw K vs H Q E) : spD K F vs H Q E := by
  obtain ⟨a, ns, rfl, h1, h2, q⟩ := h
  have allI : ∀ ns : List Int, Reps K H (ns.map V.int) (ns.map .int) := fun ns => by
    induction ns with
    | nil => exact .nil
    | cons n r ih => exact .cons (.int n) ih
  refine ⟨H, [.list (ns.map .int)], .val (.bool true), Same.refl H, .cons (.list h1 (allI ns)) .nil, hL ns h2, fun v H0' H' x p => ?_⟩
  cases (show Rep K H0' v (.bool true) from p)
  exact q H'
/-! ### the rules, as the generator writes them -/
section
variable {X : Cx} {R R' : Rl} [RelOk X.K R] [RelOk X.K R'] {a b c e : Expr} {pos p : Pos} {f g fa fb fc : En → Option Sl}
def DE (X : Cx) (R : Rl) (e : Expr) (f : En → Option Sl) : Prop := ∃ te, PE X e te ∧ RE X.K R te f
def DP (X : Cx) (R : Rl) (e : Expr) (f : En → Option Sl) : Prop := ∃ te, PE X e te ∧ RP X.K R te f
def DA (X : Cx) (R : Rl) (es : List Expr) (f : En → Option (List PyData)) : Prop := ∃ ta, PA X es ta ∧ RA X.K R ta f
def DQ (X : Cx) (R : Rl) (es : List Expr) (f : En → Option (List Sl)) : Prop := ∃ ta, PA X es ta ∧ RQ X.K R ta f
def DT (X : Cx) (R : Rl) (e : Expr) (f : En → Option Bool) : Prop := ∃ tt, PT X e tt ∧ RT X.K R tt f
def DW (X : Cx) (R : Rl) (e : Expr) (f : En → Option Bool) : Prop := ∃ tt, PW X e tt ∧ RT X.K R tt f
def DO (X : Cx) (R : Rl) (e : Option Expr) (f : En → Option (Option Int)) : Prop := ∃ to, PO X e to ∧ RO X.K R to f
def DS (X : Cx) (R : Rl) (st : Stmt) (g : En → Option Out) : Prop := ∃ t, PS X st t ∧ RS X.K R t g
def DG (X : Cx) (R : Rl) (e : Expr) (g : PyData → En → Option En) : Prop := ∃ t, PG X e t ∧ RG X.K R t g
def DGs (X : Cx) (R : Rl) (es : List Expr) (gs : List (PyData → En → Option En)) : Prop := ∃ t, PGs X es t ∧ RGs X.K R t gs
def DI (X : Cx) (R : Rl) (tg e : Expr) (f : En → Option (List PyData)) : Prop := ∃ wi, PI X tg e wi ∧ RI X.K R wi f
theorem DE.dp (h : DE X R e f) : DP X R e f := by obtain ⟨t, h1, h2⟩ := h; exact ⟨t, h1, h2.rp⟩
theorem dp_var (i : Nat) {x : Str} (hN : X.N[i]? = some x := by rfl) (hv : Vis X.env.scope x := by first | exact Or.inl rfl | exact Or.inr (Or.inl rfl) | exact Or.inr (Or.inr rfl)) (hd : (x == ("__debug__" : Str)) = false := by decide)
    (hcd : (x == ("__classdict__" : Str)) = false := by decide) (hsl : R.slot i := by first | exact True.intro | exact ⟨of_decide_eq_true rfl, of_decide_eq_true rfl⟩) : DP X R (.Name x pos) (mPk i) := ⟨_, pe_var hN hv hd hcd, rp_var i hsl⟩
theorem de_var (i : Nat) {x : Str} (hN : X.N[i]? = some x := by rfl) (hv : Vis X.env.scope x := by first | exact Or.inl rfl | exact Or.inr (Or.inl rfl) | exact Or.inr (Or.inr rfl)) (hd : (x == ("__debug__" : Str)) = false := by decide)
    (hcd : (x == ("__classdict__" : Str)) = false := by decide) (hsl : R.slot i := by first | exact True.intro | exact ⟨of_decide_eq_true rfl, of_decide_eq_true rfl⟩) : DE X R (.Name x pos) (mVar i) := ⟨_, pe_var hN hv hd hcd, re_var i hsl⟩
theorem de_int {i : Int} {j} : DE X R (.Constant (.int i) j pos) (mK (.int i)) := ⟨_, pe_int, re_k fun _ => .int i⟩
theorem de_bool {i : Bool} {j} : DE X R (.Constant (.bool i) j pos) (mK (.bool i)) := ⟨_, pe_bl, re_k fun _ => .bool i⟩
theorem de_none {j} : DE X R (.Constant .none j pos) (mK .none) := ⟨_, pe_non, re_k fun _ => .none⟩
theorem de_str {i : Str} {j} : DE X R (.Constant (.str i) j pos) (mK (.str i)) := ⟨_, pe_str, re_k fun _ => .str i⟩
theorem de_glob {x : Str} {v : V} {u : Value} {d : PyData} (hm : X.mg x = some u) (r : RelV v u) (h : ∀ H0 : Hp, Rep X.K H0 v d) (hg : Gl X x := by rfl) (hd : (x == ("__debug__" : Str)) = false := by decide) : DE X R (.Name x pos) (mK d) := ⟨_, pe_glob hg hm r hd, re_k h⟩
theorem de_op {o : Operator} {r : R2} {op : Sl → Sl → Option Sl} (ho : OpR X (binaryOp o) r) (hd : OpD X.K r op) (ha : DP X R a fa) (hb : DP X R b fb) : DE X R (.BinOp a o b pos) (mBin op fa fb) := by
  obtain ⟨ta, h1, h2⟩ := ha
  obtain ⟨tb, h3, h4⟩ := hb
  exact ⟨_, pe_op ho h1 h3, re_bin hd h2 h4⟩
def dAddI : Sl → Sl → Option Sl := iop fun i j => i + j
def dSub : Sl → Sl → Option Sl := iop fun i j => i - j
def CMulA (i j : Int) : Prop := CMul i j ∨ CMulB i j
theorem op_mulA : OpR X (binaryOp .Mult) (rI CMulA fun i j => .int (i * j)) := opI fun _ _ _ _ _ _ _ hc q => by
  rcases hc with hc | ⟨n, m, h1, h2, h3⟩
  · exact mul_int q hc.ok
  · exact mul_int q (mulOk h1 h2 h3)
noncomputable def dMulI : Sl → Sl → Option Sl := iopC CMulA fun i j => i * j
noncomputable def dFdiv : Sl → Sl → Option Sl := iopC CDivB fun i j => i.fdiv j
noncomputable def dMod : Sl → Sl → Option Sl := iopC (fun _ j => j ≠ 0) fun i j => i.fmod j
noncomputable def dPow : Sl → Sl → Option Sl := iopC CPow fun i j => i ^ j.toNat
noncomputable def dShr : Sl → Sl → Option Sl := iopC (fun _ j => 0 ≤ j) fun i j => i / 2 ^ j.toNat
theorem de_addI (ha : DP X R a fa) (hb : DP X R b fb) : DE X R (.BinOp a .Add b pos) (mBin dAddI fa fb) := de_op op_add opd_iop ha hb
theorem de_sub (ha : DP X R a fa) (hb : DP X R b fb) : DE X R (.BinOp a .Sub b pos) (mBin dSub fa fb) := de_op op_sub opd_iop ha hb
theorem de_mulI (ha : DP X R a fa) (hb : DP X R b fb) : DE X R (.BinOp a .Mult b pos) (mBin dMulI fa fb) := de_op op_mulA opd_iopC ha hb
theorem de_fdiv (ha : DP X R a fa) (hb : DP X R b fb) : DE X R (.BinOp a .FloorDiv b pos) (mBin dFdiv fa fb) := de_op op_fdivB opd_iopC ha hb
theorem de_mod (ha : DP X R a fa) (hb : DP X R b fb) : DE X R (.BinOp a .Mod b pos) (mBin dMod fa fb) := de_op op_modN opd_iopC ha hb
theorem de_pow (ha : DP X R a fa) (hb : DP X R b fb) : DE X R (.BinOp a .Pow b pos) (mBin dPow fa fb) := de_op op_pow opd_iopC ha hb
theorem de_shr (ha : DP X R a fa) (hb : DP X R b fb) : DE X R (.BinOp a .RShift b pos) (mBin dShr fa fb) := de_op op_shr opd_iopC ha hb
/-- list + list, tuple + tuple, text + text, int + int -/
def rCatG (K : PySem.W.Frag) : R2 := fun x y H Q => ∃ l b xs zs, x = .ref l ∧ y = .ref b ∧ SqL K H l xs ∧ SqL K H b zs ∧ xs.length + zs.length ≤ sizeLine ∧ ∀ p, H p = none → Q (.ref p) (upd H p (.lst (xs ++ zs)))
theorem op_catG : OpR X (binaryOp .Add) (rCatG X.K) := by
  intro pins s σ H x y v u Q I rx ry h
  obtain ⟨l, b, xs, zs, rfl, rfl, hH, hB, hz, q⟩ := h
  cases rx
  cases ry
  obtain ⟨its, r, p1, _⟩ := I.list hH
  obtain ⟨its2, r2, p2, _⟩ := I.list hB
  obtain ⟨⟨cls, dd, data, sl⟩, n, ho, hc, hd1, hd⟩ := id p1
  obtain ⟨⟨cls2, dd2, data2, sl2⟩, n2, ho2, hc2, hd2', hd2⟩ := id p2
  simp only at hc hd hc2 hd2
  subst hc hd hc2 hd2
  have l1 := r.length
  have l2 := r2.length
  refine concat_meets ⟨_, ho, rfl⟩ ⟨_, ho2, rfl⟩ noFill_list_add seq_list_add PySem.F.slot_list_add PySem.F.entry_list_add (PySem.F.args_list_add_2 _ _) (list_addW l b its.toArray its2.toArray n n2 dd dd2 sl sl2 (by rw [List.size_toArray, List.size_toArray]; omega)) ⟨ho, ho2, ?_⟩
  have ea : its.toArray ++ its2.toArray = (its ++ its2).toArray := by simp
  rw [ea]
  exact ⟨.ref _, _, I.lnew (t' := s.toks) (r.append r2) (by rw [List.length_append]; omega), rfl, q _ I.fresh⟩
def rCatT0 (K : PySem.W.Frag) : R2 := fun x y H Q => ∃ a b ys, x = .ref a ∧ y = .ref b ∧ SqT K H a [] ∧ SqT K H b ys ∧ Q (.ref b) H
theorem op_catT0 : OpR X (binaryOp .Add) (rCatT0 X.K) := by
  intro pins s σ H x y v u Q I rx ry h
  obtain ⟨a, b, ys, rfl, rfl, ha, hb, q⟩ := h
  cases rx
  cases ry
  obtain ⟨its, r1, p1, _⟩ := I.tuple ha
  obtain ⟨its2, r2, p2, _⟩ := I.tuple hb
  cases r1
  obtain ⟨⟨cls, dd, data, sl⟩, ho, hc, n, hd⟩ := id p1
  obtain ⟨⟨cls2, dd2, data2, sl2⟩, ho2, hc2, n2, hd2⟩ := id p2
  simp only at hc hd hc2 hd2
  subst hc hd hc2 hd2
  exact concat_meets ⟨_, ho, rfl⟩ ⟨_, ho2, rfl⟩ noFill_tuple_add seq_tuple_add PySem.F.slot_tuple_add PySem.F.entry_tuple_add (PySem.F.args_tuple_add_2 _ _)
      (tuple_addW0 a b ([] : List Value).toArray its2.toArray n n2 dd dd2 sl sl2 (by simp)) ⟨ho, ho2, .ref b, H, I, rfl, q⟩
def rAddA (K : PySem.W.Frag) : R2 := fun x y H Q => rI0 (fun i j => .int (i + j)) x y H Q ∨ rCatG K x y H Q ∨ rCatT0 K x y H Q ∨ rCatT K x y H Q ∨ (∃ i j, x = .str i ∧ y = .str j ∧ i.length + j.length ≤ sizeLine ∧ Q (.str (i ++ j)) H)
theorem op_addA : OpR X (binaryOp .Add) (rAddA X.K) := op_add.or (op_catG.or (op_catT0.or (op_catT.or op_add_str)))
def dAdd (a b : Sl) : Option Sl := match a.dat, b.dat with
  | .int i, .int j => some (.val (.int (i + j)))
  | .list xs, .list ys => if xs.length + ys.length ≤ sizeLine then some (.own (xs ++ ys)) else none
  | .tuple xs, .tuple ys => if xs.length + ys.length ≤ sizeLine then some (.val (.tuple (xs ++ ys))) else none
  | .str i, .str j => if i.length + j.length ≤ sizeLine then some (.val (.str (i ++ j))) else none
  | _, _ => none
theorem SlP.atom {K : PySem.W.Frag} {H0 H : Hp} {v : V} {d : PyData} : ∀ {r : Sl}, SlP K H0 H v r → r.dat = d → (∀ ds, d ≠ .list ds) → Rep K H0 v d
  | .val _, h, e, _ => by cases e; exact h
  | .own _, _, e, n => absurd e.symm (n _)
theorem Reps.append {K : PySem.W.Frag} {H : Hp} : ∀ {vs ws : List V} {ds es : List PyData}, Reps K H vs ds → Reps K H ws es → Reps K H (vs ++ ws) (ds ++ es)
  | _, _, _, _, .nil, h => h
  | _, _, _, _, .cons a t, h => .cons a (Reps.append t h)
theorem opd_add {K : PySem.W.Frag} : OpD K (rAddA K) dAdd := fun H0 H x y sx sy z s px py hz Q q => by
  unfold dAdd at hz
  split at hz
  · rename_i i j e1 e2
    cases hz
    cases px.atom e1 (fun _ h => nomatch h)
    cases py.atom e2 (fun _ h => nomatch h)
    exact .inl ⟨_, _, rfl, rfl, q _ _ _ (Ext.refl s) (.int _)⟩
  · rename_i xs ys e1 e2
    split at hz
    · rename_i hl
      cases hz
      obtain ⟨a, vs, rfl, h1, h2⟩ := px.lst s e1
      obtain ⟨b, ws, rfl, h3, h4⟩ := py.lst s e2
      exact .inr (.inl ⟨a, b, vs, ws, rfl, rfl, h1, h3, by rw [h2.length, h4.length]; exact hl, fun p hp => q _ _ _ (Ext.alloc s hp _) ⟨p, _, rfl, hp, s.free hp, upd_same, Reps.append h2 h4⟩⟩)
    · cases hz
  · rename_i xs ys e1 e2
    split at hz
    · rename_i hl
      cases hz
      obtain ⟨a, vs, rfl, h1, h2⟩ := px.tup e1
      obtain ⟨b, ws, rfl, h3, h4⟩ := py.tup e2
      by_cases hv : vs = []
      · subst hv
        cases h2
        exact .inr (.inr (.inl ⟨a, b, ws, rfl, rfl, s.seqT h1, s.seqT h3, q _ _ _ (Ext.refl s) (.tuple h3 h4)⟩))
      · refine .inr (.inr (.inr (.inl ⟨a, b, vs, ws, rfl, rfl, s.seqT h1, s.seqT h3, hv, by rw [h2.length, h4.length]; exact hl, fun hw => ?_, fun hw p hp => ?_⟩)))
        · subst hw
          cases h4
          rw [List.append_nil] at q
          exact q _ _ _ (Ext.refl s) (.tuple h1 h2)
        · exact q _ _ _ (Ext.allocF s hp _) (.tuple (SqT.of upd_same) (Reps.same (Same.upd (s.free hp) _) (Reps.append h2 h4)))
    · cases hz
  · rename_i i j e1 e2
    split at hz
    · rename_i hl
      cases hz
      cases px.atom e1 (fun _ h => nomatch h)
      cases py.atom e2 (fun _ h => nomatch h)
      exact .inr (.inr (.inr (.inr ⟨_, _, rfl, rfl, hl, q _ _ _ (Ext.refl s) (.str _)⟩)))
    · cases hz
  · cases hz
theorem de_add (ha : DP X R a fa) (hb : DP X R b fb) : DE X R (.BinOp a .Add b pos) (mBin dAdd fa fb) := de_op op_addA opd_add ha hb
/-- list * int -/
noncomputable def dRep (a b : Sl) : Option Sl := match a, b with
  | .own xs, .val (.int k) => if -(2 ^ 63) ≤ k ∧ k < 2 ^ 63 ∧ xs.length * k.toNat ≤ sizeLine then some (.own (List.replicate k.toNat xs).flatten) else none
  | a, b => dMulI a b
theorem Reps.rep {K : PySem.W.Frag} {H : Hp} {vs : List V} {ds : List PyData} (h : Reps K H vs ds) : ∀ k : Nat, Reps K H (List.replicate k vs).flatten (List.replicate k ds).flatten
  | 0 => .nil
  | k + 1 => by
    rw [List.replicate_succ, List.replicate_succ, List.flatten_cons, List.flatten_cons]
    exact Reps.append h (Reps.rep h k)
theorem opd_rep {K : PySem.W.Frag} : OpD K (fun x y H Q => rRep x y H Q ∨ rI CMulA (fun i j => .int (i * j)) x y H Q) dRep := fun H0 H x y sx sy z s px py hz Q q => by
  unfold dRep at hz
  split at hz
  · split at hz
    · rename_i hl
      cases hz
      obtain ⟨a, vs, rfl, h1, h2⟩ := px
      exact .inl ⟨a, _, vs, rfl, py.int, h1, hl.1, hl.2.1, by rw [h2.length]; exact hl.2.2, fun p hp => q _ _ _ (Ext.alloc s hp _) ⟨p, _, rfl, hp, s.free hp, upd_same, Reps.rep h2 _⟩⟩
    · cases hz
  · exact .inr (opd_iopC H0 H x y _ _ z s px py hz Q q)
theorem de_mul (ha : DP X R a fa) (hb : DP X R b fb) : DE X R (.BinOp a .Mult b pos) (mBin dRep fa fb) := de_op (op_rep.or op_mulA) opd_rep ha hb
theorem de_neg (ha : DP X R a fa) : DE X R (.UnaryOp .USub a pos) (mUn (iun fun i => -i) fa) := by
  obtain ⟨ta, h1, h2⟩ := ha
  exact ⟨_, pe_un un_neg h1, re_un und_iun h2⟩
theorem de_cmp {o : CmpOp} {r : R2} {op : Sl → Sl → Option Sl} (ho : OpR X (compareOp o) r) (hd : OpD X.K r op) (ha : DP X R a fa) (hb : DP X R b fb) (hm : behindInMarks o b = false) : DE X R (.Compare a [o] [b] pos) (mBin op fa fb) := by
  obtain ⟨ta, h1, h2⟩ := ha
  obtain ⟨tb, h3, h4⟩ := hb
  exact ⟨_, pe_cmpR ho h1 h3 hm, re_bin hd h2 h4⟩
theorem dt_cmp {o : CmpOp} {r : R2} {op : Sl → Sl → Option Sl} (ho : OpR X (compareOp o) r) (hd : OpD X.K r op) (ha : DP X R a fa) (hb : DP X R b fb) (hm : behindInMarks o b = false) : DT X R (.Compare a [o] [b] pos) (mTest (mBin op fa fb)) := by
  obtain ⟨ta, h1, h2⟩ := ha
  obtain ⟨tb, h3, h4⟩ := hb
  exact ⟨_, pt_cmpR ho h1 h3 hm, rt_test (re_bin hd h2 h4).rp⟩
def dLt : Sl → Sl → Option Sl := icmp fun i j => decide (i < j)
def dLe : Sl → Sl → Option Sl := icmp fun i j => decide (i ≤ j)
def dGt : Sl → Sl → Option Sl := icmp fun i j => decide (j < i)
def dGe : Sl → Sl → Option Sl := icmp fun i j => decide (j ≤ i)
theorem de_lt (ha : DP X R a fa) (hb : DP X R b fb) : DE X R (.Compare a [.Lt] [b] pos) (mBin dLt fa fb) := de_cmp op_lt opd_icmp ha hb (nomark _)
theorem de_le (ha : DP X R a fa) (hb : DP X R b fb) : DE X R (.Compare a [.LtE] [b] pos) (mBin dLe fa fb) := de_cmp op_le opd_icmp ha hb (nomark _)
theorem de_gt (ha : DP X R a fa) (hb : DP X R b fb) : DE X R (.Compare a [.Gt] [b] pos) (mBin dGt fa fb) := de_cmp op_gt opd_icmp ha hb (nomark _)
theorem de_ge (ha : DP X R a fa) (hb : DP X R b fb) : DE X R (.Compare a [.GtE] [b] pos) (mBin dGe fa fb) := de_cmp op_ge opd_icmp ha hb (nomark _)
theorem de_eq (hu : X.A.units + 64 < cLine) (ha : DP X R a fa) (hb : DP X R b fb) : DE X R (.Compare a [.Eq] [b] pos) (mBin deq fa fb) := de_cmp (op_eqD hu) opd_eq ha hb (nomark _)
theorem de_ne (hu : X.A.units + 64 < cLine) (ha : DP X R a fa) (hb : DP X R b fb) : DE X R (.Compare a [.NotEq] [b] pos) (mBin dne fa fb) := de_cmp (op_neD hu) opd_ne ha hb (nomark _)
theorem de_isN (ha : DP X R a fa) (hb : DP X R b fb) : DE X R (.Compare a [.Is] [b] pos) (mBin disN fa fb) := de_cmp op_isN opd_isN ha hb (nomark _)
theorem de_isNN (ha : DP X R a fa) (hb : DP X R b fb) : DE X R (.Compare a [.IsNot] [b] pos) (mBin disNN fa fb) := de_cmp op_notN opd_isNN ha hb (nomark _)
theorem dt_lt (ha : DP X R a fa) (hb : DP X R b fb) : DT X R (.Compare a [.Lt] [b] pos) (mTest (mBin dLt fa fb)) := dt_cmp op_lt opd_icmp ha hb (nomark _)
theorem dt_le (ha : DP X R a fa) (hb : DP X R b fb) : DT X R (.Compare a [.LtE] [b] pos) (mTest (mBin dLe fa fb)) := dt_cmp op_le opd_icmp ha hb (nomark _)
theorem dt_gt (ha : DP X R a fa) (hb : DP X R b fb) : DT X R (.Compare a [.Gt] [b] pos) (mTest (mBin dGt fa fb)) := dt_cmp op_gt opd_icmp ha hb (nomark _)
theorem dt_ge (ha : DP X R a fa) (hb : DP X R b fb) : DT X R (.Compare a [.GtE] [b] pos) (mTest (mBin dGe fa fb)) := dt_cmp op_ge opd_icmp ha hb (nomark _)
theorem dt_eq (hu : X.A.units + 64 < cLine) (ha : DP X R a fa) (hb : DP X R b fb) : DT X R (.Compare a [.Eq] [b] pos) (mTest (mBin deq fa fb)) := dt_cmp (op_eqD hu) opd_eq ha hb (nomark _)
theorem dt_ne (hu : X.A.units + 64 < cLine) (ha : DP X R a fa) (hb : DP X R b fb) : DT X R (.Compare a [.NotEq] [b] pos) (mTest (mBin dne fa fb)) := dt_cmp (op_neD hu) opd_ne ha hb (nomark _)
theorem dt_isN (ha : DP X R a fa) (hb : DP X R b fb) : DT X R (.Compare a [.Is] [b] pos) (mTest (mBin disN fa fb)) := dt_cmp op_isN opd_isN ha hb (nomark _)
theorem dt_isNN (ha : DP X R a fa) (hb : DP X R b fb) : DT X R (.Compare a [.IsNot] [b] pos) (mTest (mBin disNN fa fb)) := dt_cmp op_notN opd_isNN ha hb (nomark _)
theorem dt_val (h : DP X R e f) (he : ∀ whole, isTrue e X.env whole = (do let v ← whole; standAt e.pos; holding [v] (truthy v)) := by intro _; rfl) : DT X R e (mTest f) := by
  obtain ⟨t, h1, h2⟩ := h
  exact ⟨_, pt_val h1 he, rt_b h2⟩
variable {ft gt : En → Option Bool} {rest : List Expr}
theorem dt_w (h : DW X R e ft) : DT X R e ft := by obtain ⟨t, h1, h2⟩ := h; exact ⟨t, h1.pt, h2⟩
theorem dw_and1 (h : DT X R a ft) : DW X R (.BoolOp .And [a] pos) ft := by obtain ⟨t, h1, h2⟩ := h; exact ⟨t, pw_and1 h1, h2⟩
theorem dw_or1 (h : DT X R a ft) : DW X R (.BoolOp .Or [a] pos) ft := by obtain ⟨t, h1, h2⟩ := h; exact ⟨t, pw_or1 h1, h2⟩
theorem dw_and (h : DT X R a ft) (k : DW X R (.BoolOp .And (b :: rest) pos) gt) : DW X R (.BoolOp .And (a :: b :: rest) pos) (mAnd ft gt) := by obtain ⟨t, h1, h2⟩ := h; obtain ⟨u, h3, h4⟩ := k; exact ⟨_, pw_and h1 h3, rt_and h2 h4⟩
theorem dw_or (h : DT X R a ft) (k : DW X R (.BoolOp .Or (b :: rest) pos) gt) : DW X R (.BoolOp .Or (a :: b :: rest) pos) (mOr ft gt) := by obtain ⟨t, h1, h2⟩ := h; obtain ⟨u, h3, h4⟩ := k; exact ⟨_, pw_or h1 h3, rt_or h2 h4⟩
theorem dt_not (h : DT X R a ft) : DT X R (.UnaryOp .Not a pos) (mNot ft) := by obtain ⟨t, h1, h2⟩ := h; exact ⟨_, pt_not h1, rt_not h2⟩
theorem de_and1 (h : DE X R a f) : DE X R (.BoolOp .And [a] pos) f := by obtain ⟨t, h1, h2⟩ := h; exact ⟨t, pe_one h1, h2⟩
theorem de_or1 (h : DE X R a f) : DE X R (.BoolOp .Or [a] pos) f := by obtain ⟨t, h1, h2⟩ := h; exact ⟨t, pe_one h1, h2⟩
theorem de_and (h : DE X R a f) (k : DE X R (.BoolOp .And (b :: rest) pos) g) : DE X R (.BoolOp .And (a :: b :: rest) pos) (mAndV f g) := by obtain ⟨t, h1, h2⟩ := h; obtain ⟨u, h3, h4⟩ := k; exact ⟨_, pe_and h1 h3, re_andV h2.rp h4⟩
theorem de_or (h : DE X R a f) (k : DE X R (.BoolOp .Or (b :: rest) pos) g) : DE X R (.BoolOp .Or (a :: b :: rest) pos) (mOrV f g) := by obtain ⟨t, h1, h2⟩ := h; obtain ⟨u, h3, h4⟩ := k; exact ⟨_, pe_or h1 h3, re_orV h2.rp h4⟩
theorem de_not (h : DE X R a f) : DE X R (.UnaryOp .Not a pos) (mNotV f) := by obtain ⟨t, h1, h2⟩ := h; exact ⟨_, pe_not h1, re_notV h2.rp⟩
theorem de_ifE (hc : DT X R c ft) (h : DE X R a f) (k : DE X R b g) : DE X R (.IfExp c a b pos) (mIfE ft f g) := by obtain ⟨t, h1, h2⟩ := hc; obtain ⟨u, h3, h4⟩ := h; obtain ⟨v, h5, h6⟩ := k; exact ⟨_, pe_ifExp h1 h3 h5, re_ifE h2 h4 h6⟩
theorem de_ix (ha : DP X R a fa) (hb : DP X R b fb) (hs : PlainIx b := by intro _ _; rfl) : DE X R (.Subscript a b pos) (mBin dix fa fb) := by
  obtain ⟨ta, h1, h2⟩ := ha
  obtain ⟨tb, h3, h4⟩ := hb
  exact ⟨_, pe_ix ix_seq h1 h3 hs, re_bin opd_ix h2 h4⟩
variable {lo hi : Option Expr} {fl fh : En → Option (Option Int)} {p2 : Pos}
theorem do_none : DO X R none mNoPart := ⟨_, po_none, ro_none⟩
theorem do_some (h : DP X R e f) : DO X R (some e) (mPart f) := by obtain ⟨t, h1, h2⟩ := h; exact ⟨_, po_some h1, ro_some h2⟩
theorem de_sl (h : DP X R e f) (hl : DO X R lo fl) (hh : DO X R hi fh) : DE X R (.Subscript e (.Slice lo hi none p2) pos) (mSl f fl fh) := by
  obtain ⟨t, h1, h2⟩ := h; obtain ⟨u, h3, h4⟩ := hl; obtain ⟨v, h5, h6⟩ := hh
  exact ⟨_, pe_slice (sl_list.or sl_tup) h1 h3 h5, re_sl h2 h4 h6⟩
variable {es : List Expr} {fs : En → Option (List PyData)} {fq : En → Option (List Sl)}
theorem da_nil : DA X R [] mNil := ⟨_, pa_nil, ra_nil⟩
theorem da_cons (h : DE X R e f) (k : DA X R es fs) (hs : starEach (e :: es) X.env = (false, eval e X.env) :: starEach es X.env := by rfl) : DA X R (e :: es) (mCons f fs) := by obtain ⟨t, h1, h2⟩ := h; obtain ⟨u, h3, h4⟩ := k; exact ⟨_, pa_cons h1 h3 hs, ra_cons h2 h4⟩
theorem dq_nil : DQ X R [] mNilP := ⟨_, pa_nil, rq_nil⟩
theorem dq_cons (h : DP X R e f) (k : DQ X R es fq) (hs : starEach (e :: es) X.env = (false, eval e X.env) :: starEach es X.env := by rfl) : DQ X R (e :: es) (mConsP f fq) := by obtain ⟨t, h1, h2⟩ := h; obtain ⟨u, h3, h4⟩ := k; exact ⟨_, pa_cons h1 h3 hs, rq_cons h2 h4⟩
theorem de_tup {x1} (h : DA X R es fs) : DE X R (.Tuple es x1 pos) (mTup fs) := by obtain ⟨t, h1, h2⟩ := h; exact ⟨_, pe_tup h1, re_tup h2⟩
theorem de_lst (h : DA X R es fs) : DE X R (.List es pos) (mLst fs) := by obtain ⟨t, h1, h2⟩ := h; exact ⟨_, pe_lst h1, re_lst h2⟩
theorem de_call {k j : Nat} {x : Str} {ps : List Str} {F : List PyData → Option Sl} (D : Tf.Def X.prog X.w X.K X.mg X.base j x ps (spD X.K F)) (hr : Room k X.A) (h : DA X R (e :: es) fs) (hj : j ≤ k := by decide) (hg : Gl X x := by rfl)
    (hdb : (x == ("__debug__" : Str)) = false := by decide) (he : starEach (e :: es) X.env = (false, eval e X.env) :: starEach es X.env := by rfl) (hpl : (backTo pos (starEach es X.env)).any (·.1) = false := by rfl) : DE X R (.Call (.Name x p) (e :: es) [] pos) (mCall F fs) := by
  obtain ⟨t, h1, h2⟩ := h
  exact ⟨_, pe_callD D hr h1 hj hg hdb he hpl, re_call h2⟩
theorem de_blt {x : Str} {id : String} {r : List V → Hp → VK → Prop} {F : List Sl → Option Sl} (hc : CallR X (.builtin id) r) (hd : CallD X.K r F) (hv : bootBuiltins x = some (.builtin id)) (hm : X.mg x = none) (h : DQ X R (e :: es) fq) (hg : Gl X x := by rfl) (hn : x ≠ "__name__" := by decide) (hdb : (x == ("__debug__" : Str)) = false := by decide)
    (he : starEach (e :: es) X.env = (false, eval e X.env) :: starEach es X.env := by rfl) (hpl : (backTo pos (starEach es X.env)).any (·.1) = false := by rfl) : DE X R (.Call (.Name x p) (e :: es) [] pos) (mCallP F fq) := by
  obtain ⟨t, h1, h2⟩ := h
  exact ⟨_, pe_callB hc hg hm hv h1 hn hdb he hpl, re_callB hd h2⟩
theorem de_ty {x : Str} {id : String} {r : List V → Hp → VK → Prop} {F : List Sl → Option Sl} (hc : CallR X (.type id) r) (hd : CallD X.K r F) (hv : bootBuiltins x = some (.type id)) (hm : X.mg x = none) (h : DQ X R (e :: es) fq) (hg : Gl X x := by rfl) (hn : x ≠ "__name__" := by decide) (hdb : (x == ("__debug__" : Str)) = false := by decide)
    (he : starEach (e :: es) X.env = (false, eval e X.env) :: starEach es X.env := by rfl) (hpl : (backTo pos (starEach es X.env)).any (·.1) = false := by rfl) : DE X R (.Call (.Name x p) (e :: es) [] pos) (mCallP F fq) := by
  obtain ⟨t, h1, h2⟩ := h
  exact ⟨_, pe_callTy hc hg hm hv h1 hn hdb he hpl, re_callB hd h2⟩
theorem kit_ok {K : PySem.W.Frag} {n : String} : ∀ t b, isiD n t = some b → (t = "NoneType" ∨ t = "bool" ∨ t = "int" ∨ t = "str" ∨ t = "list" ∨ t = "tuple") → PySem.W.kitOne K (.type t) (.type n) = some b := by
  intro t b h ht
  unfold isiD at h
  split at h
  · rename_i hn
    subst hn
    cases h
    rcases ht with rfl | rfl | rfl | rfl | rfl | rfl <;> rfl
  · split at h
    · rename_i hn
      cases h
      rcases hn with rfl | rfl | rfl | rfl <;> rcases ht with rfl | rfl | rfl | rfl | rfl | rfl <;> rfl
    · cases h
theorem de_isi {x : Str} {T : String} {p1 : Pos} (hv : bootBuiltins x = some (.type T)) (hx : X.mg x = none) (hm : X.mg "isinstance" = none) (h : DP X R e f) (hgx : Gl X x := by rfl) (hg : Gl X "isinstance" := by rfl) (hnx : x ≠ "__name__" := by decide) (hdx : (x == ("__debug__" : Str)) = false := by decide)
    (he : starEach [e, .Name x p1] X.env = (false, eval e X.env) :: starEach [.Name x p1] X.env := by rfl) (he2 : starEach [.Name x p1] X.env = (false, eval (.Name x p1) X.env) :: starEach [] X.env := by rfl) (hpl : (backTo pos (starEach [.Name x p1] X.env)).any (·.1) = false := by rfl) :
    DE X R (.Call (.Name "isinstance" p) [e, .Name x p1] [] pos) (mIsi T f) := by
  obtain ⟨t, h1, h2⟩ := h
  exact ⟨_, pe_callB call_isi hg hm bt_isinstance (pa_cons h1 (pa_cons (pe_ty hgx hx hv hnx hdx) pa_nil he2) he) (by decide) (by decide) he hpl, re_isi kit_ok h2⟩
def GlobC (K : PySem.W.Frag) (mg : Str → Option Value) (x : Str) (d : PyData) : Prop := ∃ v u, mg x = some u ∧ RelV v u ∧ ∀ H0 : Hp, Rep K H0 v d
theorem de_globC {x : Str} {d : PyData} (h : GlobC X.K X.mg x d) (hg : Gl X x := by rfl) (hd : (x == ("__debug__" : Str)) = false := by decide) : DE X R (.Name x pos) (mK d) := by
  obtain ⟨v, u, h1, h2, h3⟩ := h
  exact de_glob h1 h2 h3 hg hd
/-- an int among ints -/
def dIn (neg : Bool) (a b : Sl) : Option Sl := match a, b.dat with
  | .val (.int i), .list ds => (intsOf ds).map fun ns => .val (.bool (if neg then !(ns.any fun n => n == i) else ns.any fun n => n == i))
  | .val (.int i), .tuple ds => (intsOf ds).map fun ns => .val (.bool (if neg then !(ns.any fun n => n == i) else ns.any fun n => n == i))
  | _, _ => none
theorem inV_ints (i : Int) (ns : List Int) : inV (.int i) (ns.map V.int) = ns.any fun n => n == i := by
  unfold inV
  rw [List.any_map]
  rfl
theorem flat_ints (ns : List Int) : (ns.map V.int).all flatV = true := by
  rw [List.all_map]
  exact List.all_eq_true.mpr fun _ _ => rfl
theorem opd_in {K : PySem.W.Frag} {neg : Bool} : OpD K (rIn K neg) (dIn neg) := fun H0 H x y sx sy z s px py hz Q q => by
  unfold dIn at hz
  split at hz
  · rename_i ds hd
    obtain ⟨ns, hn, rfl⟩ := Option.map_eq_some_iff.mp hz
    obtain ⟨a, vs, rfl, h1, h2⟩ := py.lst s hd
    rw [intsOf_eq hn] at h2
    cases reps_ints h2
    cases px.int
    refine ⟨a, _, rfl, .inl h1, rfl, flat_ints ns, ?_⟩
    rw [inV_ints]
    exact q _ _ _ (Ext.refl s) (.bool _)
  · rename_i ds hd
    obtain ⟨ns, hn, rfl⟩ := Option.map_eq_some_iff.mp hz
    obtain ⟨a, vs, rfl, h1, h2⟩ := py.tup hd
    rw [intsOf_eq hn] at h2
    cases reps_ints h2
    cases px.int
    refine ⟨a, _, rfl, .inr (s.seqT h1), rfl, flat_ints ns, ?_⟩
    rw [inV_ints]
    exact q _ _ _ (Ext.refl s) (.bool _)
  · cases hz
theorem de_in (ha : DP X R a fa) (hb : DP X R b fb) (hm : behindInMarks .In b = false := by with_unfolding_all rfl) : DE X R (.Compare a [.In] [b] pos) (mBin (dIn false) fa fb) := de_cmp op_in_seq opd_in ha hb hm
theorem de_notin (ha : DP X R a fa) (hb : DP X R b fb) (hm : behindInMarks .NotIn b = false := by with_unfolding_all rfl) : DE X R (.Compare a [.NotIn] [b] pos) (mBin (dIn true) fa fb) := de_cmp op_notIn_seq opd_in ha hb hm
theorem dt_in (ha : DP X R a fa) (hb : DP X R b fb) (hm : behindInMarks .In b = false := by with_unfolding_all rfl) : DT X R (.Compare a [.In] [b] pos) (mTest (mBin (dIn false) fa fb)) := dt_cmp op_in_seq opd_in ha hb hm
theorem dt_notin (ha : DP X R a fa) (hb : DP X R b fb) (hm : behindInMarks .NotIn b = false := by with_unfolding_all rfl) : DT X R (.Compare a [.NotIn] [b] pos) (mTest (mBin (dIn true) fa fb)) := dt_cmp op_notIn_seq opd_in ha hb hm
theorem pr_sub {K : PySem.W.Frag} {ix : List (Option Nat)} (hx : (ix.filterMap id).Nodup := by decide) : ∀ (HB : Hp) (σ : L2.St) (ρ : En) (H0 H : Hp), (PR K).r HB H0 H σ ρ → (PR K).r (fun _ => none) H0 H (subS ix σ) (subE ix ρ) := fun HB σ ρ H0 H e => ER.sub hx e
/-! statements -/
variable {st : Stmt} {sts : List Stmt} {gs gs' : En → Option Out} {x y : Str} {pos' : Pos} {i j : Nat}
theorem dss_nil : DSs X R [] mNext := ⟨_, pss_nil, rs_next⟩
theorem dss_one (h : DS X R st gs) : DSs X R [st] gs := by obtain ⟨t, h1, h2⟩ := h; exact ⟨_, pss_one h1, h2⟩
theorem dss_cons (h : DS X R st gs) (k : DSs X R sts gs') : DSs X R (st :: sts) (mSeq gs gs') := by obtain ⟨t, h1, h2⟩ := h; obtain ⟨u, h3, h4⟩ := k; exact ⟨_, pss_cons h1 h3, rs_seq h2 h4⟩
theorem ds_frz (i : Nat) (h : DS X R st gs) : DS X R st (mFrz i gs) := by obtain ⟨t, h1, h2⟩ := h; exact ⟨_, h1, rs_frz i h2⟩
theorem ds_set (i : Nat) (h : DE X R e f) (hN : X.N.Nodup) (hi : X.N[i]? = some x := by rfl) (hx : Loc X.env.scope x := by first | exact Or.inl rfl | exact Or.inr rfl) (hs : swapsWith e (some (.Name x pos')) pos.line X.env = pure false := by rfl) (hf : X.fn x = true ∨ X.env.scope.names.lookup x = some .local := by first | exact .inl rfl | exact .inr rfl) (hsl : R.slot i := by first | exact True.intro | exact ⟨of_decide_eq_true rfl, of_decide_eq_true rfl⟩) :
    DS X R (.Assign [.Name x pos'] e pos) (mAsg i f) := by obtain ⟨t, h1, h2⟩ := h; exact ⟨_, ps_set hN hi hx h1 hs hf, rs_asg hsl h2⟩
theorem ds_ret (h : DE X R e f) : DS X R (.Return (some e) pos) (mRet f) := by obtain ⟨t, h1, h2⟩ := h; exact ⟨_, ps_ret h1, rs_ret h2⟩
theorem ds_retV (i : Nat) (hN : X.N[i]? = some x := by rfl) (hv : Vis X.env.scope x := by first | exact Or.inl rfl | exact Or.inr (Or.inl rfl) | exact Or.inr (Or.inr rfl)) (hd : (x == ("__debug__" : Str)) = false := by decide)
    (hcd : (x == ("__classdict__" : Str)) = false := by decide) (hsl : R.slot i := by first | exact True.intro | exact ⟨of_decide_eq_true rfl, of_decide_eq_true rfl⟩) : DS X R (.Return (some (.Name x pos')) pos) (mRet (mPk i)) := ⟨_, ps_ret (pe_var hN hv hd hcd), rs_retV i hsl⟩
theorem ds_retN : DS X R (.Return none pos) mRetN := ⟨_, ps_retN, rs_retN⟩
theorem ds_pass : DS X R (.Pass pos) mNext := ⟨_, ps_pass, rs_next⟩
theorem ds_brk : DS X R (.Break pos) mBrk := ⟨_, ps_break, rs_brk⟩
theorem ds_ct : DS X R (.Continue pos) mCt := ⟨_, ps_continue, rs_ct⟩
theorem ds_expr (h : DE X R e f) (hs : swapsWith e none pos.line X.env = pure false := by rfl) : DS X R (.Expr e pos) (mDrop f) := by obtain ⟨t, h1, h2⟩ := h; exact ⟨_, ps_expr h1 hs, rs_drop h2⟩
theorem ds_if {A B : List Stmt} (hc : DT X R c ft) (h : DSs X R A gs) (k : DSs X R B gs') : DS X R (.If c A B pos) (mIf ft gs gs') := by obtain ⟨t, h1, h2⟩ := hc; obtain ⟨u, h3, h4⟩ := h; obtain ⟨v, h5, h6⟩ := k; exact ⟨_, ps_if h1 h3 h5, rs_if h2 h4 h6⟩
theorem ds_while (hp : PassesOwn (model X.prog X.w) X.A X.env X.xe) (hc : DT X R c ft) (h : DSs X R sts gs) : DS X R (.While c sts [] pos) (mWhile ft gs) := by obtain ⟨t, h1, h2⟩ := hc; obtain ⟨u, h3, h4⟩ := h; exact ⟨_, ps_while hp h1 h3, rs_while h2 h4⟩
variable {tg : Expr} {fi : En → Option (List PyData)} {fg : PyData → En → Option En} {gg : List (PyData → En → Option En)}
theorem ds_for (hp : PassesOwn (model X.prog X.w) X.A X.env X.xe) (hi : DI X R tg e fi) (hg : DG X R tg fg) (h : DSs X R sts gs) (hc : X.calm = true := by rfl) (hs : ∀ x, foldedSetIterable e X.env x = pure x := by intro _; rfl) : DS X R (.For tg e sts [] pos) (mFor fi fg gs) := by
  obtain ⟨t, h1, h2⟩ := hi; obtain ⟨u, h3, h4⟩ := hg; obtain ⟨v, h5, h6⟩ := h; exact ⟨_, ps_for hp hc h1 h3 h5 hs, rs_for h2 h4 h6⟩
theorem dg_name (i : Nat) (hN : X.N.Nodup) (hi : X.N[i]? = some x := by rfl) (hx : Loc X.env.scope x := by first | exact Or.inl rfl | exact Or.inr rfl) (hf : X.fn x = true ∨ X.env.scope.names.lookup x = some .local := by first | exact .inl rfl | exact .inr rfl) (hsl : R.slot i := by first | exact True.intro | exact ⟨of_decide_eq_true rfl, of_decide_eq_true rfl⟩) : DG X R (.Name x pos) (gVar i) := ⟨_, pg_name hN hi hx hf, rg_name i hsl⟩
theorem dgs_nil : DGs X R [] [] := ⟨_, pgs_nil, rgs_nil⟩
theorem dgs_cons (h : DG X R e fg) (k : DGs X R es gg) (hs : (assignEach (e :: es) X.env).map (·.2) = assign e X.env :: (assignEach es X.env).map (·.2) := by rfl) : DGs X R (e :: es) (fg :: gg) := by obtain ⟨t, h1, h2⟩ := h; obtain ⟨u, h3, h4⟩ := k; exact ⟨_, pgs_cons h1 h3 hs, rgs_cons h2 h4⟩
theorem dg_tup {k} {n : Nat} (h : DGs X R es gg) (hl : n = gg.length := by rfl) (hc : X.calm = true := by rfl) (hn : (assignEach es X.env).length = n := by rfl) (hst : (assignEach es X.env).findIdx? (·.1) = none := by rfl) : DG X R (.Tuple es k pos) (gTupD gg) := by
  obtain ⟨t, h1, h2⟩ := h; exact ⟨_, pg_tup hc h1 hn hst, rg_tup hl h2⟩
theorem di_list (h : DE X R e f) : DI X R tg e (mItems f) := by obtain ⟨t, h1, h2⟩ := h; exact ⟨_, pi_list h1, ri_list h2⟩
theorem di_tup (h : DE X R e f) : DI X R tg e (mItemsT f) := by obtain ⟨t, h1, h2⟩ := h; exact ⟨_, pi_tup h1, ri_tup h2⟩
theorem di_range1 (hm : X.mg "range" = none) (h : DQ X R [a] fq) (hg : Gl X "range" := by rfl) (hs : starEach [a] X.env = [(false, eval a X.env)] := by rfl) : DI X R tg (.Call (.Name "range" p) [a] [] pos) (mRng1 fq) := by obtain ⟨t, h1, h2⟩ := h; exact ⟨_, pi_range1 hg hm h1 hs, ri_range1 h2⟩
theorem di_range2 (hm : X.mg "range" = none) (h : DQ X R [a, b] fq) (hg : Gl X "range" := by rfl) (hs : starEach [a, b] X.env = [(false, eval a X.env), (false, eval b X.env)] := by rfl) (hs2 : starEach [b] X.env = [(false, eval b X.env)] := by rfl) : DI X R tg (.Call (.Name "range" p) [a, b] [] pos) (mRng2 fq) := by
  obtain ⟨t, h1, h2⟩ := h; exact ⟨_, pi_range2 hg hm h1 hs hs2, ri_range2 h2⟩
theorem di_rangeD (hm : X.mg "range" = none) (h : DQ X R [a, b, c] fq) (hg : Gl X "range" := by rfl) (hs : starEach [a, b, c] X.env = (false, eval a X.env) :: starEach [b, c] X.env := by rfl) (hs2 : (backTo pos (starEach [b, c] X.env)).any (·.1) = false := by rfl) : DI X R tg (.Call (.Name "range" p) [a, b, c] [] pos) (mRngD fq) := by
  obtain ⟨t, h1, h2⟩ := h; exact ⟨_, pi_rangeD hg hm h1 hs hs2, ri_rangeD h2⟩
theorem di_zip {elts : List Expr} {k} {tp : Pos} (hm : X.mg "zip" = none) (h : DA X R [a, b] fs) (hg : Gl X "zip" := by rfl) (hs : starEach [a, b] X.env = [(false, eval a X.env), (false, eval b X.env)] := by rfl) (hs2 : starEach [b] X.env = [(false, eval b X.env)] := by rfl) : DI X R (.Tuple elts k tp) (.Call (.Name "zip" p) [a, b] [] pos) (mZip fs) := by
  obtain ⟨t, h1, h2⟩ := h; exact ⟨_, pi_zip hg hm h1 hs hs2, ri_zip h2⟩
theorem ds_app (i : Nat) {apos cpos : Pos} (h : DE X R e f) (hN : X.N[i]? = some x := by rfl) (hv : Vis X.env.scope x := by first | exact Or.inl rfl | exact Or.inr (Or.inl rfl) | exact Or.inr (Or.inr rfl)) (hd : (x == ("__debug__" : Str)) = false := by decide) (hcd : (x == ("__classdict__" : Str)) = false := by decide)
    (hst : starEach [e] X.env = (false, eval e X.env) :: starEach [] X.env := by rfl) (hbase : attributeBase (.Name x p) "append" X.env (eval (.Name x p) X.env) = eval (.Name x p) X.env := by rfl)
    (hfew : ((backTo cpos (starEach [e] X.env)).all (fun x => !x.1) && (backToKw cpos (keywordEach [] X.env)).all (fun x => x.1.isSome) && decide ([e].length + ([] : List Keyword).length + (if ([] : List Keyword).isEmpty then 0 else 1) < 30)) = true := by rfl)
    (hline : (apos.endLine == cpos.line) = true := by rfl) (hplain : (backTo cpos (starEach [] X.env)).any (·.1) = false := by rfl)
    (hs : swapsWith (.Call (.Attribute (.Name x p) "append" apos) [e] [] cpos) none pos.line X.env = pure false := by rfl) (hsl : R.slot i := by first | exact True.intro | exact ⟨of_decide_eq_true rfl, of_decide_eq_true rfl⟩) : DS X R (.Expr (.Call (.Attribute (.Name x p) "append" apos) [e] [] cpos) pos) (mApp i f) := by
  obtain ⟨t, h1, h2⟩ := h
  exact ⟨_, ps_expr (pe_bm PySem.F.plainAttrs_list PySem.F.slot_list_append PySem.F.type_list_append mt_append (pe_var hN hv hd hcd) (pa_cons h1 pa_nil hst) hbase hfew hline hst hplain) hs, rs_app hsl h2⟩
theorem ds_asgT (h : DE X R e f) (hg : DG X R tg fg) (hs : swapsWithSole [tg] e pos.line X.env = pure false := by rfl) (hw : swappedStores [tg] e X.env = pure none := by rfl) (h1 : (assignEach [tg] X.env).map (·.2) = [assign tg X.env] := by rfl) : DS X R (.Assign [tg] e pos) (mAsgT fg f) := by
  obtain ⟨t, a1, a2⟩ := h; obtain ⟨u, b1, b2⟩ := hg; exact ⟨_, ps_asg a1 b1 hs hw h1, rs_asgT a2 b2⟩
theorem ds_par (i j : Nat) {px py pt : Pos} {kt k2 pt2} (h : DA X R [a, b] fs) (hN : X.N.Nodup) (hi : X.N[i]? = some x := by rfl) (hj : X.N[j]? = some y := by rfl) (hij : i ≠ j := by decide)
    (hx : X.env.scope.names.lookup x = some .local := by rfl) (hy : X.env.scope.names.lookup y = some .local := by rfl)
    (hw : swappedStores [.Tuple [.Name x px, .Name y py] kt pt] (.Tuple [a, b] k2 pt2) X.env = pure (some [x, y]) := by rfl)
    (hs : swapsWithSole [.Tuple [.Name x px, .Name y py] kt pt] (.Tuple [a, b] k2 pt2) pos.line X.env = pure false := by rfl) (hc : X.calm = true := by rfl) (hsi : R.slot i := by first | exact True.intro | exact ⟨of_decide_eq_true rfl, of_decide_eq_true rfl⟩) (hsj : R.slot j := by first | exact True.intro | exact ⟨of_decide_eq_true rfl, of_decide_eq_true rfl⟩) : DS X R (.Assign [.Tuple [.Name x px, .Name y py] kt pt] (.Tuple [a, b] k2 pt2) pos) (mPar i j fs) := by
  obtain ⟨t, h1, h2⟩ := h; exact ⟨_, ps_par hc hN hi hj hij hx hy h1 hw hs, rs_par hsi hsj h2⟩
theorem ds_setI (i : Nat) {px ps : Pos} (h : DE X R e f) (hj : DP X R a fa) (hN : X.N[i]? = some x := by rfl) (hv : Vis X.env.scope x := by first | exact Or.inl rfl | exact Or.inr (Or.inl rfl) | exact Or.inr (Or.inr rfl)) (hd : (x == ("__debug__" : Str)) = false := by decide) (hcd : (x == ("__classdict__" : Str)) = false := by decide)
    (ha : ∀ v, assign (.Subscript (.Name x px) a ps) X.env v = (do
      let ov ← holding [v] (eval (.Name x px) X.env)
      let iv ← holding [v, ov] (eval a X.env)
      standAt ps
      holding [v, ov, iv] (setItem ov iv v)
      release [v, ov, iv] []) := by intro _; rfl)
    (hs : swapsWithSole [.Subscript (.Name x px) a ps] e pos.line X.env = pure false := by rfl) (hw : swappedStores [.Subscript (.Name x px) a ps] e X.env = pure none := by rfl) (h1 : (assignEach [.Subscript (.Name x px) a ps] X.env).map (·.2) = [assign (.Subscript (.Name x px) a ps) X.env] := by rfl) (hsl : R.slot i := by first | exact True.intro | exact ⟨of_decide_eq_true rfl, of_decide_eq_true rfl⟩) :
    DS X R (.Assign [.Subscript (.Name x px) a ps] e pos) (mSet i fa f) := by
  obtain ⟨t, a1, a2⟩ := h; obtain ⟨u, b1, b2⟩ := hj
  exact ⟨_, ps_asg a1 (pg_sub (pe_var hN hv hd hcd) b1 set_list ha) hs hw h1, rs_set hsl a2 b2⟩
/-! comprehensions -/
theorem cx_scope1 {CX : CXT} {P : Program} {w : World} {K : PySem.W.Frag} {mg : Str → Option Value} {base : Heap} {N : List Str} {qual : Str} {scope : Scope} {f : Addr} {cd : Value} {A : Around} {outer : List Env} {s : Shared} {H : Hp} {E : XK} : (cxOf CX P w K mg base N qual scope f cd A outer s H E).nox.env.scope = scope := rfl
theorem cx_names1 {CX : CXT} {P : Program} {w : World} {K : PySem.W.Frag} {mg : Str → Option Value} {base : Heap} {N : List Str} {qual : Str} {scope : Scope} {f : Addr} {cd : Value} {A : Around} {outer : List Env} {s : Shared} {H : Hp} {E : XK} : (cxOf CX P w K mg base N qual scope f cd A outer s H E).nox.N = N := rfl
theorem cxC_names {X : Cx} {osc sc : Scope} {N' : List Str} {b : CB} : (cxC X osc sc N' b).N = N' := rfl
theorem cxC_scope {X : Cx} {osc sc : Scope} {N' : List Str} {b : CB} : (cxC X osc sc N' b).env.scope = relabelS sc osc := rfl
def GKm (S : Nat → Bool) (g : TG) : Prop := ∀ v σ H Q Q', g v σ H Q → (∀ σ' H', Q σ' H' → σ'.length = σ.length → (∀ i : Nat, S i = false → σ'[i]? = σ[i]?) → Q' σ' H') → g v σ H Q'
def GKs (S : Nat → Bool) (g : TGs) : Prop := ∀ v σ H Q Q', g v σ H Q → (∀ σ' H', Q σ' H' → σ'.length = σ.length → (∀ i : Nat, S i = false → σ'[i]? = σ[i]?) → Q' σ' H') → g v σ H Q'
theorem GKm.gk {S : Nat → Bool} {t : TG} (h : GKm S t) : GK S t := fun v σ H Q q => h v σ H Q _ q fun _ _ a b c => ⟨a, b, c⟩
theorem gkm_name {S : Nat → Bool} {i : Nat} (h : S i = true) : GKm S (gName i) := fun v σ H Q Q' q k => k _ _ q (List.length_set ..) fun j hj => by
  rw [List.getElem?_set_ne]
  intro e
  subst e
  rw [h] at hj
  cases hj
theorem gks_nil {S : Nat → Bool} : GKs S gNil := fun v σ H Q Q' q k => ⟨q.1, k _ _ q.2 rfl fun _ _ => rfl⟩
theorem gks_cons {S : Nat → Bool} {t : TG} {u : TGs} (h : GKm S t) (k : GKs S u) : GKs S (gCons t u) := fun v σ H Q Q' q w => by
  obtain ⟨x, r, e, q⟩ := q
  refine ⟨x, r, e, h x σ H _ _ q fun σ' H' q' l1 k1 => k r σ' H' _ _ q' fun σ2 H2 q2 l2 k2 => w σ2 H2 q2 (l2.trans l1) fun i hi => (k2 i hi).trans (k1 i hi)⟩
theorem gkm_tup {S : Nat → Bool} {u : TGs} {K : PySem.W.Frag} {n : Nat} (k : GKs S u) : GKm S (gTup K n u) := fun v σ H Q Q' q w => by
  obtain ⟨a, xs, e, h1, h2, q⟩ := q
  exact ⟨a, xs, e, h1, h2, k xs σ H _ _ q w⟩
def DGk (X : Cx) (R : Rl) (S : Nat → Bool) (e : Expr) (g : PyData → En → Option En) : Prop := ∃ t, PG X e t ∧ RG X.K R t g ∧ GKm S t
def DGks (X : Cx) (R : Rl) (S : Nat → Bool) (es : List Expr) (gs : List (PyData → En → Option En)) : Prop := ∃ t, PGs X es t ∧ RGs X.K R t gs ∧ GKs S t
def DTs (X : Cx) (R : Rl) (ifs : List Expr) (f : En → Option Bool) : Prop := ∃ tt, PTs X ifs tt ∧ RT X.K R tt f
theorem dts_nil : DTs X R [] mYes := ⟨_, pts_nil, rt_yes⟩
theorem dts_one (h : DT X R e ft) : DTs X R [e] ft := by obtain ⟨t, h1, h2⟩ := h; exact ⟨_, pts_one h1, h2⟩
theorem dgk_name {S : Nat → Bool} (i : Nat) (hN : X.N.Nodup) (hS : S i = true := by rfl) (hi : X.N[i]? = some x := by rfl) (hx : Loc X.env.scope x := by first | exact Or.inl rfl | exact Or.inr rfl) (hf : X.fn x = true ∨ X.env.scope.names.lookup x = some .local := by first | exact .inl rfl | exact .inr rfl) (hsl : R.slot i := by first | exact True.intro | exact ⟨of_decide_eq_true rfl, of_decide_eq_true rfl⟩) : DGk X R S (.Name x pos) (gVar i) := ⟨_, pg_name hN hi hx hf, rg_name i hsl, gkm_name hS⟩
theorem dgks_nil {S : Nat → Bool} : DGks X R S [] [] := ⟨_, pgs_nil, rgs_nil, gks_nil⟩
theorem dgks_cons {S : Nat → Bool} (h : DGk X R S e fg) (k : DGks X R S es gg) (hs : (assignEach (e :: es) X.env).map (·.2) = assign e X.env :: (assignEach es X.env).map (·.2) := by rfl) : DGks X R S (e :: es) (fg :: gg) := by obtain ⟨t, h1, h2, h5⟩ := h; obtain ⟨u, h3, h4, h6⟩ := k; exact ⟨_, pgs_cons h1 h3 hs, rgs_cons h2 h4, gks_cons h5 h6⟩
theorem dgk_tup {S : Nat → Bool} {k} {n : Nat} (h : DGks X R S es gg) (hl : n = gg.length := by rfl) (hc : X.calm = true := by rfl) (hn : (assignEach es X.env).length = n := by rfl) (hst : (assignEach es X.env).findIdx? (·.1) = none := by rfl) : DGk X R S (.Tuple es k pos) (gTupD gg) := by
  obtain ⟨t, h1, h2, h3⟩ := h; exact ⟨_, pg_tup hc h1 hn hst, rg_tup hl h2, gkm_tup h3⟩
variable {osc sc : Scope} {N' : List Str} {ix : List (Option Nat)} {ifs : List Expr} {elt iter : Expr} {fe : En → Option Sl}
theorem de_lc {N : List Str} (ho : X.env.scope = osc) (hN : X.N = N) (ix : List (Option Nat)) (sb : En → En) (hx : ∀ (HB : Hp) (σ : L2.St) (ρ : En) (H0 H : Hp), R.r HB H0 H σ ρ → R'.r (fun _ => none) H0 H (subS ix σ) (sb ρ)) (hi : DI X R tg iter fi) (hg : ∀ b : CB, DGk (cxC X osc sc N' b) R' (slotS ix) tg fg) (ht : ∀ b : CB, DTs (cxC X osc sc N' b) R' ifs ft) (he : ∀ b : CB, DE (cxC X osc sc N' b) R' elt fe)
    (hcs : csOk osc sc N N' ix = true := by decide +kernel) (hc : X.calm = true := by rfl)
    (hs : ∀ x, foldedSetIterable iter X.env x = pure x := by intro _; rfl) : DE X R (.ListComp elt [⟨tg, iter, ifs, 0⟩] sc pos) (mLC sb fi fg ft fe) := by
  obtain ⟨wi, h1, h2⟩ := hi
  exact ⟨_, pe_lc (g := fun b => (hg b).choose) (tt := fun b => (ht b).choose) (te := fun b => (he b).choose) hc ho hN hcs h1 (fun b => ⟨(hg b).choose_spec.1, (ht b).choose_spec.1, (he b).choose_spec.1⟩) (fun b => (hg b).choose_spec.2.2.gk) hs,
    re_lc hx h2 (fun b => (hg b).choose_spec.2.1) (fun b => (ht b).choose_spec.2) (fun b => (he b).choose_spec.2)⟩
theorem ds_setC {N : List Str} (ho : X.env.scope = osc) (hN : X.N = N) (i : Nat) (ix : List (Option Nat)) (sb : En → En) (hx : ∀ (HB : Hp) (σ : L2.St) (ρ : En) (H0 H : Hp), R.r HB H0 H σ ρ → R'.r (fun _ => none) H0 H (subS ix σ) (sb ρ)) {py spos : Pos} (hnd : X.N.Nodup) (hi : DI X R tg iter fi) (hg : ∀ b : CB, DGk (cxC X osc sc N' b) R' (slotS ix) tg fg) (ht : ∀ b : CB, DTs (cxC X osc sc N' b) R' ifs ft) (he : ∀ b : CB, DE (cxC X osc sc N' b) R' elt fe)
    (hi' : X.N[i]? = some y := by rfl) (hy : X.env.scope.names.lookup y = some .local := by rfl) (hsw : swapsWith (.ListComp elt [⟨tg, iter, ifs, 0⟩] sc pos) (some (.Name y py)) spos.line X.env = pure true := by rfl)
    (hcs : csOk osc sc N N' ix = true := by decide +kernel) (hc : X.calm = true := by rfl)
    (hs : ∀ x, foldedSetIterable iter X.env x = pure x := by intro _; rfl) (hsl : R.slot i := by first | exact True.intro | exact ⟨of_decide_eq_true rfl, of_decide_eq_true rfl⟩) : DS X R (.Assign [.Name y py] (.ListComp elt [⟨tg, iter, ifs, 0⟩] sc pos) spos) (mAsg i (mLC sb fi fg ft fe)) := by
  obtain ⟨wi, h1, h2⟩ := hi
  exact ⟨_, ps_setC (g := fun b => (hg b).choose) (tt := fun b => (ht b).choose) (te := fun b => (he b).choose) hnd hi' hy hsw hc ho hN hcs h1 (fun b => ⟨(hg b).choose_spec.1, (ht b).choose_spec.1, (he b).choose_spec.1⟩) (fun b => (hg b).choose_spec.2.2.gk) hs,
    rs_asgC hsl (re_lc hx h2 (fun b => (hg b).choose_spec.2.1) (fun b => (ht b).choose_spec.2) (fun b => (he b).choose_spec.2))⟩
end
end Dm

set_option Elab.async false
set_option linter.all false
set_option maxRecDepth 100000
set_option maxHeartbeats 4000000
namespace Dm
open PySem PySem.Spec PyProof.Rows L2 Tf
/-! ### a frame with an object: its attributes stand behind the names -/
def cnt : L2.St → Nat
  | [] => 0
  | none :: r => cnt r
  | some _ :: r => cnt r + 1
theorem cnt_le : ∀ l : L2.St, cnt l ≤ l.length
  | [] => Nat.le_refl _
  | none :: r => Nat.le_succ_of_le (cnt_le r)
  | some _ :: r => Nat.succ_le_succ (cnt_le r)
theorem cnt_some : ∀ {l : L2.St} {j : Nat} {u v : V}, l[j]? = some (some u) → cnt (l.set j (some v)) = cnt l
  | [], _, _, _, h => by simp at h
  | o :: r, 0, u, v, h => by simp at h; subst h; rfl
  | o :: r, j + 1, u, v, h => by
    have := cnt_some (l := r) (j := j) (u := u) (v := v) (by simpa using h)
    cases o <;> simp [cnt, this]
theorem cnt_none : ∀ {l : L2.St} {j : Nat} {v : V}, l[j]? = some none → cnt (l.set j (some v)) = cnt l + 1
  | [], _, _, h => by simp at h
  | o :: r, 0, v, h => by simp at h; subst h; rfl
  | o :: r, j + 1, v, h => by
    have := cnt_none (l := r) (j := j) (v := v) (by simpa using h)
    cases o <;> simp [cnt, this]
theorem cnt_rep (k : Nat) : cnt (List.replicate k none) = 0 := by
  induction k with
  | zero => rfl
  | succ k ih => exact ih
structure OA (C : Addr) (names : List Str) (HB H0 H : Hp) (p : Addr) (vals : L2.St) : Prop where
  hp : HB p = none
  h0p : H0 p = none
  len : vals.length = names.length
  ins : ∃ dx fs, H p = some (.ins C dx fs) ∧ fs.length ≤ cnt vals ∧ (∀ (j : Nat) f, names[j]? = some f → fs.lookup f = (vals[j]?).join) ∧ ∀ f, f ∉ names → fs.lookup f = none
section
variable {K : PySem.W.Frag} {C : Addr} {names : List Str}
theorem OA.ext {HB H0 H H0' H' : Hp} {p : Addr} {vals : L2.St} (x : Ext H0 H H0' H') (o : OA C names HB H0 H p vals) : OA C names HB H0' H' p vals := by
  obtain ⟨dx, fs, h1, h2⟩ := o.ins
  exact ⟨o.hp, x.own p _ h1 o.h0p, o.len, dx, fs, x.s _ _ h1, h2⟩
theorem OA.other {HB H0 H : Hp} {p a : Addr} {vals : L2.St} {vs : List V} {u : HO} (o : OA C names HB H0 H p vals) (h : H a = some (.lst vs)) : OA C names HB H0 (upd H a u) p vals := by
  obtain ⟨dx, fs, h1, h2⟩ := o.ins
  have hne : p ≠ a := by rintro rfl; rw [h1] at h; cases h
  exact ⟨o.hp, o.h0p, o.len, dx, fs, by rw [upd_ne hne]; exact h1, h2⟩
theorem OA.frz {HB H0 H : Hp} {p a : Addr} {vals : L2.St} {vs : List V} {u : HO} (o : OA C names HB H0 H p vals) (h : H a = some (.lst vs)) : OA C names HB (upd H0 a u) H p vals := by
  obtain ⟨dx, fs, h1, h2⟩ := o.ins
  have hne : p ≠ a := by rintro rfl; rw [h1] at h; cases h
  exact ⟨o.hp, by rw [upd_ne hne]; exact o.h0p, o.len, dx, fs, h1, h2⟩
theorem OA.base {HB HB' H0 H : Hp} {p : Addr} {vals : L2.St} (s : Same HB HB') (o : OA C names HB' H0 H p vals) : OA C names HB H0 H p vals := ⟨s.free o.hp, o.h0p, o.len, o.ins⟩
theorem ER.base {HB HB' H0 H : Hp} {σ : L2.St} {ρ : En} (s : Same HB HB') (e : ER K HB' H0 H σ ρ) : ER K HB H0 H σ ρ :=
  ⟨e.len, fun i r h => by obtain ⟨v, h1, h2⟩ := e.get i r h; exact ⟨v, h1, h2.base s⟩, e.apart⟩
theorem ER.updO {HB H0 H : Hp} {σ : L2.St} {ρ : En} {p : Addr} {o : HO} (e : ER K HB H0 H σ ρ) (hp : ∀ vs, H p ≠ some (.lst vs)) : ER K HB H0 (upd H p o) σ ρ :=
  ⟨e.len, fun i r h => by
    obtain ⟨v, h1, h2⟩ := e.get i r h
    refine ⟨v, h1, ?_⟩
    cases r with
    | val d => exact h2
    | own ds =>
      obtain ⟨a, vs, rfl, q1, q2, q3, q4⟩ := h2
      exact ⟨a, vs, rfl, q1, q2, by rw [upd_ne (by rintro rfl; exact hp _ q3)]; exact q3, q4⟩, e.apart⟩
structure OD where
  C : Addr
  names : List Str
  s : Nat
  n : Nat
  p : Addr
def FR (K : PySem.W.Frag) (od : OD) : Rl :=
  ⟨fun HB H0 H σ ρ => σ.length = od.n ∧ ∃ p vals, p = od.p ∧ σ[od.s]? = some (some (.ref p)) ∧ OA od.C od.names HB H0 H p vals ∧ ER K HB H0 H (σ ++ vals) ρ, fun i => i ≠ od.s ∧ i < od.n⟩
theorem app_set {σ vals : L2.St} {i : Nat} {v : Option V} (h : i < σ.length) : (σ ++ vals).set i v = σ.set i v ++ vals := by
  rw [List.set_append_left _ _ h]
theorem app_setR {σ vals : L2.St} {j : Nat} {v : Option V} : (σ ++ vals).set (σ.length + j) v = σ ++ vals.set j v := by
  rw [List.set_append_right _ _ (Nat.le_add_right _ _), Nat.add_sub_cancel_left]
instance relOk_FR {od : OD} : RelOk K (FR K od) where
  ext := fun x ⟨h1, p, vals, hpp, h2, h3, h4⟩ => ⟨h1, p, vals, hpp, h2, h3.ext x, h4.ext x⟩
  get := fun ⟨h1, p, vals, hpp, h2, h3, h4⟩ hs h => by
    obtain ⟨v, e1, e2⟩ := h4.get _ _ h
    rw [List.getElem?_append_left (by rw [h1]; exact hs.2)] at e1
    exact ⟨v, e1, e2⟩
  set := fun {HB H0 H H0' H' σ ρ i v s} ⟨h1, p, vals, hpp, h2, h3, h4⟩ hs x sb h => by
    refine ⟨by rw [List.length_set]; exact h1, p, vals, hpp, by rw [List.getElem?_set_ne hs.1]; exact h2, h3.ext x, ?_⟩
    have := h4.set (i := i) x sb h
    rw [app_set (by rw [h1]; exact hs.2)] at this
    exact this
  write := fun {HB H0 H σ ρ i a ds es vs ys} ⟨h1, p, vals, hpp, h2, h3, h4⟩ hs hi hσ hb h0 ha hr => by
    refine ⟨h1, p, vals, hpp, h2, h3.other ha, ?_⟩
    exact h4.write hi (by rw [List.getElem?_append_left (by rw [h1]; exact hs.2)]; exact hσ) hb h0 hr
  frz := fun ⟨h1, p, vals, hpp, h2, h3, h4⟩ hi x => by
    obtain ⟨a, vs, ha, x', e'⟩ := h4.frz hi x
    exact ⟨_, x', h1, p, vals, hpp, h2, h3.frz ha, e'⟩
variable {od : OD}
/-- an attribute's slot -/
theorem fld_at {HB H0 H : Hp} {σ : L2.St} {ρ : En} {j : Nat} {f : Str} {r : Sl} (e : ST (FR K od) HB H0 H σ ρ) (hj : od.names[j]? = some f) (h : ρ[od.n + j]? = some (some r)) :
    ∃ p dx fs v, σ[od.s]? = some (some (.ref p)) ∧ H p = some (.ins od.C dx fs) ∧ fs.lookup f = some v ∧ SlH K HB H0 H v r := by
  obtain ⟨h1, p, vals, hpp, h2, h3, h4⟩ := e.r
  obtain ⟨v, e1, e2⟩ := h4.get _ _ h
  rw [← h1, List.getElem?_append_right (Nat.le_add_right _ _), Nat.add_sub_cancel_left] at e1
  obtain ⟨dx, fs, q1, q2, q3, q4⟩ := h3.ins
  exact ⟨p, dx, fs, v, h2, q1, by rw [q3 j f hj, e1]; rfl, e2⟩
theorem rp_fld {j : Nat} {f : Str} (hc : Cls K od.C) (hn : NoAttr K od.C f) (hj : od.names[j]? = some f) : RP K (FR K od) (tFld K (tVar od.s) f) (mPk (od.n + j)) := fun HB σ ρ H0 H s e r hr Q q => by
  obtain ⟨p, dx, fs, v, h1, h2, h3, h4⟩ := fld_at e hj (join_some hr)
  exact ⟨.ref p, h1, p, od.C, dx, fs, v, rfl, h2, hc, hn, h3, q v H0 H (Ext.refl s) h4.p⟩
theorem re_fld {j : Nat} {f : Str} (hc : Cls K od.C) (hn : NoAttr K od.C f) (hj : od.names[j]? = some f) : RE K (FR K od) (tFld K (tVar od.s) f) (mVar (od.n + j)) := fun HB σ ρ H0 H s e r hr Q q => by
  unfold mVar at hr
  cases ej : (ρ[od.n + j]?).join with
  | none => rw [ej] at hr; cases hr
  | some r' =>
    rw [ej] at hr
    cases r' with
    | own _ => cases hr
    | val d =>
      cases hr
      obtain ⟨p, dx, fs, v, h1, h2, h3, h4⟩ := fld_at e hj (join_some ej)
      exact ⟨.ref p, h1, p, od.C, dx, fs, v, rfl, h2, hc, hn, h3, q v H0 H (Ext.refl s) h4⟩
theorem putF_has {f : Str} {v u : V} : ∀ {fs : List (Str × V)}, fs.lookup f = some u → (putF f v fs).length = fs.length
  | [], h => by cases h
  | (g, x) :: r, h => by
    show (if g = f then (g, v) :: r else (g, x) :: putF f v r).length = _
    split
    · rfl
    · rename_i hg
      have : (f == g) = false := beq_eq_false_iff_ne.mpr fun z => hg z.symm
      rw [List.lookup, this] at h
      rw [List.length_cons, List.length_cons, putF_has h]
theorem rs_fld {te : TE} {fe : En → Option Sl} {j : Nat} {f : Str} (hc : Cls K od.C) (hn : NoAttr K od.C f) (hj : od.names[j]? = some f) (hnd : od.names.Nodup) (hlt : od.names.length < 1000) (h : RE K (FR K od) te fe) :
    RS K (FR K od) (sFld K (tVar od.s) te f) (mAsg (od.n + j) fe) := fun HB S0 σ ρ H0 H x e o ho D d => by
  obtain ⟨r, hr, rfl⟩ := Option.map_eq_some_iff.mp ho
  refine h HB σ ρ H0 H x.s1 e r hr _ fun v H1 J1 x1 p1 => ?_
  obtain ⟨h1, p, vals, hpp, h2, h3, h4⟩ := e.r
  have oa := h3.ext x1
  obtain ⟨dx, fs, q1, q2, q3, q4⟩ := oa.ins
  have e1 := h4.set (i := od.n + j) x1 x.s p1
  rw [← h1, app_setR] at e1
  have xx := (x.chain x1).write oa.hp oa.h0p (.ins od.C dx (putF f v fs))
  have hjl : j < vals.length := by rw [h3.len]; exact (List.getElem?_eq_some_iff.mp hj).1
  refine ⟨.ref p, h2, p, od.C, dx, fs, rfl, q1, hc, hn, by have := cnt_le vals; have := h3.len; omega, ?_⟩
  refine d σ H1 _ xx ⟨⟨h1, p, vals.set j (some v), hpp, h2, ⟨oa.hp, oa.h0p, by rw [List.length_set]; exact h3.len, dx, _, upd_same, ?_, fun k g hk => ?_, fun g hg => ?_⟩, ?_⟩⟩
  · cases hv : vals[j]? with
    | none => rw [List.getElem?_eq_none_iff] at hv; omega
    | some ov =>
      cases ov with
      | none => rw [cnt_none hv]; have := length_putF f v fs; omega
      | some u =>
        rw [cnt_some hv, putF_has (u := u) (by rw [q3 j f hj, hv]; rfl)]
        exact q2
  · rw [lookup_putF]
    split
    · rename_i hg
      subst hg
      have : k = j := nodup_ix hnd hk hj
      subst this
      rw [List.getElem?_set_self (by exact hjl)]
      rfl
    · rename_i hg
      have : j ≠ k := by rintro rfl; rw [hj] at hk; exact hg (Option.some.inj hk).symm
      rw [List.getElem?_set_ne this]
      exact q3 k g hk
  · rw [lookup_putF, if_neg]
    · exact q4 g hg
    · rintro rfl
      exact hg (List.mem_of_getElem? hj)
  · rw [h1] at e1
    exact e1.updO fun vs z => by rw [q1] at z; cases z
theorem own_fld {HB H0 H : Hp} {σ : L2.St} {ρ : En} {j : Nat} {f : Str} {ds : List PyData} (e : ST (FR K od) HB H0 H σ ρ) (hj : od.names[j]? = some f) (h : (ρ[od.n + j]?).join = some (.own ds)) :
    ∃ p dx fs a vs, σ[od.s]? = some (some (.ref p)) ∧ H p = some (.ins od.C dx fs) ∧ fs.lookup f = some (.ref a) ∧ HB a = none ∧ H0 a = none ∧ H a = some (.lst vs) ∧ Reps K H0 vs ds ∧
      ∀ (H0' H' : Hp) ys es, Ext H0 H H0' H' → Reps K H0' ys es → ST (FR K od) HB H0' (upd H' a (.lst ys)) σ (ρ.set (od.n + j) (some (.own es))) := by
  obtain ⟨h1, p, vals, hpp, h2, h3, h4⟩ := e.r
  obtain ⟨v, e1, a, vs, rfl, g1, g2, g3, g4⟩ := h4.get _ _ (join_some h)
  have e1' := e1
  rw [← h1, List.getElem?_append_right (Nat.le_add_right _ _), Nat.add_sub_cancel_left] at e1
  obtain ⟨dx, fs, q1, q2, q3, q4⟩ := h3.ins
  refine ⟨p, dx, fs, a, vs, h2, q1, by rw [q3 j f hj, e1]; rfl, g1, g2, g3, g4, fun H0' H' ys es x hr => ?_⟩
  exact ⟨h1, p, vals, hpp, h2, (h3.ext x).other (x.s _ _ g3), (h4.ext x).write (join_some h) e1' g1 (x.own _ _ g3 g2) hr⟩
theorem rs_appF {te : TE} {fe : En → Option Sl} {j : Nat} {f : Str} (hc : Cls K od.C) (hn : NoAttr K od.C f) (hj : od.names[j]? = some f) (h : RE K (FR K od) te fe) : RS K (FR K od) (tDrop (tBM K "list" rAppend (tFld K (tVar od.s) f) (tCons te tNil))) (mApp (od.n + j) fe) := fun HB S0 σ ρ H0 H x e o ho D d => by
  unfold mApp at ho
  split at ho
  · rename_i ds hown
    obtain ⟨r, hr, ho⟩ := Option.bind_eq_some_iff.mp ho
    split at ho
    · rename_i hl
      cases ho
      obtain ⟨p, dx, fs, a, vs, h1, h2, h3, g1, g2, g3, g4, wr⟩ := own_fld e hj hown
      refine ⟨.ref p, h1, p, od.C, dx, fs, .ref a, rfl, h2, hc, hn, h3, .inl ⟨rfl, vs, SqL.of g3⟩, ?_⟩
      refine h.rv HB σ ρ H0 H x.s1 e r.dat (by unfold mDat; rw [hr]; rfl) _ fun v H1 J1 x1 p1 => ?_
      refine ⟨a, vs, v, rfl, rfl, x1.s _ _ g3, by rw [g4.length]; exact hl, ?_⟩
      exact d σ H1 _ ((x.chain x1).write g1 (x1.own a _ g3 g2) _) (wr H1 J1 _ _ x1 (Tf.Reps.snoc (Reps.same x1.s0 g4) p1))
    · cases ho
  · cases ho
theorem rs_setF {te tj : TE} {fe fj : En → Option Sl} {j : Nat} {f : Str} (hc : Cls K od.C) (hn : NoAttr K od.C f) (hj : od.names[j]? = some f) (h : RE K (FR K od) te fe) (hk : RP K (FR K od) tj fj) : RS K (FR K od) (tAsg te (gSub (tFld K (tVar od.s) f) tj rSetL)) (mSet (od.n + j) fj fe) := fun HB S0 σ ρ H0 H x e o ho D d => by
  obtain ⟨r, hr, ho⟩ := Option.bind_eq_some_iff.mp ho
  split at ho
  · rename_i ds hown
    obtain ⟨k, hkk, ho⟩ := Option.bind_eq_some_iff.mp ho
    split at ho
    · rename_i k
      obtain ⟨i, hix, rfl⟩ := Option.map_eq_some_iff.mp ho
      refine h.rv HB σ ρ H0 H x.s1 e r.dat (by unfold mDat; rw [hr]; rfl) _ fun v H1 J1 x1 p1 => ?_
      obtain ⟨p, dx, fs, a, vs, h1, h2, h3, g1, g2, g3, g4, wr⟩ := own_fld (e.ext (K := K) x1) hj hown
      refine ⟨.ref p, h1, p, od.C, dx, fs, .ref a, rfl, h2, hc, hn, h3, ?_⟩
      refine hk HB σ ρ H1 J1 x1.s1 (e.ext (K := K) x1) _ hkk _ fun w H2 J2 x2 p2 => ?_
      refine ⟨a, vs, k, i, rfl, p2.int, x2.s _ _ g3, by rw [g4.length]; exact hix, ?_⟩
      exact d σ H2 _ (((x.chain x1).chain x2).write g1 (x2.own a _ g3 g2) _) (wr H2 J2 _ _ x2 (Reps.set (Rep.same x2.s0 p1) i (Reps.same x2.s0 g4)))
    · cases ho
  · cases ho
/-! ### methods -/
/-- a method's promise: what becomes of the attributes, what is given back -/
def spM (K : PySem.W.Frag) (C : Addr) (names : List Str) (F : En → List PyData → Option (En × PyData)) : Sp := fun vs H Q _ => ∃ HB H0 p vals φ ds φ' d vs', vs = .ref p :: vs' ∧ Same HB H ∧ Same H0 H ∧ OA C names HB H0 H p vals ∧ ER K HB H0 H vals φ ∧ Reps K H0 vs' ds ∧ F φ ds = some (φ', d) ∧
  ∀ v H0' H' vals', Ext H0 HB H0' H' → OA C names HB H0' H' p vals' → ER K HB H0' H' vals' φ' → Rep K H0' v d → Q v H'
open Classical in
/-- the heap without the object and its lists -/
noncomputable def hole (H : Hp) (p : Addr) (vals : L2.St) (φ : En) : Hp := fun b => if b = p ∨ ∃ (j : Nat) (ds : List PyData), φ[j]? = some (some (.own ds)) ∧ vals[j]? = some (some (.ref b)) then none else H b
theorem hole_same {H : Hp} {p : Addr} {vals : L2.St} {φ : En} : Same (hole H p vals φ) H := fun b o h => by
  unfold hole at h
  split at h
  · cases h
  · exact h
theorem meth_call {HB S0 H0 H : Hp} {σ : L2.St} {ρ : En} {vs' : List V} {ds : List PyData} {F : En → List PyData → Option (En × PyData)} {φ' : En} {dd : PyData} {Q : VK} {E : XK} (x : Ext S0 HB H0 H) (e : ST (FR K od) HB H0 H σ ρ) (hr : Reps K H0 vs' ds) (hF : F (ρ.drop od.n) ds = some (φ', dd))
    (q : ∀ v H0' H', Ext S0 HB H0' H' → ST (FR K od) HB H0' H' σ (ρ.take od.n ++ φ') → Rep K H0' v dd → Q v H') : ∃ p dx fs, σ[od.s]? = some (some (.ref p)) ∧ H p = some (.ins od.C dx fs) ∧ (∀ m, m ∉ od.names → fs.lookup m = none) ∧ spM K od.C od.names F (.ref p :: vs') H Q E := by
  obtain ⟨h1, p, vals, hpp, h2, h3, h4⟩ := e.r
  obtain ⟨dx, fs, q1, q2, q3, q4⟩ := h3.ins
  have lρ : ρ.length = od.n + vals.length := by rw [← h4.len, List.length_append, h1]
  have fi : ∀ (j : Nat), (ρ.drop od.n)[j]? = ρ[od.n + j]? := fun j => List.getElem?_drop
  have si : ∀ (j : Nat), (σ ++ vals)[od.n + j]? = vals[j]? := fun j => by rw [← h1, List.getElem?_append_right (Nat.le_add_right _ _), Nat.add_sub_cancel_left]
  refine ⟨p, dx, fs, h2, q1, q4, hole H p vals (ρ.drop od.n), H0, p, vals, ρ.drop od.n, ds, φ', dd, vs', rfl, hole_same, x.s1, ⟨?_, h3.h0p, h3.len, h3.ins⟩, ?_, hr, hF, fun v H0' H' vals' x' o' e' r' => ?_⟩
  · unfold hole
    rw [if_pos (.inl rfl)]
  · refine ⟨by rw [List.length_drop, lρ]; omega, fun j s hs => ?_, fun i j a xs ys hij g1 g2 g3 g4 => ?_⟩
    · rw [fi] at hs
      obtain ⟨v, e1, e2⟩ := h4.get _ _ hs
      rw [si] at e1
      refine ⟨v, e1, ?_⟩
      cases s with
      | val d => exact e2
      | own es =>
        obtain ⟨a, ws, rfl, k1, k2, k3, k4⟩ := e2
        refine ⟨a, ws, rfl, ?_, k2, k3, k4⟩
        unfold hole
        rw [if_pos (.inr ⟨j, es, by rw [fi]; exact hs, e1⟩)]
    · rw [fi] at g1 g2
      exact h4.apart (od.n + i) (od.n + j) a xs ys (by omega) g1 g2 (by rw [si]; exact g3) (by rw [si]; exact g4)
  · -- behind the call
    have out : ∀ b, HB b ≠ none → hole H p vals (ρ.drop od.n) b = H b := by
      intro b hb
      unfold hole
      rw [if_neg]
      rintro (rfl | ⟨j, es, k1, k2⟩)
      · exact hb h3.hp
      · rw [fi] at k1
        obtain ⟨w, e1, a, ws, rfl, k3, _⟩ := h4.get _ _ k1
        rw [si, k2] at e1
        cases e1
        exact hb k3
    have back : ∀ a, hole H p vals (ρ.drop od.n) a = none → HB a = none := by
      intro a ha
      cases hb : HB a with
      | none => rfl
      | some u =>
        rw [out a (by rw [hb]; simp), x.s a u hb] at ha
        cases ha
    have loc : ∀ (i : Nat) es a ws, i < od.n → ρ[i]? = some (some (.own es)) → σ[i]? = some (some (.ref a)) → H a = some (.lst ws) → hole H p vals (ρ.drop od.n) a = some (.lst ws) := by
      intro i es a ws hi k1 k2 k3
      unfold hole
      rw [if_neg]
      · exact k3
      · rintro (rfl | ⟨j, ts, k4, k5⟩)
        · rw [q1] at k3; cases k3
        · rw [fi] at k4
          exact h4.apart i (od.n + j) a es ts (by omega) k1 k4 (by rw [List.getElem?_append_left (by omega)]; exact k2) (by rw [si]; exact k5)
    have xx : Ext S0 HB H0' H' := ⟨fun b u hb => x'.s b u (by rw [out b (by rw [hb]; simp)]; exact x.s b u hb), x.s0.trans x'.s0, x'.s1, fun b u hb h0 => x'.own b u (by rw [out b (by rw [hb]; simp)]; exact x.s b u hb) (x.own b u hb h0)⟩
    have lφ : φ'.length = vals'.length := e'.len.symm
    have tk : (ρ.take od.n).length = od.n := by rw [List.length_take, lρ]; omega
    have left : ∀ (i : Nat), i < od.n → (ρ.take od.n ++ φ')[i]? = ρ[i]? := fun i hi => by rw [List.getElem?_append_left (by omega), List.getElem?_take_of_lt hi]
    have right : ∀ (i : Nat), od.n ≤ i → (ρ.take od.n ++ φ')[i]? = φ'[i - od.n]? := fun i hi => by rw [List.getElem?_append_right (by omega), tk]
    have sl : ∀ (i : Nat), i < od.n → (σ ++ vals')[i]? = σ[i]? := fun i hi => List.getElem?_append_left (by omega)
    have sr : ∀ (i : Nat), od.n ≤ i → (σ ++ vals')[i]? = vals'[i - od.n]? := fun i hi => by rw [List.getElem?_append_right (by omega), h1]
    have lown : ∀ (i : Nat) es a, i < od.n → ρ[i]? = some (some (.own es)) → σ[i]? = some (some (.ref a)) → ∃ ws, H a = some (.lst ws) ∧ HB a = none ∧ H0 a = none ∧ Reps K H0 ws es := by
      intro i es a hi k1 k2
      obtain ⟨v, e1, b, ws, rfl, k3, k4, k5, k6⟩ := h4.get _ _ k1
      rw [List.getElem?_append_left (by omega), k2] at e1
      cases e1
      exact ⟨ws, k5, k3, k4, k6⟩
    refine q v H0' H' xx ⟨h1, p, vals', hpp, h2, ⟨h3.hp, o'.h0p, o'.len, o'.ins⟩, ?_, fun i s hs => ?_, fun i j a xs ys hij g1 g2 g3 g4 => ?_⟩ r'
    · rw [List.length_append, List.length_append, tk, lφ, h1]
    · by_cases hi : i < od.n
      · rw [left i hi] at hs
        rw [sl i hi]
        obtain ⟨w, e1, e2⟩ := h4.get _ _ hs
        rw [List.getElem?_append_left (by omega)] at e1
        refine ⟨w, e1, ?_⟩
        cases s with
        | val d => exact Rep.same x'.s0 e2
        | own es =>
          obtain ⟨a, ws, rfl, k1, k2, k3, k4⟩ := e2
          have hl := loc i es a ws hi hs e1 k3
          exact ⟨a, ws, rfl, k1, x'.own a _ hl k2, x'.s a _ hl, Reps.same x'.s0 k4⟩
      · rw [right i (by omega)] at hs
        rw [sr i (by omega)]
        obtain ⟨w, e1, e2⟩ := e'.get _ _ hs
        refine ⟨w, e1, ?_⟩
        cases s with
        | val d => exact e2
        | own es =>
          obtain ⟨a, ws, rfl, k1, k2⟩ := e2
          exact ⟨a, ws, rfl, back a k1, k2⟩
    · have mixed : ∀ (i j : Nat) xs ys, i < od.n → od.n ≤ j → (ρ.take od.n ++ φ')[i]? = some (some (.own xs)) → (ρ.take od.n ++ φ')[j]? = some (some (.own ys)) → (σ ++ vals')[i]? = some (some (.ref a)) → (σ ++ vals')[j]? ≠ some (some (.ref a)) := by
        intro i j xs ys hi hj g1 g2 g3 g4
        rw [left i hi] at g1
        rw [right j hj] at g2
        rw [sl i hi] at g3
        rw [sr j hj] at g4
        obtain ⟨ws, k3, _⟩ := lown i xs a hi g1 g3
        have hl := loc i xs a ws hi g1 g3 k3
        obtain ⟨w, e1, b, us, rfl, k1, _⟩ := e'.get _ _ g2
        rw [g4] at e1
        cases e1
        rw [hl] at k1
        cases k1
      by_cases hi : i < od.n
      · by_cases hj : j < od.n
        · rw [left i hi] at g1
          rw [left j hj] at g2
          rw [sl i hi] at g3
          rw [sl j hj] at g4
          exact h4.apart i j a xs ys hij g1 g2 (by rw [List.getElem?_append_left (by omega)]; exact g3) (by rw [List.getElem?_append_left (by omega)]; exact g4)
        · exact mixed i j xs ys hi (by omega) g1 g2 g3 g4
      · by_cases hj : j < od.n
        · exact mixed j i ys xs hj (by omega) g2 g1 g4 g3
        · rw [right i (by omega)] at g1
          rw [right j (by omega)] at g2
          rw [sr i (by omega)] at g3
          rw [sr j (by omega)] at g4
          exact e'.apart (i - od.n) (j - od.n) a xs ys (by omega) g1 g2 g3 g4
def mMeth (n : Nat) (F : En → List PyData → Option (En × PyData)) (fa : En → Option (List PyData)) (k : En → PyData → Option Out) : En → Option Out := fun ρ => (fa ρ).bind fun ds => (F (ρ.drop n) ds).bind fun r => k (ρ.take n ++ r.1) r.2
theorem rs_methE {ta : TA} {fa : En → Option (List PyData)} {F : En → List PyData → Option (En × PyData)} {m : Str} {E : XK} (hm : m ∉ od.names) (h : RA K (FR K od) ta fa) : RS K (FR K od) (tDrop (tMeth od.C m (spM K od.C od.names F) [] E (tVar od.s) ta)) (mMeth od.n F fa fun ρ _ => some (.nx ρ)) := fun HB S0 σ ρ H0 H x e o ho D d => by
  obtain ⟨ds, hd, ho⟩ := Option.bind_eq_some_iff.mp ho
  obtain ⟨⟨φ', dd⟩, hF, ho⟩ := Option.bind_eq_some_iff.mp ho
  cases ho
  obtain ⟨h1, p, vals, hpp, h2, h3, h4⟩ := e.r
  obtain ⟨dx, fs, q1, q2, q3, q4⟩ := h3.ins
  refine ⟨.ref p, h2, p, dx, fs, rfl, q1, q4 m hm, ?_⟩
  refine h HB σ ρ H0 H x.s1 e ds hd _ fun vs H1 J1 x1 p1 => ?_
  rw [List.append_nil]
  obtain ⟨p', dx', fs', k1, k2, k3, k4⟩ := meth_call (E := E) (x.chain x1) (e.ext (K := K) x1) p1 hF (fun v H2 J2 x2 e2 r2 => d σ H2 J2 x2 e2)
  rw [h2] at k1
  cases k1
  exact k4
theorem rs_methA {ta : TA} {fa : En → Option (List PyData)} {F : En → List PyData → Option (En × PyData)} {m : Str} {E : XK} {i : Nat} (hs : (FR K od).slot i) (hm : m ∉ od.names) (h : RA K (FR K od) ta fa) :
    RS K (FR K od) (tAsg (tMeth od.C m (spM K od.C od.names F) [] E (tVar od.s) ta) (gName i)) (mMeth od.n F fa fun ρ d => some (.nx (ρ.set i (some (.val d))))) := fun HB S0 σ ρ H0 H x e o ho D d => by
  obtain ⟨ds, hd, ho⟩ := Option.bind_eq_some_iff.mp ho
  obtain ⟨⟨φ', dd⟩, hF, ho⟩ := Option.bind_eq_some_iff.mp ho
  cases ho
  obtain ⟨h1, p, vals, hpp, h2, h3, h4⟩ := e.r
  obtain ⟨dx, fs, q1, q2, q3, q4⟩ := h3.ins
  refine ⟨.ref p, h2, p, dx, fs, rfl, q1, q4 m hm, ?_⟩
  refine h HB σ ρ H0 H x.s1 e ds hd _ fun vs H1 J1 x1 p1 => ?_
  rw [List.append_nil]
  obtain ⟨p', dx', fs', k1, k2, k3, k4⟩ := meth_call (E := E) (x.chain x1) (e.ext (K := K) x1) p1 hF (fun v H2 J2 x2 e2 r2 => d _ H2 J2 x2 ⟨RelOk.set (K := K) (s := .val dd) e2.r hs (Ext.refl x2.s1) x2.s r2⟩)
  rw [h2] at k1
  cases k1
  exact k4
end
end Dm

set_option Elab.async false
set_option linter.all false
set_option maxRecDepth 100000
set_option maxHeartbeats 4000000
namespace Dm
open PySem PySem.Spec PyProof.Rows L2 Tf
section
variable {K : PySem.W.Frag} {C : Addr} {names : List Str}
/-! ### a method's body -/
def runM (n m k : Nat) (g : En → Option Out) : En → List PyData → Option (En × PyData) := fun φ ds => if ds.length + 1 = m ∧ φ.length = k then (g ((none :: ds.map (fun d => some (.val d))) ++ List.replicate (n - (ds.length + 1)) none ++ φ)).bind fun o => match o with
  | .rt (.val d) ρ => some (ρ.drop n, d)
  | .nx ρ => some (ρ.drop n, .none)
  | _ => none else none
theorem er_self {HB H0 H : Hp} {p : Addr} {vs : List V} {ds : List PyData} {N : List Str} {vals : L2.St} {φ : En} (hn : ds.length + 1 ≤ N.length) (hr : Reps K H0 vs ds) (e : ER K HB H0 H vals φ) :
    ER K HB H0 H (L2.start N (.ref p :: vs) ++ vals) ((none :: ds.map (fun d => some (.val d))) ++ List.replicate (N.length - (ds.length + 1)) none ++ φ) := by
  have hl := hr.length
  have ls : (L2.start N (.ref p :: vs)).length = N.length := by
    unfold L2.start
    simp only [List.length_append, List.length_map, List.length_replicate, List.length_cons]
    omega
  have lr : ((none :: ds.map (fun d => some (Sl.val d))) ++ List.replicate (N.length - (ds.length + 1)) (none : Option Sl)).length = N.length := by
    simp only [List.length_append, List.length_map, List.length_replicate, List.length_cons]
    omega
  have lv : ∀ (i : Nat) s, i < N.length → ((none :: ds.map (fun d => some (Sl.val d))) ++ List.replicate (N.length - (ds.length + 1)) (none : Option Sl))[i]? = some (some s) → ∃ j d, i = j + 1 ∧ ds[j]? = some d ∧ s = .val d := by
    intro i s hi hs
    cases i with
    | zero => cases hs
    | succ j =>
      by_cases hj : j < ds.length
      · rw [List.cons_append, List.getElem?_cons_succ, List.getElem?_append_left (by simpa using hj), List.getElem?_map, List.getElem?_eq_getElem hj] at hs
        cases hs
        exact ⟨j, _, rfl, List.getElem?_eq_getElem hj, rfl⟩
      · rw [List.cons_append, List.getElem?_cons_succ, List.getElem?_append_right (by simpa using hj), List.getElem?_replicate] at hs
        split at hs <;> cases hs
  refine ⟨by rw [List.length_append, List.length_append, ls, lr, e.len], fun i s hs => ?_, fun i j a xs ys hij g1 g2 g3 g4 => ?_⟩
  · by_cases hi : i < N.length
    · rw [List.getElem?_append_left (by omega)] at hs ⊢
      obtain ⟨j, d, rfl, hd, rfl⟩ := lv i s hi hs
      obtain ⟨v, h1, h2⟩ := Tf.Reps.get hr hd
      refine ⟨v, ?_, h2⟩
      unfold L2.start
      have hj : j < vs.length := (List.getElem?_eq_some_iff.mp h1).1
      rw [List.map_cons, List.cons_append, List.getElem?_cons_succ, List.getElem?_append_left (by simpa using hj), List.getElem?_map, h1]
      rfl
    · rw [List.getElem?_append_right (by omega), lr] at hs
      rw [List.getElem?_append_right (by omega), ls]
      exact e.get _ _ hs
  · have big : ∀ (i : Nat) xs, ((none :: ds.map (fun d => some (Sl.val d))) ++ List.replicate (N.length - (ds.length + 1)) (none : Option Sl) ++ φ)[i]? = some (some (.own xs)) → N.length ≤ i := by
      intro i xs h
      by_cases hi : i < N.length
      · rw [List.getElem?_append_left (by omega)] at h
        obtain ⟨_, _, _, _, z⟩ := lv i _ hi h
        cases z
      · omega
    have b1 := big i xs g1
    have b2 := big j ys g2
    rw [List.getElem?_append_right (by omega), lr] at g1 g2
    rw [List.getElem?_append_right (by omega), ls] at g3 g4
    exact e.apart _ _ a xs ys (by omega) g1 g2 g3 g4
section
variable {P : Program} {w : World} {mg : Str → Option Value} {base : Heap}
theorem fnM {x qual : Str} {st : Stmt} {f : Addr} {fd : FuncData} {N ps : List Str} {k n m l : Nat} {g : En → Option Out} (F : Fun K x qual st f fd) (S : FnScope N ps (defScope st)) (hn : N.length = n) (hm : ps.length = m) (hl : names.length = l)
    (hb : ∀ (cdv : Value) (A : Around) (outer : List Env) (s : Shared) (H : Hp) (E : XK) (p : Addr), Room k (A.deeper (envOfC qual (defScope st) s.heap.objs.size f cdv)) → DSs (cxOf CX0 P w K mg base N qual (defScope st) f cdv A outer s H E).nox (FR K ⟨C, names, 0, n, p⟩) (defBody st) g) :
    FnOk P w K mg base CX0 (k + 1) f fd ps (spM K C names (runM n m l g)) := by
  subst hn hm hl
  have hpl : ps.length ≤ N.length := by have := congrArg List.length S.pre; rw [List.length_take] at this; omega
  refine F.ok S (fun vs H Q E h => ?_) fun cdv A outer s H vs Q E hr h => ?_
  · obtain ⟨HB, H0, p, vals, φ, ds, φ', d, vs', rfl, s1, s2, oa, er, hr, hf, _⟩ := h
    unfold runM at hf
    split at hf
    · rename_i hl
      rw [List.length_cons, hr.length]
      exact hl.1
    · cases hf
  · obtain ⟨HB, H0, p, vals, φ, ds, φ', d, vs', rfl, s1, s2, oa, er, hr', hf, q⟩ := h
    obtain ⟨t, ht, rs⟩ := hb cdv A outer s H E p hr
    refine ⟨t, ht, ?_⟩
    have hr := hr'
    unfold runM at hf
    split at hf
    · rename_i hl
      obtain ⟨o, ho, hf⟩ := Option.bind_eq_some_iff.mp hf
      have hvl := hr.length
      have ls : (L2.start N (.ref p :: vs')).length = N.length := by
        unfold L2.start
        simp only [List.length_append, List.length_map, List.length_replicate, List.length_cons]
        omega
      refine rs HB H0 _ _ H0 H ⟨s1, Same.refl _, s2, fun _ _ _ h => h⟩ ⟨⟨ls, p, vals, rfl, rfl, oa, er_self (by omega) hr er⟩⟩ o ho _ ?_
      have fin : ∀ {σ : L2.St} {H1 J1 : Hp} {ρ : En} {v : V} {dd : PyData}, Ext H0 HB H1 J1 → ST (FR K ⟨C, names, 0, N.length, p⟩) HB H1 J1 σ ρ → Rep K H1 v dd → (ρ.drop N.length, dd) = (φ', d) → Q v J1 := by
        intro σ H1 J1 ρ v dd x e r he
        obtain ⟨h1, p', vals', hpp, h2, h3, h4⟩ := e.r
        cases he
        cases hpp
        refine q v H1 J1 vals' x h3 ⟨?_, fun i s hs => ?_, fun i j a xs ys hij g1 g2 g3 g4 => ?_⟩ r
        · have := h4.len
          rw [List.length_append, h1] at this
          rw [List.length_drop]
          show _ = _ - _
          have hh : (⟨C, names, 0, N.length, p⟩ : OD).n = N.length := rfl
          omega
        · rw [List.getElem?_drop] at hs
          obtain ⟨w, e1, e2⟩ := h4.get _ _ hs
          rw [List.getElem?_append_right (by rw [h1]; exact Nat.le_add_right _ _), h1] at e1
          refine ⟨w, ?_, e2⟩
          have hh : (⟨C, names, 0, N.length, p⟩ : OD).n = N.length := rfl
          rw [hh, Nat.add_sub_cancel_left] at e1
          exact e1
        · have si : ∀ i : Nat, (σ ++ vals')[N.length + i]? = vals'[i]? := fun i => by
            have hh : (⟨C, names, 0, N.length, p⟩ : OD).n = N.length := rfl
            rw [List.getElem?_append_right (by rw [h1]; exact Nat.le_add_right _ _), h1, hh, Nat.add_sub_cancel_left]
          rw [List.getElem?_drop] at g1 g2
          exact h4.apart _ _ a xs ys (by omega) g1 g2 (by rw [si]; exact g3) (by rw [si]; exact g4)
      cases o with
      | rt r ρ =>
        cases r with
        | val dd => exact fun v σ H1 J1 a b c => fin a b c (Option.some.inj hf)
        | own _ => cases hf
      | nx ρ => exact fun σ H1 J1 a b => fin (v := .non) a b .none (Option.some.inj hf)
      | bk _ => cases hf
      | ct _ => cases hf
    · cases hf
end
end
end Dm

set_option Elab.async false
set_option linter.all false
set_option maxRecDepth 100000
set_option maxHeartbeats 4000000
namespace Dm
open PySem PySem.Spec PyProof.Rows L2 Tf
section
variable {K : PySem.W.Frag} {C : Addr} {names : List Str} {R : Rl} [RelOk K R]
/-! ### an expression that gives a new object -/
def RB (K : PySem.W.Frag) (R : Rl) (C : Addr) (names : List Str) (te : TE) (fo : En → Option En) : Prop :=
  ∀ (HB : Hp) (σ : L2.St) (ρ : En) (H0 H : Hp), Same H0 H → ST R HB H0 H σ ρ → ∀ φ, fo ρ = some φ → ∀ Q : VK, (∀ p vals H0' H', Ext H0 H H0' H' → OA C names H H0' H' p vals → ER K H H0' H' vals φ → Q (.ref p) H') → te σ H Q
def mMake (k : Nat) (F : En → List PyData → Option (En × PyData)) (fa : En → Option (List PyData)) : En → Option En := fun ρ => (fa ρ).bind fun ds => (F (List.replicate k none) ds).bind fun r => match r.2 with
  | .none => some r.1
  | _ => none
theorem rb_make {ta : TA} {fa : En → Option (List PyData)} {F : En → List PyData → Option (En × PyData)} {E : XK} {k : Nat} (hk : k = names.length) (h : RA K R ta fa) : RB K R C names (tMake C (spM K C names F) [] E ta) (mMake k F fa) := fun HB σ ρ H0 H s e φ hφ Q q => by
  subst hk
  obtain ⟨ds, hd, hφ⟩ := Option.bind_eq_some_iff.mp hφ
  obtain ⟨⟨φ', d⟩, hF, hφ⟩ := Option.bind_eq_some_iff.mp hφ
  have hdn : d = .none ∧ φ' = φ := by
    cases d with
    | none => cases hφ; exact ⟨rfl, rfl⟩
    | _ => cases hφ
  obtain ⟨rfl, rfl⟩ := hdn
  refine h HB σ ρ H0 H s e ds hd _ fun vs H1 J1 x1 p1 => ?_
  intro x dx hx hdx hne
  rw [List.append_nil]
  have s1 : Same J1 (upd (upd J1 dx (.own x)) x (.ins C dx [])) := fun b u hb => by rw [upd_ne (ne_of_none hb hx), upd_ne (ne_of_none hb hdx)]; exact hb
  refine ⟨J1, H1, x, List.replicate names.length none, List.replicate names.length none, ds, φ', .none, vs, rfl, s1, x1.s1.trans s1, ⟨hx, x1.s1.free hx, List.length_replicate, dx, [], upd_same, Nat.zero_le _, fun j f hj => ?_, fun f _ => rfl⟩, ⟨by rw [List.length_replicate, List.length_replicate], fun i r hr => ?_, fun i j a xs ys _ g1 _ _ _ => ?_⟩, p1, hF, fun v H2 J2 vals' x2 o2 e2 r2 => ⟨?_, ?_⟩⟩
  · show none = _
    rw [List.getElem?_replicate]
    split <;> rfl
  · rw [List.getElem?_replicate] at hr
    split at hr <;> cases hr
  · rw [List.getElem?_replicate] at g1
    split at g1 <;> cases g1
  · cases r2; rfl
  · exact q x vals' H2 J2 (x1.trans x2) (o2.base x1.s) (e2.base x1.s)
/-- a def that gives a new object -/
def spO (K : PySem.W.Frag) (C : Addr) (names : List Str) (F : List PyData → Option En) : Sp := fun vs H Q _ => ∃ H0 ds φ, Same H0 H ∧ Reps K H0 vs ds ∧ F ds = some φ ∧ ∀ p vals H0' H', Ext H0 H H0' H' → OA C names H H0' H' p vals → ER K H H0' H' vals φ → Q (.ref p) H'
def mCallO (F : List PyData → Option En) (fa : En → Option (List PyData)) : En → Option En := fun ρ => (fa ρ).bind F
theorem rb_call {ta : TA} {fa : En → Option (List PyData)} {F : List PyData → Option En} {E : XK} (h : RA K R ta fa) : RB K R C names (tCall (spO K C names F) [] E ta) (mCallO F fa) := fun HB σ ρ H0 H s e φ hφ Q q => by
  obtain ⟨ds, hd, hφ⟩ := Option.bind_eq_some_iff.mp hφ
  refine h HB σ ρ H0 H s e ds hd _ fun vs H1 J1 x1 p1 => ?_
  rw [List.append_nil]
  exact ⟨H1, ds, φ, x1.s1, p1, hφ, fun p vals H2 J2 x2 o2 e2 => q p vals H2 J2 (x1.trans x2) (o2.base x1.s) (e2.base x1.s)⟩
/-- an attribute of it -/
def mFldO (j : Nat) (fo : En → Option En) : En → Option Sl := fun ρ => (fo ρ).bind fun φ => (φ[j]?).join
theorem re_fldO {te : TE} {fo : En → Option En} {j : Nat} {f : Str} (hc : Cls K C) (hn : NoAttr K C f) (hj : names[j]? = some f) (h : RB K R C names te fo) : RE K R (tFld K te f) (mFldO j fo) := fun HB σ ρ H0 H s e r hr Q q => by
  obtain ⟨φ, hφ, hr⟩ := Option.bind_eq_some_iff.mp hr
  refine h HB σ ρ H0 H s e φ hφ _ fun p vals H1 J1 x1 o1 e1 => ?_
  obtain ⟨v, h1, h2⟩ := e1.get _ _ (join_some hr)
  obtain ⟨dx, fs, q1, q2, q3, q4⟩ := o1.ins
  exact ⟨p, C, dx, fs, v, rfl, q1, hc, hn, by rw [q3 j f hj, h1]; rfl, q v H1 J1 x1 h2⟩
section
variable {P : Program} {w : World} {mg : Str → Option Value} {base : Heap}
def DB (X : Cx) (R : Rl) (C : Addr) (names : List Str) (e : Expr) (fo : En → Option En) : Prop := ∃ te, PE X e te ∧ RB X.K R C names te fo
def runO (n m : Nat) (fo : En → Option En) : List PyData → Option En := fun ds => if ds.length = m then fo (ds.map (fun d => some (.val d)) ++ List.replicate (n - ds.length) none) else none
/-- def f(..): return <a new object> -/
theorem fnO {x qual : Str} {st : Stmt} {f : Addr} {fd : FuncData} {N ps : List Str} {k n m : Nat} {fo : En → Option En} {e : Expr} {pos : Pos} (F : Fun K x qual st f fd) (S : FnScope N ps (defScope st)) (hn : N.length = n) (hm : ps.length = m) (hst : defBody st = [.Return (some e) pos])
    (hb : ∀ (cdv : Value) (A : Around) (outer : List Env) (s : Shared) (H : Hp) (E : XK), Room k (A.deeper (envOfC qual (defScope st) s.heap.objs.size f cdv)) → DB (cxOf CX0 P w K mg base N qual (defScope st) f cdv A outer s H E).nox (PR K) C names e fo) :
    FnOk P w K mg base CX0 (k + 1) f fd ps (spO K C names (runO n m fo)) := by
  subst hn hm
  refine F.ok S (fun vs H Q E h => ?_) fun cdv A outer s H vs Q E hr h => ?_
  · obtain ⟨H0, ds, φ, s, hr, hf, _⟩ := h
    unfold runO at hf
    split at hf
    · rename_i hl
      rw [hr.length, hl]
    · cases hf
  · obtain ⟨t, ht, rb⟩ := hb cdv A outer s H E hr
    refine ⟨_, by rw [hst]; exact pss_one (ps_ret ht), ?_⟩
    obtain ⟨H0, ds, φ, s0, hr, hf, q⟩ := h
    unfold runO at hf
    split at hf
    · exact rb H _ _ H0 H s0 ⟨er_start hr⟩ φ hf _ fun p vals H1 J1 x1 o1 e1 => q p vals H1 J1 x1 o1 e1
    · cases hf
end
/-- x = <a new object>; the rest, with it -/
def mObj (n s : Nat) (fo : En → Option En) (g : En → Option Out) : En → Option Out := fun ρ => if ρ.length = n then (fo ρ).bind fun φ => (g (ρ.set s none ++ φ)).bind fun o => match o with
  | .rt r _ => some (.rt r (List.replicate ρ.length none))
  | _ => none else none
theorem er_none {HB H0 H : Hp} {σ : L2.St} {n : Nat} (h : σ.length = n) : ER K HB H0 H σ (List.replicate n none) :=
  ⟨by rw [List.length_replicate]; exact h, fun i r hr => (by rw [List.getElem?_replicate] at hr; split at hr <;> cases hr), fun i j a xs ys _ g1 _ _ _ => (by rw [List.getElem?_replicate] at g1; split at g1 <;> cases g1)⟩
theorem rs_obj {te : TE} {tr : TS} {fo : En → Option En} {g : En → Option Out} {s n : Nat} (h : RB K (PR K) C names te fo) (hr : ∀ p : Addr, RS K (FR K ⟨C, names, s, n, p⟩) tr g) (hs : s < n) : RS K (PR K) (tSeq (tAsg te (gName s)) tr) (mObj n s fo g) := fun HB S0 σ ρ H0 H x e o ho D d => by
  unfold mObj at ho
  split at ho
  · rename_i hlen
    obtain ⟨φ, hφ, ho⟩ := Option.bind_eq_some_iff.mp ho
    obtain ⟨o1, ho1, ho⟩ := Option.bind_eq_some_iff.mp ho
    have hσ : σ.length = n := by rw [← hlen]; exact e.r.len
    refine h HB σ ρ H0 H x.s1 e φ hφ _ fun p vals H1 J1 x1 oa er => ?_
    have e1 : ER K HB H1 J1 σ ρ := ER.ext x1 e.r
    have xx := x.chain x1
    have ob : OA C names HB H1 J1 p vals := oa.base x.s
    have eb : ER K HB H1 J1 vals φ := er.base x.s
    have lf : vals.length = φ.length := er.len
    have nown : ∀ (i : Nat) r, (ρ.set s none)[i]? = some (some r) → i ≠ s ∧ ρ[i]? = some (some r) := by
      intro i r hi
      by_cases z : s = i
      · subst z
        rw [List.getElem?_set_self'] at hi
        cases hq : ρ[s]? with
        | none => rw [hq] at hi; cases hi
        | some _ => rw [hq] at hi; cases hi
      · rw [List.getElem?_set_ne z] at hi
        exact ⟨fun w => z w.symm, hi⟩
    have old : ∀ (i : Nat) xs a, ρ[i]? = some (some (.own xs)) → σ[i]? = some (some (.ref a)) → ∃ u, H a = some u := by
      intro i xs a k1 k2
      obtain ⟨v, g1, b, ws, rfl, _, _, g2, _⟩ := ER.get e.r i _ k1
      rw [k2] at g1
      cases g1
      exact ⟨_, g2⟩
    have new : ∀ (j : Nat) ys a, φ[j]? = some (some (.own ys)) → vals[j]? = some (some (.ref a)) → H a = none := by
      intro j ys a k1 k2
      obtain ⟨v, g1, b, ws, rfl, g2, _⟩ := er.get j _ k1
      rw [k2] at g1
      cases g1
      exact g2
    have l1 : (ρ.set s none).length = n := by rw [List.length_set, hlen]
    have l2 : (σ.set s (some (V.ref p))).length = n := by rw [List.length_set, hσ]
    refine hr p HB S0 _ _ H1 J1 xx ⟨⟨l2, p, vals, rfl, ?_, ob, ?_, fun i r hi => ?_, fun i j a xs ys hij g1 g2 g3 g4 => ?_⟩⟩ o1 ho1 D ?_
    · show (σ.set s (some (V.ref p)))[s]? = _
      rw [List.getElem?_set_self (by rw [hσ]; exact hs)]
    · rw [List.length_append, List.length_append, l1, l2, lf]
    · by_cases hin : i < n
      · rw [List.getElem?_append_left (by omega)] at hi ⊢
        obtain ⟨z, hi⟩ := nown i r hi
        obtain ⟨v, g1, g2⟩ := e1.get i r hi
        exact ⟨v, by rw [List.getElem?_set_ne (fun w => z w.symm)]; exact g1, g2⟩
      · rw [List.getElem?_append_right (by omega), l1] at hi
        rw [List.getElem?_append_right (by omega), l2]
        exact eb.get _ r hi
    · have mixed : ∀ (i j : Nat) xs ys, i < n → n ≤ j → (ρ.set s none ++ φ)[i]? = some (some (.own xs)) → (ρ.set s none ++ φ)[j]? = some (some (.own ys)) → (σ.set s (some (V.ref p)) ++ vals)[i]? = some (some (.ref a)) → (σ.set s (some (V.ref p)) ++ vals)[j]? ≠ some (some (.ref a)) := by
        intro i j xs ys hi hj g1 g2 g3 g4
        rw [List.getElem?_append_left (by omega)] at g1 g3
        rw [List.getElem?_append_right (by omega), l1] at g2
        rw [List.getElem?_append_right (by omega), l2] at g4
        obtain ⟨z, g1⟩ := nown i _ g1
        rw [List.getElem?_set_ne (fun w => z w.symm)] at g3
        obtain ⟨u, k1⟩ := old i xs a g1 g3
        rw [new _ ys a g2 g4] at k1
        cases k1
      by_cases hi : i < n
      · by_cases hj : j < n
        · rw [List.getElem?_append_left (by omega)] at g1 g2 g3 g4
          obtain ⟨z1, g1⟩ := nown i _ g1
          obtain ⟨z2, g2⟩ := nown j _ g2
          rw [List.getElem?_set_ne (fun w => z1 w.symm)] at g3
          rw [List.getElem?_set_ne (fun w => z2 w.symm)] at g4
          exact e1.apart i j a xs ys hij g1 g2 g3 g4
        · exact mixed i j xs ys hi (by omega) g1 g2 g3 g4
      · by_cases hj : j < n
        · exact mixed j i ys xs hj (by omega) g2 g1 g4 g3
        · rw [List.getElem?_append_right (by omega), l1] at g1 g2
          rw [List.getElem?_append_right (by omega), l2] at g3 g4
          exact eb.apart _ _ a xs ys (by omega) g1 g2 g3 g4
    · cases o1 with
      | rt r ρ' =>
        cases ho
        exact fun v σ' H2 J2 a b c => d v σ' H2 J2 a ⟨by rw [hlen]; exact er_none b.r.1⟩ c
      | nx _ => cases ho
      | bk _ => cases ho
      | ct _ => cases ho
  · cases ho
/-! ### comprehensions in such a frame -/
variable {od : OD}
theorem fr_sub0 {ix : List (Option Nat)} (hx : (ix.filterMap id).Nodup := by decide) (hn : (ix.all fun o => match o with | some j => decide (j < od.n) | none => true) = true := by rfl) : ∀ (HB : Hp) (σ : L2.St) (ρ : En) (H0 H : Hp), (FR K od).r HB H0 H σ ρ → (PR K).r (fun _ => none) H0 H (subS ix σ) (subE ix ρ) := fun HB σ ρ H0 H e => by
  obtain ⟨h1, p, vals, hpp, h2, h3, h4⟩ := e
  have e := ER.sub hx h4
  have : subS ix (σ ++ vals) = subS ix σ := by
    unfold subS
    refine List.map_congr_left fun o ho => ?_
    cases o with
    | none => rfl
    | some j =>
      have := List.all_eq_true.mp hn _ ho
      have hj : j < od.n := by simpa using this
      show ((σ ++ vals)[j]?).join = _
      rw [List.getElem?_append_left (by omega)]
  rw [this] at e
  exact e
def subF (ix : List (Option Nat)) (n : Nat) (ρ : En) : En := subE ix ρ ++ ρ.drop n
theorem fr_sub {ix : List (Option Nat)} {s' n' : Nat} (hs : ix[s']? = some (some od.s) := by rfl) (hl : ix.length = n' := by rfl) (hx : (ix.filterMap id).Nodup := by decide) (hn : (ix.all fun o => match o with | some j => decide (j < od.n) | none => true) = true := by rfl) :
    ∀ (HB : Hp) (σ : L2.St) (ρ : En) (H0 H : Hp), (FR K od).r HB H0 H σ ρ → (FR K ⟨od.C, od.names, s', n', od.p⟩).r (fun _ => none) H0 H (subS ix σ) (subF ix od.n ρ) := fun HB σ ρ H0 H e => by
  obtain ⟨h1, p, vals, hpp, h2, h3, h4⟩ := e
  have hlt : ∀ (i j : Nat), ix[i]? = some (some j) → j < od.n := fun i j h => by
    have := List.all_eq_true.mp hn _ (List.mem_of_getElem? h)
    simpa using this
  have ls : (subS ix σ).length = n' := by unfold subS; rw [List.length_map, hl]
  have le : (subE ix ρ).length = n' := by unfold subE; rw [List.length_map, hl]
  have lρ : ρ.length = od.n + vals.length := by rw [← h4.len, List.length_append, h1]
  have fi : ∀ (j : Nat), (ρ.drop od.n)[j]? = ρ[od.n + j]? := fun j => List.getElem?_drop
  have si : ∀ (j : Nat), (σ ++ vals)[od.n + j]? = vals[j]? := fun j => by rw [← h1, List.getElem?_append_right (Nat.le_add_right _ _), Nat.add_sub_cancel_left]
  have sg : ∀ (i j : Nat), ix[i]? = some (some j) → (subS ix σ)[i]? = some ((σ ++ vals)[j]?).join := fun i j h => by rw [subS_get h, List.getElem?_append_left (by rw [h1]; exact hlt i j h)]
  refine ⟨ls, p, vals, hpp, ?_, ⟨rfl, h3.h0p, h3.len, h3.ins⟩, ?_, fun i r hi => ?_, fun i k a xs ys hij g1 g2 g3 g4 => ?_⟩
  · show (subS ix σ)[s']? = _
    rw [subS_get hs, h2]
    rfl
  · unfold subF
    rw [List.length_append, List.length_append, ls, le, List.length_drop, lρ]
    omega
  · unfold subF at hi
    by_cases hin : i < n'
    · rw [List.getElem?_append_left (by omega)] at hi ⊢
      obtain ⟨j, k1, k2⟩ := subE_get hi
      obtain ⟨v, k3, k4⟩ := h4.get j r k2
      refine ⟨v, by rw [sg i j k1, k3]; rfl, k4.base fun _ _ h => by cases h⟩
    · rw [List.getElem?_append_right (by omega), le, fi] at hi
      rw [List.getElem?_append_right (by omega), ls]
      obtain ⟨v, k3, k4⟩ := h4.get _ r hi
      rw [si] at k3
      exact ⟨v, k3, k4.base fun _ _ h => by cases h⟩
  · unfold subF at g1 g2
    have mixed : ∀ (i k : Nat) xs ys, i < n' → n' ≤ k → (subE ix ρ ++ ρ.drop od.n)[i]? = some (some (.own xs)) → (subE ix ρ ++ ρ.drop od.n)[k]? = some (some (.own ys)) → (subS ix σ ++ vals)[i]? = some (some (.ref a)) → (subS ix σ ++ vals)[k]? ≠ some (some (.ref a)) := by
      intro i k xs ys hi hk g1 g2 g3 g4
      rw [List.getElem?_append_left (by omega)] at g1 g3
      rw [List.getElem?_append_right (by omega), le, fi] at g2
      rw [List.getElem?_append_right (by omega), ls] at g4
      obtain ⟨j, k1, k2⟩ := subE_get g1
      rw [sg i j k1] at g3
      exact h4.apart j (od.n + (k - n')) a xs ys (by have := hlt i j k1; omega) k2 g2 (join_some (Option.some.inj g3)) (by rw [si]; exact g4)
    by_cases hi : i < n'
    · by_cases hk : k < n'
      · rw [List.getElem?_append_left (by omega)] at g1 g2 g3 g4
        obtain ⟨j, k1, k2⟩ := subE_get g1
        obtain ⟨l, k3, k4⟩ := subE_get g2
        rw [sg i j k1] at g3
        rw [sg k l k3] at g4
        exact h4.apart j l a xs ys (by rintro rfl; exact hij (ix_inj hx k1 k3)) k2 k4 (join_some (Option.some.inj g3)) (join_some (Option.some.inj g4))
      · exact mixed i k xs ys hi (by omega) g1 g2 g3 g4
    · by_cases hk : k < n'
      · exact mixed k i ys xs hk (by omega) g2 g1 g4 g3
      · rw [List.getElem?_append_right (by omega), le, fi] at g1 g2
        rw [List.getElem?_append_right (by omega), ls] at g3 g4
        exact h4.apart _ _ a xs ys (by omega) g1 g2 (by rw [si]; exact g3) (by rw [si]; exact g4)
end
/-! ### the rules, as the generator writes them -/
section
/-- what of the text a class must have; its attributes' names -/
structure Klass (K : PySem.W.Frag) (C : Addr) (names : List Str) : Prop where
  cl : Cls K C
  no : ∀ f ∈ names, NoAttr K C f
structure MDef (P : Program) (w : World) (K : PySem.W.Frag) (mg : Str → Option Value) (base : Heap) (k : Nat) (C : Addr) (m : Str) (ps : List Str) (sp : Sp) : Prop where
  ex : ∃ f fd, FnOk P w K mg base CX0 k f fd ps sp ∧ Meth K C m f ∧ Binds K fd ps []
structure KDef (P : Program) (w : World) (K : PySem.W.Frag) (mg : Str → Option Value) (base : Heap) (k : Nat) (C : Addr) (x : Str) (ps : List Str) (sp : Sp) : Prop where
  ex : ∃ f fd, FnOk P w K mg base CX0 k f fd ps sp ∧ Mk K C f ∧ mg x = some (.ref C) ∧ Binds K fd ps []
variable {X : Cx} {od : OD} {e a : Expr} {es : List Expr} {pos p apos cpos : Pos} {x f m : Str} {fe fa : En → Option Sl} {fs : En → Option (List PyData)} {R : Rl} [RelOk X.K R] {C : Addr} {names : List Str}
theorem dp_fld (j : Nat) (k : Klass X.K od.C od.names) (hN : X.N[od.s]? = some x := by rfl) (hv : Vis X.env.scope x := by first | exact Or.inl rfl | exact Or.inr (Or.inl rfl) | exact Or.inr (Or.inr rfl)) (hj : od.names[j]? = some f := by rfl) (hd : (x == ("__debug__" : Str)) = false := by decide) (hcd : (x == ("__classdict__" : Str)) = false := by decide)
    (hb : attributeBase (.Name x p) f X.env (eval (.Name x p) X.env) = eval (.Name x p) X.env := by rfl) : DP X (FR X.K od) (.Attribute (.Name x p) f pos) (mPk (od.n + j)) :=
  ⟨_, pe_fld (pe_var hN hv hd hcd) hb, rp_fld k.cl (k.no f (List.mem_of_getElem? hj)) hj⟩
theorem de_fld (j : Nat) (k : Klass X.K od.C od.names) (hN : X.N[od.s]? = some x := by rfl) (hv : Vis X.env.scope x := by first | exact Or.inl rfl | exact Or.inr (Or.inl rfl) | exact Or.inr (Or.inr rfl)) (hj : od.names[j]? = some f := by rfl) (hd : (x == ("__debug__" : Str)) = false := by decide) (hcd : (x == ("__classdict__" : Str)) = false := by decide)
    (hb : attributeBase (.Name x p) f X.env (eval (.Name x p) X.env) = eval (.Name x p) X.env := by rfl) : DE X (FR X.K od) (.Attribute (.Name x p) f pos) (mVar (od.n + j)) :=
  ⟨_, pe_fld (pe_var hN hv hd hcd) hb, re_fld k.cl (k.no f (List.mem_of_getElem? hj)) hj⟩
theorem ds_fld (j : Nat) {pos' : Pos} (k : Klass X.K od.C od.names) (h : DE X (FR X.K od) e fe) (hN : X.N[od.s]? = some x := by rfl) (hv : Vis X.env.scope x := by first | exact Or.inl rfl | exact Or.inr (Or.inl rfl) | exact Or.inr (Or.inr rfl)) (hj : od.names[j]? = some f := by rfl) (hd : (x == ("__debug__" : Str)) = false := by decide) (hcd : (x == ("__classdict__" : Str)) = false := by decide)
    (hs : swapsWith e (some (.Attribute (.Name x p) f pos')) pos.line X.env = pure false := by rfl) (hnd : od.names.Nodup := by exact of_decide_eq_true rfl) (hlt : od.names.length < 1000 := by exact of_decide_eq_true rfl) : DS X (FR X.K od) (.Assign [.Attribute (.Name x p) f pos'] e pos) (mAsg (od.n + j) fe) := by
  obtain ⟨t, h1, h2⟩ := h
  exact ⟨_, ps_fld (pe_var hN hv hd hcd) h1 hs, rs_fld k.cl (k.no f (List.mem_of_getElem? hj)) hj hnd hlt h2⟩
theorem ds_appF (j : Nat) {p3 : Pos} (k : Klass X.K od.C od.names) (h : DE X (FR X.K od) e fe) (hN : X.N[od.s]? = some x := by rfl) (hv : Vis X.env.scope x := by first | exact Or.inl rfl | exact Or.inr (Or.inl rfl) | exact Or.inr (Or.inr rfl)) (hj : od.names[j]? = some f := by rfl) (hd : (x == ("__debug__" : Str)) = false := by decide) (hcd : (x == ("__classdict__" : Str)) = false := by decide)
    (hb : attributeBase (.Name x p) f X.env (eval (.Name x p) X.env) = eval (.Name x p) X.env := by rfl)
    (hst : starEach [e] X.env = (false, eval e X.env) :: starEach [] X.env := by rfl) (hbase : attributeBase (.Attribute (.Name x p) f p3) "append" X.env (eval (.Attribute (.Name x p) f p3) X.env) = eval (.Attribute (.Name x p) f p3) X.env := by rfl)
    (hfew : ((backTo cpos (starEach [e] X.env)).all (fun x => !x.1) && (backToKw cpos (keywordEach [] X.env)).all (fun x => x.1.isSome) && decide ([e].length + ([] : List Keyword).length + (if ([] : List Keyword).isEmpty then 0 else 1) < 30)) = true := by rfl)
    (hline : (apos.endLine == cpos.line) = true := by rfl) (hplain : (backTo cpos (starEach [] X.env)).any (·.1) = false := by rfl)
    (hs : swapsWith (.Call (.Attribute (.Attribute (.Name x p) f p3) "append" apos) [e] [] cpos) none pos.line X.env = pure false := by rfl) : DS X (FR X.K od) (.Expr (.Call (.Attribute (.Attribute (.Name x p) f p3) "append" apos) [e] [] cpos) pos) (mApp (od.n + j) fe) := by
  obtain ⟨t, h1, h2⟩ := h
  exact ⟨_, ps_expr (pe_bm PySem.F.plainAttrs_list PySem.F.slot_list_append PySem.F.type_list_append mt_append (pe_fld (pe_var hN hv hd hcd) hb) (pa_cons h1 pa_nil hst) hbase hfew hline hst hplain) hs, rs_appF k.cl (k.no f (List.mem_of_getElem? hj)) hj h2⟩
theorem ds_setF (j : Nat) {p3 ps : Pos} (k : Klass X.K od.C od.names) (h : DE X (FR X.K od) e fe) (hi : DP X (FR X.K od) a fa) (hN : X.N[od.s]? = some x := by rfl) (hv : Vis X.env.scope x := by first | exact Or.inl rfl | exact Or.inr (Or.inl rfl) | exact Or.inr (Or.inr rfl)) (hj : od.names[j]? = some f := by rfl) (hd : (x == ("__debug__" : Str)) = false := by decide) (hcd : (x == ("__classdict__" : Str)) = false := by decide)
    (hb : attributeBase (.Name x p) f X.env (eval (.Name x p) X.env) = eval (.Name x p) X.env := by rfl)
    (ha : ∀ v, assign (.Subscript (.Attribute (.Name x p) f p3) a ps) X.env v = (do
      let ov ← holding [v] (eval (.Attribute (.Name x p) f p3) X.env)
      let iv ← holding [v, ov] (eval a X.env)
      standAt ps
      holding [v, ov, iv] (setItem ov iv v)
      release [v, ov, iv] []) := by intro _; rfl)
    (hs : swapsWithSole [.Subscript (.Attribute (.Name x p) f p3) a ps] e pos.line X.env = pure false := by rfl) (hw : swappedStores [.Subscript (.Attribute (.Name x p) f p3) a ps] e X.env = pure none := by rfl) (h1 : (assignEach [.Subscript (.Attribute (.Name x p) f p3) a ps] X.env).map (·.2) = [assign (.Subscript (.Attribute (.Name x p) f p3) a ps) X.env] := by rfl) :
    DS X (FR X.K od) (.Assign [.Subscript (.Attribute (.Name x p) f p3) a ps] e pos) (mSet (od.n + j) fa fe) := by
  obtain ⟨t, a1, a2⟩ := h; obtain ⟨u, b1, b2⟩ := hi
  exact ⟨_, ps_asg a1 (pg_sub (pe_fld (pe_var hN hv hd hcd) hb) b1 set_list ha) hs hw h1, rs_setF k.cl (k.no f (List.mem_of_getElem? hj)) hj a2 b2⟩
variable {ps : List Str} {kk jj : Nat} {F : En → List PyData → Option (En × PyData)}
theorem ds_methE {pl : Sem Bool} (M : MDef X.prog X.w X.K X.mg X.base jj od.C m ps (spM X.K od.C od.names F)) (k : Klass X.K od.C od.names) (hr : Room kk X.A) (h : DA X (FR X.K od) (e :: es) fs) (hjj : jj ≤ kk := by decide) (hm : m ∉ od.names := by exact of_decide_eq_true rfl) (hN : X.N[od.s]? = some x := by rfl) (hv : Vis X.env.scope x := by first | exact Or.inl rfl | exact Or.inr (Or.inl rfl) | exact Or.inr (Or.inr rfl)) (hd : (x == ("__debug__" : Str)) = false := by decide) (hcd : (x == ("__classdict__" : Str)) = false := by decide)
    (hst : starEach (e :: es) X.env = (false, eval e X.env) :: starEach es X.env := by rfl) (hpl : (backTo cpos (starEach es X.env)).any (·.1) = false := by rfl)
    (ht : eval (.Call (.Attribute (.Name x p) m apos) (e :: es) [] cpos) X.env = (do
      let ov ← eval (.Name x p) X.env
      standAt apos.atName
      let (f, first) ← holding [ov] (getMethod ov m pl)
      callWith cpos f first (backTo cpos (starEach (e :: es) X.env)) (backToKw cpos (keywordEach [] X.env))) := by rfl)
    (hs : swapsWith (.Call (.Attribute (.Name x p) m apos) (e :: es) [] cpos) none pos.line X.env = pure false := by rfl) : DS X (FR X.K od) (.Expr (.Call (.Attribute (.Name x p) m apos) (e :: es) [] cpos) pos) (mMeth od.n F fs fun ρ _ => some (.nx ρ)) := by
  obtain ⟨t, h1, h2⟩ := h
  obtain ⟨f, fd, F1, M1, b1⟩ := M.ex
  exact ⟨_, ps_expr (pe_meth (pl := pl) (pe_var hN hv hd hcd) k.cl M1 F1 (hr.mono hjj) b1 .nil pass0 h1 hst hpl ht) hs, rs_methE hm h2⟩
theorem ds_methA (i : Nat) {pl : Sem Bool} {y : Str} {pos' : Pos} (M : MDef X.prog X.w X.K X.mg X.base jj od.C m ps (spM X.K od.C od.names F)) (k : Klass X.K od.C od.names) (hr : Room kk X.A) (h : DA X (FR X.K od) (e :: es) fs) (hnd : X.N.Nodup) (hjj : jj ≤ kk := by decide) (hm : m ∉ od.names := by exact of_decide_eq_true rfl) (hN : X.N[od.s]? = some x := by rfl) (hv : Vis X.env.scope x := by first | exact Or.inl rfl | exact Or.inr (Or.inl rfl) | exact Or.inr (Or.inr rfl)) (hd : (x == ("__debug__" : Str)) = false := by decide) (hcd : (x == ("__classdict__" : Str)) = false := by decide)
    (hst : starEach (e :: es) X.env = (false, eval e X.env) :: starEach es X.env := by rfl) (hpl : (backTo cpos (starEach es X.env)).any (·.1) = false := by rfl)
    (ht : eval (.Call (.Attribute (.Name x p) m apos) (e :: es) [] cpos) X.env = (do
      let ov ← eval (.Name x p) X.env
      standAt apos.atName
      let (f, first) ← holding [ov] (getMethod ov m pl)
      callWith cpos f first (backTo cpos (starEach (e :: es) X.env)) (backToKw cpos (keywordEach [] X.env))) := by rfl)
    (hi : X.N[i]? = some y := by rfl) (hx : Loc X.env.scope y := by first | exact Or.inl rfl | exact Or.inr rfl) (hs : swapsWith (.Call (.Attribute (.Name x p) m apos) (e :: es) [] cpos) (some (.Name y pos')) pos.line X.env = pure false := by rfl) (hf : X.fn y = true ∨ X.env.scope.names.lookup y = some .local := by first | exact .inl rfl | exact .inr rfl)
    (hsl : (FR X.K od).slot i := by exact ⟨of_decide_eq_true rfl, of_decide_eq_true rfl⟩) : DS X (FR X.K od) (.Assign [.Name y pos'] (.Call (.Attribute (.Name x p) m apos) (e :: es) [] cpos) pos) (mMeth od.n F fs fun ρ d => some (.nx (ρ.set i (some (.val d))))) := by
  obtain ⟨t, h1, h2⟩ := h
  obtain ⟨f, fd, F1, M1, b1⟩ := M.ex
  exact ⟨_, ps_set hnd hi hx (pe_meth (pl := pl) (pe_var hN hv hd hcd) k.cl M1 F1 (hr.mono hjj) b1 .nil pass0 h1 hst hpl ht) hs hf, rs_methA hsl hm h2⟩
theorem db_make {l : Nat} (M : KDef X.prog X.w X.K X.mg X.base jj C x ps (spM X.K C names F)) (hr : Room kk X.A) (h : DA X R (e :: es) fs) (hl : l = names.length := by rfl) (hjj : jj + 1 ≤ kk := by decide) (hg : Gl X x := by rfl) (hdb : (x == ("__debug__" : Str)) = false := by decide) (he : starEach (e :: es) X.env = (false, eval e X.env) :: starEach es X.env := by rfl) (hpl : (backTo pos (starEach es X.env)).any (·.1) = false := by rfl) :
    DB X R C names (.Call (.Name x p) (e :: es) [] pos) (mMake l F fs) := by
  obtain ⟨t, h1, h2⟩ := h
  obtain ⟨f, fd, F1, M1, m1, b1⟩ := M.ex
  exact ⟨_, pe_make M1 F1 (hr.mono hjj) hg m1 b1 .nil pass0 h1 hdb he hpl, rb_make hl h2⟩
theorem db_call {G : List PyData → Option En} (D : Tf.Def X.prog X.w X.K X.mg X.base jj x ps (spO X.K C names G)) (hr : Room kk X.A) (h : DA X R (e :: es) fs) (hj : jj ≤ kk := by decide) (hg : Gl X x := by rfl)
    (hdb : (x == ("__debug__" : Str)) = false := by decide) (he : starEach (e :: es) X.env = (false, eval e X.env) :: starEach es X.env := by rfl) (hpl : (backTo pos (starEach es X.env)).any (·.1) = false := by rfl) : DB X R C names (.Call (.Name x p) (e :: es) [] pos) (mCallO G fs) := by
  obtain ⟨t, h1, h2⟩ := h
  exact ⟨_, pe_callD D hr h1 hj hg hdb he hpl, rb_call h2⟩
theorem de_fldO (j : Nat) {fo : En → Option En} (k : Klass X.K C names) (h : DB X R C names e fo) (hj : names[j]? = some f := by rfl) (hb : attributeBase e f X.env (eval e X.env) = eval e X.env := by rfl) : DE X R (.Attribute e f pos) (mFldO j fo) := by
  obtain ⟨t, h1, h2⟩ := h
  exact ⟨_, pe_fld h1 hb, re_fldO k.cl (k.no f (List.mem_of_getElem? hj)) hj h2⟩
theorem dss_obj (s n : Nat) {fo : En → Option En} {g : En → Option Out} {rest : List Stmt} {pos' : Pos} (h : DB X (PR X.K) C names e fo) (hr : ∀ p : Addr, DSs X (FR X.K ⟨C, names, s, n, p⟩) rest g) (hnd : X.N.Nodup) (hsn : s < n := by decide) (hi : X.N[s]? = some x := by rfl) (hx : Loc X.env.scope x := by first | exact Or.inl rfl | exact Or.inr rfl)
    (hs : swapsWith e (some (.Name x pos')) pos.line X.env = pure false := by rfl) (hf : X.fn x = true ∨ X.env.scope.names.lookup x = some .local := by first | exact .inl rfl | exact .inr rfl) : DSs X (PR X.K) (.Assign [.Name x pos'] e pos :: rest) (mObj n s fo g) := by
  obtain ⟨t, h1, h2⟩ := h
  refine ⟨_, pss_cons (ps_set hnd hi hx h1 hs hf) (u := fun D σ H => ∃ p, (hr p).choose D σ H) (fun pins s σ H D I ⟨p, hp⟩ => (hr p).choose_spec.1 pins s σ H D I hp), rs_obj h2 (fun p => ?_) hsn⟩
  exact fun HB S0 σ ρ H0 H x e o ho D d => ⟨p, (hr p).choose_spec.2 HB S0 σ ρ H0 H x e o ho D d⟩
end
end Dm

set_option Elab.async false
set_option linter.all false
set_option maxRecDepth 100000
set_option maxHeartbeats 4000000
namespace Dm
open PySem PySem.Spec L2 Tf
/-! ### loops and comprehensions over data, by an invariant -/
theorem forM_list {fg : PyData → En → Option En} {gb : En → Option Out} {ds : List PyData} {ρ : En} (P : Nat → En → Prop) (h0 : P 0 ρ)
    (hs : ∀ (i : Nat) d ρ, ds[i]? = some d → P i ρ → ∃ ρ1, fg d ρ = some ρ1 ∧ ∃ ρ2, (gb ρ1 = some (.nx ρ2) ∨ gb ρ1 = some (.ct ρ2)) ∧ P (i + 1) ρ2) : ∃ ρ', forM fg gb ds ρ = some (.nx ρ') ∧ P ds.length ρ' := by
  induction ds generalizing ρ P with
  | nil => exact ⟨ρ, rfl, h0⟩
  | cons d ds ih =>
    obtain ⟨ρ1, h1, ρ2, h2, h3⟩ := hs 0 d ρ rfl h0
    obtain ⟨ρ', h4, h5⟩ := ih (ρ := ρ2) (fun i => P (i + 1)) h3 (fun i d' ρ hi hp => hs (i + 1) d' ρ (by simpa using hi) hp)
    refine ⟨ρ', ?_, h5⟩
    unfold forM
    rw [h1]
    show Option.bind (gb ρ1) _ = _
    rcases h2 with h2 | h2 <;> (rw [h2]; exact h4)
theorem forM_range {fg : PyData → En → Option En} {gb : En → Option Out} {lo : Int} {n : Nat} {ρ : En} (P : Nat → En → Prop) (h0 : P 0 ρ)
    (hs : ∀ (i : Nat) ρ, i < n → P i ρ → ∃ ρ1, fg (.int (lo + (i : Nat))) ρ = some ρ1 ∧ ∃ ρ2, (gb ρ1 = some (.nx ρ2) ∨ gb ρ1 = some (.ct ρ2)) ∧ P (i + 1) ρ2) : ∃ ρ', forM fg gb (rngD lo n) ρ = some (.nx ρ') ∧ P n ρ' := by
  have h := forM_list (fg := fg) (gb := gb) (ds := rngD lo n) (ρ := ρ) P h0 (fun i d ρ hi hp => by
    rw [rngD_get] at hi
    split at hi
    · rename_i hlt
      cases hi
      exact hs i ρ hlt hp
    · cases hi)
  have hl : (rngD lo n).length = n := by simp [rngD]
  rw [hl] at h
  exact h
/-- a loop that may leave -/
theorem forM_find {fg : PyData → En → Option En} {gb : En → Option Out} {lo : Int} {n : Nat} {ρ : En} (P : Nat → En → Prop) (Z : Out → Prop) (h0 : P 0 ρ)
    (hs : ∀ (i : Nat) ρ, i < n → P i ρ → ∃ ρ1, fg (.int (lo + (i : Nat))) ρ = some ρ1 ∧ ((∃ ρ2, gb ρ1 = some (.nx ρ2) ∧ P (i + 1) ρ2) ∨ ∃ r ρ2, gb ρ1 = some (.rt r ρ2) ∧ Z (.rt r ρ2))) : (∃ ρ', forM fg gb (rngD lo n) ρ = some (.nx ρ') ∧ P n ρ') ∨ ∃ o, forM fg gb (rngD lo n) ρ = some o ∧ Z o := by
  have gen : ∀ (k j : Nat) ρ, j + k = n → P j ρ → (∃ ρ', forM fg gb ((rngD lo n).drop j) ρ = some (.nx ρ') ∧ P n ρ') ∨ ∃ o, forM fg gb ((rngD lo n).drop j) ρ = some o ∧ Z o := by
    intro k
    induction k with
    | zero =>
      intro j ρ hj hp
      have : j = n := by omega
      subst this
      rw [List.drop_eq_nil_of_le (by simp [rngD])]
      exact .inl ⟨ρ, rfl, hp⟩
    | succ k ih =>
      intro j ρ hj hp
      obtain ⟨ρ1, h1, h2⟩ := hs j ρ (by omega) hp
      rw [forM_drop (d := .int (lo + (j : Nat))) (by rw [rngD_get, if_pos (by omega)]), h1]
      rcases h2 with ⟨ρ2, h3, h4⟩ | ⟨r, ρ2, h3, h4⟩
      · have := ih (j + 1) ρ2 (by omega) h4
        simp only [Option.bind_some, h3]
        exact this
      · simp only [Option.bind_some, h3]
        exact .inr ⟨_, rfl, h4⟩
  have := gen n 0 ρ (by omega) h0
  simpa using this
theorem compM_map {α : Type} {f : PyData → Option (Option PyData)} {en : α → PyData} {g : α → PyData} : ∀ {xs : List α}, (∀ x ∈ xs, f (en x) = some (some (g x))) → compM f (xs.map en) = some (xs.map g)
  | [], _ => rfl
  | x :: xs, h => by
    rw [List.map_cons, compM, h x List.mem_cons_self, compM_map (fun y hy => h y (List.mem_cons_of_mem _ hy))]
    rfl
theorem compM_range {f : PyData → Option (Option PyData)} {g : Nat → PyData} {lo : Int} {n : Nat} (h : ∀ i, i < n → f (.int (lo + (i : Nat))) = some (some (g i))) : compM f (rngD lo n) = some ((List.range n).map g) :=
  compM_map (en := fun i : Nat => PyData.int (lo + (i : Nat))) fun i hi => h i (List.mem_range.mp hi)
theorem while_inv {c : En → Option Bool} {b : En → Option Out} {ρ : En} (P : En → Prop) (μ : En → Nat) (h0 : P ρ)
    (hs : ∀ ρ, P ρ → c ρ = some false ∨ (c ρ = some true ∧ ∃ ρ', b ρ = some (.nx ρ') ∧ P ρ' ∧ μ ρ' < μ ρ)) : ∃ ρ', mWhile c b ρ = some (.nx ρ') ∧ P ρ' ∧ c ρ' = some false := by
  have gen : ∀ (n : Nat) ρ, μ ρ < n → P ρ → ∃ ρ', whileF c b n ρ = some (.nx ρ') ∧ P ρ' ∧ c ρ' = some false := by
    intro n
    induction n with
    | zero => intro ρ h; omega
    | succ n ih =>
      intro ρ hm hp
      rcases hs ρ hp with h | ⟨h, ρ1, h1, h2, h3⟩
      · exact ⟨ρ, by simp [whileF, h], hp, h⟩
      · obtain ⟨ρ', h4, h5⟩ := ih ρ1 (by omega) h2
        exact ⟨ρ', by simp [whileF, h, h1, h4], h5⟩
  obtain ⟨ρ', h1, h2⟩ := gen (μ ρ + 1) ρ (by omega) h0
  exact ⟨ρ', mWhile_of h1, h2⟩
/-! ### step by step -/
def Rts (g : En → Option Out) (ρ : En) (r : Sl) : Prop := ∃ ρ', g ρ = some (.rt r ρ')
theorem rts_seq {f g : En → Option Out} {ρ ρ' : En} {r : Sl} (h : f ρ = some (.nx ρ')) (k : Rts g ρ' r) : Rts (mSeq f g) ρ r := by
  obtain ⟨ρ2, k⟩ := k
  exact ⟨ρ2, by unfold mSeq; rw [h]; exact k⟩
theorem rts_seqR {f g : En → Option Out} {ρ : En} {r : Sl} (h : Rts f ρ r) : Rts (mSeq f g) ρ r := by
  obtain ⟨ρ2, h⟩ := h
  exact ⟨ρ2, by unfold mSeq; rw [h]; rfl⟩
theorem rts_ret {f : En → Option Sl} {ρ : En} {r : Sl} (h : f ρ = some r) : Rts (mRet f) ρ r := ⟨ρ, by unfold mRet; rw [h]; rfl⟩
theorem rts_if {c : En → Option Bool} {f g : En → Option Out} {ρ : En} {r : Sl} {b : Bool} (h : c ρ = some b) (k : Rts (if b then f else g) ρ r) : Rts (mIf c f g) ρ r := by
  obtain ⟨ρ2, k⟩ := k
  refine ⟨ρ2, ?_⟩
  unfold mIf
  rw [h]
  cases b <;> exact k
theorem rts_frz {i : Nat} {g : En → Option Out} {ρ : En} {r : Sl} (k : Rts g (frz1 i ρ) r) : Rts (mFrz i g) ρ r := k
theorem runD_rt {n k : Nat} {g : En → Option Out} {ds : List PyData} {ρ : En} {r : Sl} (hl : ds.length = k) (e : ds.map (fun d => some (Sl.val d)) ++ List.replicate (n - ds.length) none = ρ) (h : Rts g ρ r) : runD n g k ds = some r := by
  obtain ⟨ρ', h⟩ := h
  unfold runD
  rw [if_pos hl, e, h]
  rfl
theorem runM_rt {n m k : Nat} {g : En → Option Out} {φ : En} {ds : List PyData} {ρ ρ' : En} {d : PyData} (hl : ds.length + 1 = m) (hk : φ.length = k) (e : (none :: ds.map (fun d => some (Sl.val d))) ++ List.replicate (n - (ds.length + 1)) none ++ φ = ρ) (h : g ρ = some (.rt (.val d) ρ')) : runM n m k g φ ds = some (ρ'.drop n, d) := by
  unfold runM
  rw [if_pos ⟨hl, hk⟩, e, h]
  rfl
theorem runM_nx {n m k : Nat} {g : En → Option Out} {φ : En} {ds : List PyData} {ρ ρ' : En} (hl : ds.length + 1 = m) (hk : φ.length = k) (e : (none :: ds.map (fun d => some (Sl.val d))) ++ List.replicate (n - (ds.length + 1)) none ++ φ = ρ) (h : g ρ = some (.nx ρ')) : runM n m k g φ ds = some (ρ'.drop n, .none) := by
  unfold runM
  rw [if_pos ⟨hl, hk⟩, e, h]
  rfl
theorem seq_to {f g : En → Option Out} {ρ ρ' : En} {o : Out} (h : f ρ = some (.nx ρ')) (k : g ρ' = some o) : mSeq f g ρ = some o := by
  unfold mSeq
  rw [h]
  exact k
theorem seq_rt {f g : En → Option Out} {ρ ρ' : En} {r : Sl} (h : f ρ = some (.rt r ρ')) : mSeq f g ρ = some (.rt r ρ') := by
  unfold mSeq
  rw [h]
  rfl
theorem if_to {c : En → Option Bool} {f g : En → Option Out} {ρ : En} {o : Out} {b : Bool} (h : c ρ = some b) (k : (if b then f ρ else g ρ) = some o) : mIf c f g ρ = some o := by
  unfold mIf
  rw [h]
  exact k
theorem asg_to {i : Nat} {f : En → Option Sl} {ρ : En} {r : Sl} (h : f ρ = some r) : mAsg i f ρ = some (.nx (ρ.set i (some r))) := by
  unfold mAsg
  rw [h]
  rfl
theorem ret_to {f : En → Option Sl} {ρ : En} {r : Sl} (h : f ρ = some r) : mRet f ρ = some (.rt r ρ) := by
  unfold mRet
  rw [h]
  rfl
theorem call_to {F : List PyData → Option Sl} {f : En → Option (List PyData)} {ρ : En} {ds : List PyData} {r : Sl} (h : f ρ = some ds) (k : F ds = some r) : mCall F f ρ = some r := by
  unfold mCall
  rw [h]
  exact k
theorem for_to {fi : En → Option (List PyData)} {fg : PyData → En → Option En} {gb : En → Option Out} {ρ : En} {ds : List PyData} {o : Out} (h : fi ρ = some ds) (k : forM fg gb ds ρ = some o) : mFor fi fg gb ρ = some o := by
  unfold mFor
  rw [h]
  exact k
theorem lc_to {sb : En → En} {fi : En → Option (List PyData)} {fg : PyData → En → Option En} {ft : En → Option Bool} {fe : En → Option Sl} {ρ : En} {ds es : List PyData} (h : fi ρ = some ds) (hl : ds.length < sizeLine) (k : compM (elM fg ft fe (sb ρ)) ds = some es) : mLC sb fi fg ft fe ρ = some (.own es) := by
  unfold mLC
  rw [h]
  show (if ds.length < sizeLine then _ else _) = _
  rw [if_pos hl, k]
  rfl
theorem mulS {i j : Int} (h : CMulA i j) : dRep (.val (.int i)) (.val (.int j)) = some (.val (.int (i * j))) := by
  unfold dRep dMulI iopC
  simp only [if_pos h]
theorem divS {i j : Int} (h : CDivB i j) : dFdiv (.val (.int i)) (.val (.int j)) = some (.val (.int (i.fdiv j))) := by
  unfold dFdiv iopC
  simp only [if_pos h]
theorem modS {i j : Int} (h : j ≠ 0) : dMod (.val (.int i)) (.val (.int j)) = some (.val (.int (i.fmod j))) := by
  unfold dMod iopC
  simp only [if_pos h]
theorem powS {i j : Int} (h : CPow i j) : dPow (.val (.int i)) (.val (.int j)) = some (.val (.int (i ^ j.toNat))) := by
  unfold dPow iopC
  simp only [if_pos h]
theorem shrS {i j : Int} (h : 0 ≤ j) : dShr (.val (.int i)) (.val (.int j)) = some (.val (.int (i / 2 ^ j.toNat))) := by
  unfold dShr iopC
  simp only [if_pos h]
theorem rng1_to {f : En → Option (List Sl)} {ρ : En} {j : Nat} (h : f ρ = some [.val (.int j)]) (hj : j ≤ 1000) : mRng1 f ρ = some (rngD 0 j) := by
  have b : inB (j : Int) := by
    constructor
    · have : -(2 ^ 62 : Int) ≤ 0 := by decide
      omega
    · have : (1000 : Int) < 2 ^ 62 := by decide
      omega
  unfold mRng1
  rw [h]
  show (if inB (j : Int) then some (rngD 0 ((j : Int).toNat)) else none) = _
  rw [if_pos b, Int.toNat_natCast]
theorem rng2_to {f : En → Option (List Sl)} {ρ : En} {i j : Nat} (h : f ρ = some [.val (.int i), .val (.int j)]) (hi : i ≤ 1000) (hj : j ≤ 1000) : mRng2 f ρ = some (rngD i (j - i)) := by
  have b : ∀ j : Nat, j ≤ 1000 → inB (j : Int) := by
    intro j hj
    constructor
    · have : -(2 ^ 62 : Int) ≤ 0 := by decide
      omega
    · have : (1000 : Int) < 2 ^ 62 := by decide
      omega
  unfold mRng2
  rw [h]
  show (if inB (i : Int) ∧ inB (j : Int) then some (rngD i (((j : Int) - (i : Int)).toNat)) else none) = _
  rw [if_pos ⟨b i hi, b j hj⟩, Int.toNat_sub]
theorem small64 : (200 : Nat) ≤ sizeLine := by decide
/-! ### == of data -/
theorem eqD_int (i j : Int) : eqD (.int i) (.int j) = some (decide (i = j)) := by
  have : PyData.eqv (.int i) (.int j) = decide (i = j) := by simp [PyData.eqv, Bool.beq_eq_decide_eq]
  unfold eqD
  rw [if_pos ⟨rfl, rfl, by simp [PyData.depth]⟩, this]
def encF (q : Int × Int) : PyData := .tuple [.int q.1, .int q.2]
theorem eqD_frac (p q : Int × Int) : eqD (encF p) (encF q) = some (decide (p = q)) := by
  have : PyData.eqv (encF p) (encF q) = decide (p = q) := by
    obtain ⟨a, b⟩ := p
    obtain ⟨c, d⟩ := q
    simp [encF, PyData.eqv, PyData.eqvAll, Bool.beq_eq_decide_eq]
  unfold eqD
  rw [if_pos ⟨rfl, rfl, by simp [encF, PyData.depth, PyData.depthAll]⟩, this]
theorem lay_list {α : Type} {en : α → PyData} (h : ∀ x, (en x).canLay0 = true) : ∀ xs : List α, PyData.canLayAll0 (xs.map en) = true
  | [] => rfl
  | x :: xs => by rw [List.map_cons, PyData.canLayAll0, h x, lay_list h xs]; rfl
theorem dep_list {α : Type} {en : α → PyData} {k : Nat} (h : ∀ x, (en x).depth ≤ k) : ∀ xs : List α, PyData.depthAll (xs.map en) ≤ k
  | [] => Nat.zero_le _
  | x :: xs => by rw [List.map_cons, PyData.depthAll]; exact Nat.max_le.mpr ⟨h x, dep_list h xs⟩
def encR (r : List (Int × Int)) : PyData := .list (r.map encF)
def encT (t : List (List (Int × Int))) : PyData := .list (t.map encR)
theorem lay_R (r : List (Int × Int)) : (encR r).canLay0 = true := lay_list (fun _ => rfl) r
theorem lay_T (t : List (List (Int × Int))) : (encT t).canLay0 = true := lay_list lay_R t
theorem dep_F (q : Int × Int) : (encF q).depth ≤ 3 := by simp [encF, PyData.depth, PyData.depthAll]
theorem dep_R (r : List (Int × Int)) : (encR r).depth ≤ 4 := by
  have := dep_list dep_F r
  simp only [encR, PyData.depth]
  omega
theorem dep_T (t : List (List (Int × Int))) : (encT t).depth ≤ 5 := by
  have := dep_list dep_R t
  simp only [encT, PyData.depth]
  omega
theorem eqD_same {d : PyData} (h : d.canLay0 = true) (k : d.depth ≤ 60) : eqD d d = some true := by
  unfold eqD
  rw [if_pos ⟨h, h, by omega⟩, SeqAt.eqv_refl d h]
theorem eqD_T (t : List (List (Int × Int))) : eqD (encT t) (encT t) = some true := eqD_same (lay_T t) (by have := dep_T t; omega)
end Dm

set_option linter.all false
set_option maxHeartbeats 1000000
namespace Ba
abbrev Mx := Nat → Nat → Int
def skip (p i : Nat) : Nat := if i < p then i else i + 1
def unskip (p r : Nat) : Nat := if r < p then r else r - 1
def sgn (n : Nat) : Int := if n % 2 = 0 then 1 else -1
def sumN : Nat → (Nat → Int) → Int
  | 0, _ => 0
  | n + 1, f => sumN n f + f n
def det : Nat → Mx → Int
  | 0, _ => 1
  | n + 1, M => sumN (n + 1) fun p => sgn (n - p) * M p n * det n (fun i => M (skip p i))
theorem det_succ (n : Nat) (M : Mx) : det (n + 1) M = sumN (n + 1) fun p => sgn (n - p) * M p n * det n (fun i => M (skip p i)) := rfl
theorem sum_congr : ∀ {n : Nat} {f g : Nat → Int}, (∀ i, i < n → f i = g i) → sumN n f = sumN n g
  | 0, _, _, _ => rfl
  | n + 1, f, g, h => by
    rw [sumN, sumN, sum_congr (n := n) fun i hi => h i (by omega), h n (by omega)]
theorem sum_zero : ∀ {n : Nat} {f : Nat → Int}, (∀ i, i < n → f i = 0) → sumN n f = 0
  | 0, _, _ => rfl
  | n + 1, f, h => by rw [sumN, sum_zero (n := n) fun i hi => h i (by omega), h n (by omega)]; rfl
theorem sum_lin (a b : Int) : ∀ {n : Nat} {f g : Nat → Int}, sumN n (fun i => a * f i + b * g i) = a * sumN n f + b * sumN n g
  | 0, _, _ => by simp [sumN]
  | n + 1, f, g => by
    rw [sumN, sumN, sumN, sum_lin a b (n := n), Int.mul_add, Int.mul_add]
    omega
theorem sum_mul (a : Int) {n : Nat} {f : Nat → Int} : sumN n (fun i => a * f i) = a * sumN n f := by
  have h := sum_lin a 0 (n := n) (f := f) (g := fun _ => 0)
  simpa using h
theorem sum_add {n : Nat} {f g : Nat → Int} : sumN n (fun i => f i + g i) = sumN n f + sumN n g := by
  have h := sum_lin 1 1 (n := n) (f := f) (g := g)
  simpa using h
theorem sum_one : ∀ {n r : Nat} {f : Nat → Int}, r < n → (∀ i, i < n → i ≠ r → f i = 0) → sumN n f = f r
  | 0, r, _, h, _ => absurd h (by omega)
  | n + 1, r, f, h, hz => by
    rw [sumN]
    by_cases e : r = n
    · subst e
      rw [sum_zero fun i hi => hz i (by omega) (by omega)]
      omega
    · rw [sum_one (n := n) (r := r) (by omega) fun i hi hr => hz i (by omega) hr, hz n (by omega) (by omega)]
      omega
theorem sum_two : ∀ {n r : Nat} {f : Nat → Int}, r + 1 < n → (∀ i, i < n → i ≠ r → i ≠ r + 1 → f i = 0) → sumN n f = f r + f (r + 1)
  | 0, r, _, h, _ => absurd h (by omega)
  | n + 1, r, f, h, hz => by
    rw [sumN]
    by_cases e : r + 1 = n
    · subst e
      rw [sum_one (r := r) (by omega) fun i hi hr => hz i (by omega) hr (by omega)]
    · rw [sum_two (n := n) (r := r) (by omega) fun i hi hr h2 => hz i (by omega) hr h2, hz n (by omega) (by omega) (by omega)]
      omega
theorem sum_comm : ∀ {n m : Nat} {f : Nat → Nat → Int}, sumN n (fun i => sumN m (fun j => f i j)) = sumN m (fun j => sumN n (fun i => f i j))
  | 0, m, f => by rw [sumN]; exact (sum_zero fun _ _ => rfl).symm
  | n + 1, m, f => by
    rw [sumN, sum_comm (n := n), ← sum_add]
    exact sum_congr fun j _ => rfl
theorem det_congr : ∀ {n : Nat} {M N : Mx}, (∀ i, i < n → ∀ j, j < n → M i j = N i j) → det n M = det n N
  | 0, _, _, _ => rfl
  | n + 1, M, N, h => by
    rw [det_succ, det_succ]
    refine sum_congr fun p hp => ?_
    rw [h p hp n (by omega), det_congr (n := n) fun i hi j hj => h (skip p i) (by unfold skip; split <;> omega) j (by omega)]
def setR (M : Mx) (r : Nat) (v : Nat → Int) : Mx := fun i => if i = r then v else M i
theorem setR_same (M : Mx) (r : Nat) (v : Nat → Int) : setR M r v r = v := by simp [setR]
theorem setR_ne {M : Mx} {r i : Nat} {v : Nat → Int} (h : i ≠ r) : setR M r v i = M i := by simp [setR, h]
theorem setR_self (M : Mx) (r : Nat) : setR M r (M r) = M := by
  funext i
  by_cases h : i = r
  · subst h; rw [setR_same]
  · rw [setR_ne h]
theorem setR_setR (M : Mx) (r : Nat) (u v : Nat → Int) : setR (setR M r u) r v = setR M r v := by
  funext i
  by_cases h : i = r
  · subst h; rw [setR_same, setR_same]
  · rw [setR_ne h, setR_ne h, setR_ne h]
theorem setR_comm {M : Mx} {r s : Nat} {u v : Nat → Int} (h : r ≠ s) : setR (setR M r u) s v = setR (setR M s v) r u := by
  funext i
  by_cases h1 : i = r
  · subst h1; rw [setR_ne h, setR_same, setR_same]
  · by_cases h2 : i = s
    · subst h2; rw [setR_same, setR_ne h1, setR_same]
    · rw [setR_ne h2, setR_ne h1, setR_ne h1, setR_ne h2]
theorem skip_set {M : Mx} {r p : Nat} {v : Nat → Int} (h : p ≠ r) : (fun i => setR M r v (skip p i)) = setR (fun i => M (skip p i)) (unskip p r) v := by
  funext i
  by_cases e : i = unskip p r
  · rw [e, setR_same]
    have : skip p (unskip p r) = r := by (unfold skip unskip; split <;> (try split) <;> omega)
    rw [this, setR_same]
  · rw [setR_ne e, setR_ne]
    unfold skip unskip at *
    split <;> split at e <;> omega
theorem skip_set_same {M : Mx} {r : Nat} {v : Nat → Int} : (fun i => setR M r v (skip r i)) = fun i => M (skip r i) := by
  funext i
  rw [setR_ne]
  unfold skip
  split <;> omega
theorem det_lin (a b : Int) : ∀ {n r : Nat} {M : Mx} {u v : Nat → Int}, r < n → det n (setR M r (fun j => a * u j + b * v j)) = a * det n (setR M r u) + b * det n (setR M r v)
  | 0, r, _, _, _, h => absurd h (by omega)
  | n + 1, r, M, u, v, h => by
    rw [det_succ, det_succ, det_succ, ← sum_lin]
    refine sum_congr fun p hp => ?_
    by_cases e : p = r
    · subst e
      rw [skip_set_same, skip_set_same, skip_set_same, setR_same, setR_same, setR_same]
      generalize det n (fun i => M (skip p i)) = d
      simp only [Int.mul_add, Int.add_mul]
      congr 1 <;> ac_rfl
    · rw [skip_set e, skip_set e, skip_set e, setR_ne e, setR_ne e, setR_ne e, det_lin a b (n := n) (by unfold unskip; split <;> omega)]
      simp only [Int.mul_add]
      congr 1 <;> ac_rfl
theorem det_zero_row {n r : Nat} {M : Mx} (h : r < n) (hz : ∀ j, j < n → M r j = 0) : det n M = 0 := by
  have e : det n M = det n (setR M r (fun j => 0 * M r j + 0 * M r j)) := det_congr fun i hi j hj => by
    by_cases q : i = r
    · subst q; rw [setR_same, hz j hj]; omega
    · rw [setR_ne q]
  rw [e, det_lin 0 0 h]
  omega
theorem sgn_succ (n : Nat) : sgn (n + 1) = - sgn n := by
  unfold sgn
  split <;> split <;> omega
theorem det_adj : ∀ {n r : Nat} {M : Mx}, r + 1 < n → (∀ j, j < n → M r j = M (r + 1) j) → det n M = 0
  | 0, _, _, h, _ => absurd h (by omega)
  | n + 1, r, M, h, he => by
    rw [det_succ, sum_two (r := r) h]
    · have e : det n (fun i => M (skip r i)) = det n (fun i => M (skip (r + 1) i)) := det_congr fun i hi j hj => by
        by_cases q : i = r
        · subst q
          have a : skip i i = i + 1 := by unfold skip; split <;> omega
          have b : skip (i + 1) i = i := by unfold skip; split <;> omega
          rw [a, b]; exact (he j (by omega)).symm
        · have : skip r i = skip (r + 1) i := by unfold skip; split <;> split <;> omega
          rw [this]
      rw [e, he n (by omega)]
      have s : sgn (n - r) = - sgn (n - (r + 1)) := by
        have : n - r = (n - (r + 1)) + 1 := by omega
        rw [this, sgn_succ]
      rw [s]
      simp only [Int.neg_mul]
      omega
    · intro p hp h1 h2
      have : det n (fun i => M (skip p i)) = 0 := by
        refine det_adj (n := n) (r := unskip p r) (by unfold unskip; split <;> omega) fun j hj => ?_
        have a : skip p (unskip p r) = r := by (unfold skip unskip; split <;> (try split) <;> omega)
        have b : skip p (unskip p r + 1) = r + 1 := by (unfold skip unskip; split <;> (try split) <;> omega)
        show M (skip p (unskip p r)) j = M (skip p (unskip p r + 1)) j
        rw [a, b]
        exact he j (by omega)
      rw [this, Int.mul_zero]
theorem det_add {n r : Nat} {M : Mx} {u v : Nat → Int} (h : r < n) : det n (setR M r (fun j => u j + v j)) = det n (setR M r u) + det n (setR M r v) := by
  have := det_lin 1 1 (M := M) (u := u) (v := v) h
  simpa using this
theorem det_smul {n r : Nat} {M : Mx} {u : Nat → Int} (a : Int) (h : r < n) : det n (setR M r (fun j => a * u j)) = a * det n (setR M r u) := by
  have := det_lin a 0 (M := M) (u := u) (v := u) h
  simpa using this
/-- the two rows exchanged: by vanishing at equal rows -/
theorem swap_of {n r s : Nat} {M : Mx} (hr : r < n) (hs : s < n) (hrs : r ≠ s) (z : ∀ (M : Mx), M r = M s → det n M = 0) (u v : Nat → Int) :
    det n (setR (setR M r u) s v) = - det n (setR (setR M r v) s u) := by
  have w : ∀ x : Nat → Int, det n (setR (setR M r x) s x) = 0 := fun x => z _ (by rw [setR_ne hrs, setR_same, setR_same])
  have e := w (fun j => u j + v j)
  rw [det_add hs, setR_comm hrs, det_add hr, setR_comm hrs.symm, setR_comm hrs.symm, setR_comm (M := M) (u := fun j => u j + v j) (v := v) hrs, det_add hr, setR_comm hrs.symm, setR_comm hrs.symm, w, w] at e
  omega
theorem det_eq_rows : ∀ {d n r : Nat} {M : Mx}, r + d + 1 < n → M r = M (r + d + 1) → det n M = 0
  | 0, n, r, M, h, he => det_adj h fun j _ => congrFun he j
  | d + 1, n, r, M, h, he => by
    have hs : r + d + 1 < n := by omega
    have q := swap_of (n := n) (r := r + d + 1) (s := r + d + 1 + 1) (M := M) hs (by omega) (by omega) (fun M' h' => det_adj (by omega) fun j _ => congrFun h' j) (M (r + d + 1)) (M (r + d + 1 + 1))
    rw [setR_self, setR_self] at q
    rw [q, det_eq_rows (d := d) (r := r) hs]
    · rfl
    · rw [setR_ne (by omega), setR_ne (by omega), setR_ne (by omega), setR_same]
      exact he
theorem det_same {n r s : Nat} {M : Mx} (hr : r < n) (hs : s < n) (hrs : r ≠ s) (he : M r = M s) : det n M = 0 := by
  rcases (by omega : r < s ∨ s < r) with h | h
  · obtain ⟨d, rfl⟩ : ∃ d, s = r + d + 1 := ⟨s - r - 1, by omega⟩
    exact det_eq_rows hs he
  · obtain ⟨d, rfl⟩ : ∃ d, r = s + d + 1 := ⟨r - s - 1, by omega⟩
    exact det_eq_rows hr he.symm
theorem det_swap {n r s : Nat} {M : Mx} (hr : r < n) (hs : s < n) (hrs : r ≠ s) (u v : Nat → Int) : det n (setR (setR M r u) s v) = - det n (setR (setR M r v) s u) :=
  swap_of hr hs hrs (fun _ h => det_same hr hs hrs h) u v
/-- the exchange that turns one row's signs -/
def exch (M : Mx) (r s : Nat) : Mx := setR (setR M r (M s)) s (fun j => - M r j)
theorem det_exch {n r s : Nat} {M : Mx} (hr : r < n) (hs : s < n) (hrs : r ≠ s) : det n (exch M r s) = det n M := by
  unfold exch
  have e : (fun j => - M r j) = fun j => (-1) * M r j := by funext j; omega
  rw [e, det_smul _ hs, det_swap hr hs hrs, setR_self, setR_self]
  omega
/-- a row takes multiples of rows above -/
theorem det_comb {n r : Nat} {M : Mx} (hr : r < n) (a : Int) (q : Nat → Int) : ∀ {m : Nat}, m ≤ r → det n (setR M r (fun j => a * M r j + sumN m (fun p => q p * M p j))) = a * det n M
  | 0, _ => by
    simp only [sumN, Int.add_zero]
    rw [det_smul _ hr, setR_self]
  | m + 1, h => by
    have e : (fun j => a * M r j + sumN (m + 1) (fun p => q p * M p j)) = fun j => 1 * (a * M r j + sumN m (fun p => q p * M p j)) + q m * M m j := by
      funext j; rw [sumN]; omega
    have z : det n (setR M r (fun j => M m j)) = 0 := det_same (r := r) (s := m) hr (by omega) (by omega) (by rw [setR_same, setR_ne (by omega)])
    rw [e, det_lin 1 (q m) hr, det_comb hr a q (m := m) (by omega), z]
    omega
theorem det_last {n : Nat} {M : Mx} (h : ∀ j, j < n → M n j = 0) : det (n + 1) M = M n n * det n M := by
  rw [det_succ, sum_one (r := n) (by omega)]
  · rw [Nat.sub_self]
    have : det n (fun i => M (skip n i)) = det n M := det_congr fun i hi j hj => by
      have : skip n i = i := by unfold skip; split <;> omega
      rw [this]
    rw [this]
    simp [sgn]
  · intro p hp hne
    have : det n (fun i => M (skip p i)) = 0 := by
      refine det_zero_row (r := n - 1) (by omega) fun j hj => ?_
      have e : skip p (n - 1) = n := by unfold skip; split <;> omega
      show M (skip p (n - 1)) j = 0
      rw [e]; exact h j hj
    rw [this, Int.mul_zero]
end Ba

set_option linter.all false
set_option maxHeartbeats 1000000
namespace Ba
inductive Ex (n : Nat) (A : Mx) : Mx → Prop where
  | refl : Ex n A A
  | step {B : Mx} {r s : Nat} : r < n → s < n → r ≠ s → Ex n A B → Ex n A (exch B r s)
theorem Ex.det {n : Nat} {A B : Mx} (h : Ex n A B) : det n B = det n A := by
  induction h with
  | refl => rfl
  | step h1 h2 h3 _ ih => rw [det_exch h1 h2 h3, ih]
theorem exch_r {M : Mx} {r s : Nat} (h : r ≠ s) : exch M r s r = M s := by unfold exch; rw [setR_ne h, setR_same]
theorem exch_s {M : Mx} {r s : Nat} : exch M r s s = fun j => - M r j := by unfold exch; rw [setR_same]
theorem exch_ne {M : Mx} {r s i : Nat} (h1 : i ≠ r) (h2 : i ≠ s) : exch M r s i = M i := by unfold exch; rw [setR_ne h2, setR_ne h1]
def col (k : Nat) (L : Nat → Nat) (j t : Nat) : Nat := if t < k then L t else j
def row (k i r : Nat) : Nat := if r < k then r else i
/-- the part with the rows ahead of k and i, the leads' columns and j -/
def bord (B : Mx) (k : Nat) (L : Nat → Nat) (i j : Nat) : Int := det (k + 1) fun r t => B (row k i r) (col k L j t)
def lds (B : Mx) (k : Nat) (L : Nat → Nat) : Int := det k fun r t => B r (L t)
theorem lds_succ (B : Mx) (k : Nat) (L : Nat → Nat) (c : Nat) : lds B (k + 1) (fun t => if t = k then c else L t) = bord B k L k c := det_congr fun r hr t ht => by
  have e1 : row k k r = r := by unfold row; split <;> omega
  have e2 : col k L c t = if t = k then c else L t := by unfold col; split <;> split <;> first | rfl | omega
  rw [e1, e2]
/-- a row that is a multiple of B i and rows above, nought at the leads -/
theorem bord_of {B : Mx} {k i j : Nat} {L : Nat → Nat} {μ : Int} {q w : Nat → Int} (hw : ∀ j, w j = μ * B i j + sumN k (fun p => q p * B p j)) (hz : ∀ t, t < k → w (L t) = 0) : μ * bord B k L i j = w j * lds B k L := by
  have h := det_comb (n := k + 1) (r := k) (M := fun r t => B (row k i r) (col k L j t)) (by omega) μ q (m := k) (Nat.le_refl k)
  have e : (fun t => μ * B (row k i k) (col k L j t) + sumN k (fun p => q p * B (row k i p) (col k L j t))) = fun t => w (col k L j t) := by
    funext t
    have e1 : row k i k = i := by unfold row; split <;> omega
    rw [hw, e1]
    congr 1
    exact sum_congr fun p hp => by
      have : row k i p = p := by unfold row; split <;> omega
      rw [this]
  rw [e, det_last] at h
  · unfold bord
    rw [← h, setR_same]
    have e2 : col k L j k = j := by unfold col; split <;> omega
    rw [e2]
    unfold lds
    congr 1
    exact det_congr fun r hr t ht => by
      rw [setR_ne (by omega)]
      have e3 : row k i r = r := by unfold row; split <;> omega
      have e4 : col k L j t = L t := by unfold col; split <;> omega
      rw [e3, e4]
  · intro t ht
    rw [setR_same]
    have e4 : col k L j t = L t := by unfold col; split <;> omega
    rw [e4, hz t ht]
structure BI (n m : Nat) (A R : Mx) (k : Nat) (L : Nat → Nat) (last : Int) (c : Nat) (B : Mx) : Prop where
  kn : k ≤ n
  cm : c ≤ m
  Lc : ∀ t, t < k → L t < c
  Li : ∀ s t, s < t → t < k → L s < L t
  nz : last ≠ 0
  ld : last = lds B k L
  top : ∀ i, i < k → ∀ j, j < m → R i j = bord B i L i j
  topz : ∀ i, i < k → ∀ j, j < L i → R i j = 0
  topn : ∀ i, i < k → R i (L i) ≠ 0
  bot : ∀ i, k ≤ i → i < n → ∃ μ : Int, μ ≠ 0 ∧ ∃ q : Nat → Int, ∀ j, j < m → μ * R i j = last * (μ * B i j + sumN k (fun p => q p * B p j))
  zero : ∀ i, k ≤ i → i < n → ∀ j, j < c → R i j = 0
  ex : Ex n A B
theorem mul_cancel {a b c : Int} (h : a ≠ 0) (e : a * b = a * c) : b = c := Int.eq_of_mul_eq_mul_left h e
/-- the numbers beneath are parts' determinants -/
theorem BI.minor {n m : Nat} {A R : Mx} {k : Nat} {L : Nat → Nat} {last : Int} {c : Nat} {B : Mx} (I : BI n m A R k L last c B) {i j : Nat} (hi : k ≤ i) (hn : i < n) (hj : j < m) : R i j = bord B k L i j := by
  obtain ⟨μ, hμ, q, h⟩ := I.bot i hi hn
  have z : ∀ t, t < k → (fun j => μ * B i j + sumN k (fun p => q p * B p j)) (L t) = 0 := by
    intro t ht
    have e := h (L t) (Nat.lt_of_lt_of_le (I.Lc t ht) I.cm)
    rw [I.zero i hi hn (L t) (I.Lc t ht), Int.mul_zero] at e
    rcases Int.mul_eq_zero.mp e.symm with e | e
    · exact absurd e I.nz
    · exact e
  have e := bord_of (j := j) (w := fun j => μ * B i j + sumN k (fun p => q p * B p j)) (fun _ => rfl) z
  have e2 := h j hj
  refine mul_cancel hμ ?_
  rw [e, e2, I.ld]
  exact Int.mul_comm _ _
theorem BI.start {n m : Nat} (A : Mx) : BI n m A A 0 (fun _ => 0) 1 0 A where
  kn := Nat.zero_le _
  cm := Nat.zero_le _
  Lc := fun t h => absurd h (by omega)
  Li := fun s t _ h => absurd h (by omega)
  nz := by decide
  ld := rfl
  top := fun i h => absurd h (by omega)
  topz := fun i h => absurd h (by omega)
  topn := fun i h => absurd h (by omega)
  bot := fun i _ _ => ⟨1, by decide, fun _ => 0, fun j _ => by simp [sumN]⟩
  zero := fun i _ _ j h => absurd h (by omega)
  ex := .refl
theorem BI.none {n m : Nat} {A R : Mx} {k : Nat} {L : Nat → Nat} {last : Int} {c : Nat} {B : Mx} (I : BI n m A R k L last c B) (hc : c < m) (h : ∀ i, k ≤ i → i < n → R i c = 0) : BI n m A R k L last (c + 1) B :=
  { I with
    cm := hc
    Lc := fun t ht => Nat.lt_succ_of_lt (I.Lc t ht)
    zero := fun i h1 h2 j hj => by
      by_cases e : j = c
      · subst e; exact h i h1 h2
      · exact I.zero i h1 h2 j (by omega) }
theorem bord_congr {B B' : Mx} {k i j : Nat} {L L' : Nat → Nat} (hi : B i = B' i) (h : ∀ r, r < k → B r = B' r) (hL : ∀ t, t < k → L t = L' t) : bord B k L i j = bord B' k L' i j := det_congr fun r hr t ht => by
  have e1 : B (row k i r) = B' (row k i r) := by
    unfold row
    split
    · exact h r (by assumption)
    · exact hi
  have e2 : col k L j t = col k L' j t := by
    unfold col
    split
    · exact hL t (by assumption)
    · rfl
  rw [e1, e2]
theorem lds_congr {B B' : Mx} {k : Nat} {L L' : Nat → Nat} (h : ∀ r, r < k → B r = B' r) (hL : ∀ t, t < k → L t = L' t) : lds B k L = lds B' k L' := det_congr fun r hr t ht => by rw [h r hr, hL t ht]
theorem BI.exch {n m : Nat} {A R : Mx} {k : Nat} {L : Nat → Nat} {last : Int} {c : Nat} {B : Mx} (I : BI n m A R k L last c B) {p : Nat} (hp : k < p) (hn : p < n) : BI n m A (exch R k p) k L last c (exch B k p) := by
  have up : ∀ {M : Mx} {r : Nat}, r < k → Ba.exch M k p r = M r := fun h => exch_ne (by omega) (by omega)
  have su : ∀ (q : Nat → Int) j, sumN k (fun r => q r * Ba.exch B k p r j) = sumN k (fun r => q r * B r j) := fun q j => sum_congr fun r hr => by rw [up hr]
  refine ⟨I.kn, I.cm, I.Lc, I.Li, I.nz, ?_, fun i hi j hj => ?_, fun i hi j hj => ?_, fun i hi => ?_, fun i h1 h2 => ?_, fun i h1 h2 j hj => ?_, .step (by omega) hn (by omega) I.ex⟩
  · rw [I.ld]; exact lds_congr (fun r hr => (up hr).symm) fun _ _ => rfl
  · rw [up hi, I.top i hi j hj]
    exact bord_congr (up hi).symm (fun r hr => (up (by omega)).symm) fun _ _ => rfl
  · rw [up hi]; exact I.topz i hi j hj
  · rw [up hi]; exact I.topn i hi
  · by_cases e1 : i = k
    · subst e1
      obtain ⟨μ, h, q, e⟩ := I.bot p (by omega) hn
      exact ⟨μ, h, q, fun j hj => by rw [exch_r (by omega), exch_r (by omega), su]; exact e j hj⟩
    · by_cases e2 : i = p
      · subst e2
        obtain ⟨μ, h, q, e⟩ := I.bot k (Nat.le_refl _) (by omega)
        refine ⟨μ, h, fun r => - q r, fun j hj => ?_⟩
        rw [exch_s, exch_s, su]
        have s : sumN k (fun r => - q r * B r j) = - sumN k (fun r => q r * B r j) := by
          have := sum_mul (-1) (n := k) (f := fun r => q r * B r j)
          rw [show - sumN k (fun r => q r * B r j) = -1 * sumN k (fun r => q r * B r j) by omega, ← this]
          exact sum_congr fun r _ => by simp [Int.neg_mul]
        rw [s, Int.mul_neg, Int.mul_neg, ← Int.neg_add, Int.mul_neg, e j hj]
      · obtain ⟨μ, h, q, e⟩ := I.bot i h1 h2
        exact ⟨μ, h, q, fun j hj => by rw [exch_ne e1 e2, exch_ne e1 e2, su]; exact e j hj⟩
  · by_cases e1 : i = k
    · subst e1
      rw [exch_r (by omega)]; exact I.zero p (by omega) hn j hj
    · by_cases e2 : i = p
      · subst e2
        rw [exch_s]; show - R k j = 0; rw [I.zero k (Nat.le_refl _) (by omega) j hj]; rfl
      · rw [exch_ne e1 e2]; exact I.zero i h1 h2 j hj
/-- the row beneath, cleared: ahead of the division -/
def clr (R : Mx) (k c i j : Nat) : Int := R k c * R i j - R i c * R k j
/-- the division leaves no rest -/
theorem BI.exact {n m : Nat} {A R : Mx} {k : Nat} {L : Nat → Nat} {last : Int} {c : Nat} {B : Mx} (I : BI n m A R k L last c B) (hc : c < m) (hk : k < n) (hl : R k c ≠ 0) {i : Nat} (hi : k < i) (hn : i < n) :
    (∃ ν : Int, ν ≠ 0 ∧ ∃ s : Nat → Int, ∀ j, j < m → ν * clr R k c i j = last * (R k c * ν * B i j + sumN (k + 1) (fun p => s p * B p j))) ∧
    ∀ j, j < m → clr R k c i j = last * bord B (k + 1) (fun t => if t = k then c else L t) i j := by
  obtain ⟨μi, hμi, qi, ei⟩ := I.bot i (by omega) hn
  obtain ⟨μk, hμk, qk, ek⟩ := I.bot k (Nat.le_refl _) hk
  have hν : μi * μk ≠ 0 := Int.mul_ne_zero hμi hμk
  have key : ∀ j, j < m → μi * μk * clr R k c i j = last * (R k c * (μi * μk) * B i j + sumN (k + 1) (fun p => (if p = k then - (R i c * (μi * μk)) else R k c * μk * qi p - R i c * μi * qk p) * B p j)) := by
    intro j hj
    have a := ei j hj
    have b := ek j hj
    have s : sumN (k + 1) (fun p => (if p = k then - (R i c * (μi * μk)) else R k c * μk * qi p - R i c * μi * qk p) * B p j) = R k c * μk * sumN k (fun p => qi p * B p j) - R i c * μi * sumN k (fun p => qk p * B p j) - R i c * (μi * μk) * B k j := by
      have t : sumN k (fun p => (if p = k then - (R i c * (μi * μk)) else R k c * μk * qi p - R i c * μi * qk p) * B p j) = sumN k (fun p => (R k c * μk) * (qi p * B p j) + (- (R i c * μi)) * (qk p * B p j)) := sum_congr fun p hp => by
        rw [if_neg (by omega), Int.sub_mul, Int.neg_mul, Int.mul_assoc, Int.mul_assoc (R i c * μi), Int.sub_eq_add_neg]
      rw [sumN, t, sum_lin, if_pos rfl, Int.neg_mul, Int.neg_mul]
      omega
    rw [s]
    unfold clr
    have e1 : μi * μk * (R k c * R i j - R i c * R k j) = R k c * μk * (μi * R i j) - R i c * μi * (μk * R k j) := by
      rw [Int.mul_sub]
      congr 1 <;> ac_rfl
    rw [e1, a, b]
    generalize sumN k (fun p => qi p * B p j) = S1
    generalize sumN k (fun p => qk p * B p j) = S2
    simp only [Int.mul_add, Int.mul_sub]
    have c1 : R k c * μk * (last * (μi * B i j)) = last * (R k c * (μi * μk) * B i j) := by ac_rfl
    have c2 : R k c * μk * (last * S1) = last * (R k c * μk * S1) := by ac_rfl
    have c3 : R i c * μi * (last * (μk * B k j)) = last * (R i c * (μi * μk) * B k j) := by ac_rfl
    have c4 : R i c * μi * (last * S2) = last * (R i c * μi * S2) := by ac_rfl
    rw [c1, c2, c3, c4]
    omega
  refine ⟨⟨μi * μk, hν, _, key⟩, fun j hj => ?_⟩
  have cz : ∀ t, t < k + 1 → clr R k c i (if t = k then c else L t) = 0 := by
    intro t ht
    unfold clr
    by_cases e : t = k
    · rw [if_pos e, Int.mul_comm]; omega
    · have lt := I.Lc t (by omega)
      rw [if_neg e, I.zero i (by omega) hn _ lt, I.zero k (Nat.le_refl _) hk _ lt]
      omega
  have wz : ∀ t, t < k + 1 → (fun j => R k c * (μi * μk) * B i j + sumN (k + 1) (fun p => (if p = k then - (R i c * (μi * μk)) else R k c * μk * qi p - R i c * μi * qk p) * B p j)) ((fun t => if t = k then c else L t) t) = 0 := by
    intro t ht
    have e := key (if t = k then c else L t) (by
      by_cases e : t = k
      · rw [if_pos e]; exact hc
      · rw [if_neg e]; have := I.Lc t (by omega); omega)
    rw [cz t ht, Int.mul_zero] at e
    rcases Int.mul_eq_zero.mp e.symm with e | e
    · exact absurd e I.nz
    · exact e
  have d := bord_of (j := j) (L := fun t => if t = k then c else L t) (w := fun j => R k c * (μi * μk) * B i j + sumN (k + 1) (fun p => (if p = k then - (R i c * (μi * μk)) else R k c * μk * qi p - R i c * μi * qk p) * B p j)) (fun _ => rfl) wz
  rw [lds_succ, ← I.minor (Nat.le_refl _) hk hc] at d
  have hR : R k c * (μi * μk) ≠ 0 := Int.mul_ne_zero hl hν
  have e := key j hj
  generalize bord B (k + 1) (fun t => if t = k then c else L t) i j = y at d ⊢
  generalize R k c * (μi * μk) * B i j + sumN (k + 1) (fun p => (if p = k then - (R i c * (μi * μk)) else R k c * μk * qi p - R i c * μi * qk p) * B p j) = w at d e
  have hw : w = μi * μk * y := by
    refine mul_cancel hl ?_
    rw [Int.mul_comm, ← d]
    ac_rfl
  refine mul_cancel hν ?_
  rw [e, hw]
  ac_rfl
theorem BI.step {n m : Nat} {A R : Mx} {k : Nat} {L : Nat → Nat} {last : Int} {c : Nat} {B : Mx} (I : BI n m A R k L last c B) (hc : c < m) (hk : k < n) (hl : R k c ≠ 0) {R' : Mx}
    (ht : ∀ i, i ≤ k → ∀ j, j < m → R' i j = R i j) (hb : ∀ i, k < i → i < n → ∀ j, j < m → last * R' i j = clr R k c i j) : BI n m A R' (k + 1) (fun t => if t = k then c else L t) (R k c) (c + 1) B := by
  refine ⟨hk, hc, fun t h => ?_, fun s t h1 h2 => ?_, hl, ?_, fun i hi j hj => ?_, fun i hi j hj => ?_, fun i hi => ?_, fun i h1 h2 => ?_, fun i h1 h2 j hj => ?_, I.ex⟩
  · show (if t = k then c else L t) < c + 1
    split
    · omega
    · have := I.Lc t (by omega); omega
  · show (if s = k then c else L s) < (if t = k then c else L t)
    rw [if_neg (by omega)]
    split
    · exact I.Lc s (by omega)
    · exact I.Li s t h1 (by omega)
  · rw [lds_succ]; exact I.minor (Nat.le_refl _) hk hc
  · rw [ht i (by omega) j hj]
    by_cases e : i = k
    · subst e
      rw [I.minor (Nat.le_refl _) hk hj]
      exact bord_congr rfl (fun _ _ => rfl) fun t h => by rw [if_neg (by omega)]
    · rw [I.top i (by omega) j hj]
      exact bord_congr rfl (fun _ _ => rfl) fun t h => by rw [if_neg (by omega)]
  · have hj : j < (if i = k then c else L i) := hj
    by_cases e : i = k
    · rw [if_pos e] at hj
      rw [e, ht k (by omega) j (by omega)]
      exact I.zero k (Nat.le_refl _) hk j hj
    · rw [if_neg e] at hj
      have := I.Lc i (by omega)
      rw [ht i (by omega) j (by omega)]
      exact I.topz i (by omega) j hj
  · show R' i (if i = k then c else L i) ≠ 0
    by_cases e : i = k
    · rw [if_pos e]
      subst e
      rw [ht i (by omega) c hc]
      exact hl
    · rw [if_neg e]
      have := I.Lc i (by omega)
      rw [ht i (by omega) _ (by omega)]
      exact I.topn i (by omega)
  · obtain ⟨⟨ν, hν, s, e⟩, _⟩ := I.exact hc hk hl (i := i) (by omega) h2
    refine ⟨R k c * ν, Int.mul_ne_zero hl hν, s, fun j hj => ?_⟩
    have q := e j hj
    rw [← hb i (by omega) h2 j hj] at q
    have q2 : ν * R' i j = R k c * ν * B i j + sumN (k + 1) (fun p => s p * B p j) := by
      refine mul_cancel I.nz ?_
      rw [← q]
      ac_rfl
    rw [← q2]
    ac_rfl
  · refine mul_cancel I.nz ?_
    rw [hb i (by omega) h2 j (by omega), Int.mul_zero]
    unfold clr
    by_cases e : j = c
    · subst e; rw [Int.mul_comm]; omega
    · rw [I.zero i (by omega) h2 j (by omega), I.zero k (Nat.le_refl _) hk j (by omega)]
      omega
/-- the determinant: with as many leads as rows and columns the last lead, else nought -/
theorem BI.det_full {n : Nat} {A R : Mx} {L : Nat → Nat} {last : Int} {B : Mx} (I : BI n n A R n L last n B) : last = det n A := by
  have hL : ∀ t, t < n → L t = t := by
    have up : ∀ d t, t + d + 1 = n → t ≤ L t → L t ≤ t := by
      intro d
      induction d with
      | zero => intro t h1 _; have := I.Lc t (by omega); omega
      | succ d ih =>
        intro t h1 h2
        have := I.Li t (t + 1) (by omega) (by omega)
        have := ih (t + 1) (by omega) (by omega)
        omega
    have lo : ∀ t, t < n → t ≤ L t := by
      intro t
      induction t with
      | zero => intro _; omega
      | succ t ih => intro h; have := I.Li t (t + 1) (by omega) h; have := ih (by omega); omega
    intro t h
    have := lo t h
    have := up (n - t - 1) t (by omega) this
    omega
  rw [I.ld, ← I.ex.det]
  exact det_congr fun r hr t ht => by rw [hL t ht]
theorem BI.det_less {n : Nat} {A R : Mx} {k : Nat} {L : Nat → Nat} {last : Int} {B : Mx} (I : BI n n A R k L last n B) (hk : k < n) : det n A = 0 := by
  obtain ⟨μ, hμ, q, h⟩ := I.bot k (Nat.le_refl _) hk
  have z : ∀ j, j < n → μ * B k j + sumN k (fun p => q p * B p j) = 0 := by
    intro j hj
    have e := h j hj
    rw [I.zero k (Nat.le_refl _) hk j hj, Int.mul_zero] at e
    rcases Int.mul_eq_zero.mp e.symm with e | e
    · exact absurd e I.nz
    · exact e
  have c := det_comb (n := n) (M := B) hk μ q (m := k) (Nat.le_refl _)
  rw [det_zero_row (r := k) hk (fun j hj => by rw [setR_same]; exact z j hj)] at c
  rcases Int.mul_eq_zero.mp c.symm with e | e
  · exact absurd e hμ
  · rw [← I.ex.det]; exact e
end Ba

set_option linter.all false
set_option maxHeartbeats 1000000
namespace Ba
theorem sum_abs {X : Nat} : ∀ {n : Nat} {f : Nat → Int}, (∀ i, i < n → (f i).natAbs ≤ X) → (sumN n f).natAbs ≤ n * X
  | 0, _, _ => by simp [sumN]
  | n + 1, f, h => by
    have h1 := sum_abs (n := n) fun i hi => h i (by omega)
    have h2 := h n (by omega)
    have h3 := Int.natAbs_add_le (sumN n f) (f n)
    rw [sumN, Nat.succ_mul]
    omega
theorem det_abs {N Y : Nat} : ∀ {n : Nat} {M : Mx}, n ≤ N → (∀ i, i < n → ∀ j, j < n → (M i j).natAbs ≤ Y) → (det n M).natAbs ≤ (N * Y) ^ n
  | 0, _, _, _ => by simp [det]
  | n + 1, M, hn, h => by
    rw [det_succ]
    have t : ∀ p, p < n + 1 → (sgn (n - p) * M p n * det n (fun i => M (skip p i))).natAbs ≤ Y * (N * Y) ^ n := by
      intro p hp
      rw [Int.natAbs_mul, Int.natAbs_mul]
      have s : (sgn (n - p)).natAbs = 1 := by unfold sgn; split <;> rfl
      rw [s, Nat.one_mul]
      exact Nat.mul_le_mul (h p hp n (by omega)) (det_abs (n := n) (by omega) fun i hi j hj => h (skip p i) (by unfold skip; split <;> omega) j (by omega))
    have := sum_abs t
    refine Nat.le_trans this ?_
    rw [Nat.pow_succ, Nat.mul_comm ((N * Y) ^ n)]
    rw [Nat.mul_assoc]
    exact Nat.mul_le_mul hn (Nat.le_refl _)
theorem Ex.bound {n m Y : Nat} {A B : Mx} (h : Ex n A B) (hA : ∀ i, i < n → ∀ j, j < m → (A i j).natAbs ≤ Y) : ∀ i, i < n → ∀ j, j < m → (B i j).natAbs ≤ Y := by
  induction h with
  | refl => exact hA
  | @step B r s h1 h2 h3 _ ih =>
    intro i hi j hj
    by_cases e1 : i = s
    · subst e1
      rw [exch_s]
      show (- B r j).natAbs ≤ Y
      rw [Int.natAbs_neg]
      exact ih r h1 j hj
    · by_cases e2 : i = r
      · subst e2
        rw [exch_r e1]
        exact ih s h2 j hj
      · rw [exch_ne e2 e1]
        exact ih i hi j hj
theorem pow_up {a s n : Nat} (ha : 1 ≤ a) (h : s ≤ n) : a ^ s ≤ a ^ n := Nat.pow_le_pow_right ha h
theorem BI.bound {n m Y : Nat} {A R : Mx} {k : Nat} {L : Nat → Nat} {last : Int} {c : Nat} {B : Mx} (I : BI n m A R k L last c B) (hn : n ≤ 32) (hY : 1 ≤ Y) (hA : ∀ i, i < n → ∀ j, j < m → (A i j).natAbs ≤ Y) :
    (∀ i, i < n → ∀ j, j < m → (R i j).natAbs ≤ (32 * Y) ^ n) ∧ last.natAbs ≤ (32 * Y) ^ n := by
  have hB := I.ex.bound hA
  have hL : ∀ t, t < k → L t < m := fun t ht => Nat.lt_of_lt_of_le (I.Lc t ht) I.cm
  have bo : ∀ s i j, s ≤ k → s + 1 ≤ n → i < n → j < m → (bord B s L i j).natAbs ≤ (32 * Y) ^ n := by
    intro s i j hs hsn hi hj
    refine Nat.le_trans (det_abs (N := 32) (Y := Y) (by omega) fun r hr t ht => ?_) (pow_up (by omega) hsn)
    refine hB _ ?_ _ ?_
    · unfold row; split <;> omega
    · unfold col; split
      · exact hL t (by omega)
      · exact hj
  refine ⟨fun i hi j hj => ?_, ?_⟩
  · by_cases h : i < k
    · rw [I.top i h j hj]
      exact bo i i j (by omega) (by omega) hi hj
    · rw [I.minor (by omega) hi hj]
      exact bo k i j (Nat.le_refl _) (by omega) hi hj
  · rw [I.ld]
    refine Nat.le_trans (det_abs (N := 32) (Y := Y) (by have := I.kn; omega) fun r hr t ht => ?_) (pow_up (by omega) I.kn)
    exact hB r (by have := I.kn; omega) _ (hL t ht)
end Ba

set_option Elab.async false
set_option linter.all false
set_option maxRecDepth 100000
set_option maxHeartbeats 4000000
namespace K05
open PySem L2 Tf Dm
def top (i : Nat) : Stmt := PySem.Challenge.pw_trialfield_k05_determinant.main.body.getD i (.Pass ⟨0, 0, 0, 0⟩)
structure Bl (mg : Str → Option Value) : Prop where
  abs : mg "abs" = none
  bool : mg "bool" = none
  int : mg "int" = none
  isinstance : mg "isinstance" = none
  len : mg "len" = none
  list : mg "list" = none
  range : mg "range" = none
  tuple : mg "tuple" = none
  zip : mg "zip" = none
abbrev s__wall : Stmt := top 0
theorem sc__wall : FnScope ["k"] ["k"] (defScope s__wall) := ⟨rfl, rfl, rfl, by decide +kernel, rfl, by decide +kernel, by decide +kernel⟩
abbrev s_greatest_divisor : Stmt := top 2
theorem sc_greatest_divisor : FnScope ["one", "other", "rest"] ["one", "other"] (defScope s_greatest_divisor) := ⟨rfl, rfl, rfl, by decide +kernel, rfl, by decide +kernel, by decide +kernel⟩
abbrev s_fraction : Stmt := top 3
theorem sc_fraction : FnScope ["top", "bottom", "divisor"] ["top", "bottom"] (defScope s_fraction) := ⟨rfl, rfl, rfl, by decide +kernel, rfl, by decide +kernel, by decide +kernel⟩
abbrev s_cleared_row : Stmt := top 7
theorem sc_cleared_row : FnScope ["row", "lead_row", "column", "last", "lead", "factor"] ["row", "lead_row", "column", "last"] (defScope s_cleared_row) := ⟨rfl, rfl, rfl, by decide +kernel, rfl, by decide +kernel, by decide +kernel⟩
abbrev s_common_bottom : Stmt := top 8
theorem sc_common_bottom : FnScope ["row", "bottom", "number"] ["row"] (defScope s_common_bottom) := ⟨rfl, rfl, rfl, by decide +kernel, rfl, by decide +kernel, by decide +kernel⟩
abbrev s_whole_row : Stmt := top 9
theorem sc_whole_row : FnScope ["row", "bottom"] ["row"] (defScope s_whole_row) := ⟨rfl, rfl, rfl, by decide +kernel, rfl, by decide +kernel, by decide +kernel⟩
abbrev s_stairs_of : Stmt := top 10
theorem sc_stairs_of : FnScope ["table"] ["table"] (defScope s_stairs_of) := ⟨rfl, rfl, rfl, by decide +kernel, rfl, by decide +kernel, by decide +kernel⟩
abbrev s_determinant : Stmt := top 11
theorem sc_determinant : FnScope ["table", "stairs", "bottom", "row"] ["table"] (defScope s_determinant) := ⟨rfl, rfl, rfl, by decide +kernel, rfl, by decide +kernel, by decide +kernel⟩
abbrev s__law_whole : Stmt := top 13
theorem sc__law_whole : FnScope ["_law_found"] ["_law_found"] (defScope s__law_whole) := ⟨rfl, rfl, rfl, by decide +kernel, rfl, by decide +kernel, by decide +kernel⟩
abbrev s__law_mix : Stmt := top 14
theorem sc__law_mix : FnScope ["_law_cell", "_law_j", "_law_number"] ["_law_cell", "_law_j"] (defScope s__law_mix) := ⟨rfl, rfl, rfl, by decide +kernel, rfl, by decide +kernel, by decide +kernel⟩
abbrev s__law_divisor : Stmt := top 15
theorem sc__law_divisor : FnScope ["_law_one", "_law_other"] ["_law_one", "_law_other"] (defScope s__law_divisor) := ⟨rfl, rfl, rfl, by decide +kernel, rfl, by decide +kernel, by decide +kernel⟩
abbrev s__law_fraction : Stmt := top 16
theorem sc__law_fraction : FnScope ["_law_top", "_law_bottom", "_law_by"] ["_law_top", "_law_bottom"] (defScope s__law_fraction) := ⟨rfl, rfl, rfl, by decide +kernel, rfl, by decide +kernel, by decide +kernel⟩
abbrev s__law_drawn : Stmt := top 17
theorem sc__law_drawn : FnScope ["_law_cell", "_law_j", "_law_drawn_here", "_law_top"] ["_law_cell", "_law_j"] (defScope s__law_drawn) := ⟨rfl, rfl, rfl, by decide +kernel, rfl, by decide +kernel, by decide +kernel⟩
abbrev s__law_table : Stmt := top 18
theorem sc__law_table : FnScope ["_law_cells", "_law_at", "_law_size", "_law_table_here", "_law_i", "_law_one", "_law_cell"] ["_law_cells", "_law_at"] (defScope s__law_table) := ⟨rfl, rfl, rfl, by decide +kernel, rfl, by decide +kernel, by decide +kernel⟩
abbrev s__law_orders : Stmt := top 19
theorem sc__law_orders : FnScope ["_law_many", "_law_orders_here", "_law_k", "_law_more", "_law_order", "_law_at"] ["_law_many"] (defScope s__law_orders) := ⟨rfl, rfl, rfl, by decide +kernel, rfl, by decide +kernel, by decide +kernel⟩
abbrev s__law_odd : Stmt := top 20
theorem sc__law_odd : FnScope ["_law_order", "_law_odd_here", "_law_i", "_law_j"] ["_law_order"] (defScope s__law_odd) := ⟨rfl, rfl, rfl, by decide +kernel, rfl, by decide +kernel, by decide +kernel⟩
abbrev s__law_due : Stmt := top 21
theorem sc__law_due : FnScope ["_law_table_here", "_law_top", "_law_bottom", "_law_order", "_law_upper", "_law_lower", "_law_k"] ["_law_table_here"] (defScope s__law_due) := ⟨rfl, rfl, rfl, by decide +kernel, rfl, by decide +kernel, by decide +kernel⟩
abbrev s_law : Stmt := top 22
theorem sc_law : FnScope ["_law_script", "_law_cells", "_law_at", "_law_table_here", "_law_kept", "_law_found"] ["_law_script"] (defScope s_law) := ⟨rfl, rfl, rfl, by decide +kernel, rfl, by decide +kernel, by decide +kernel⟩
abbrev s_Stairs___init__ : Stmt := inClass (top 6) 0
theorem sc_Stairs___init__ : FnScope ["self", "rows", "column"] ["self", "rows"] (defScope s_Stairs___init__) := ⟨rfl, rfl, rfl, by decide +kernel, rfl, by decide +kernel, by decide +kernel⟩
abbrev s_Stairs_step_down : Stmt := inClass (top 6) 1
theorem sc_Stairs_step_down : FnScope ["self", "column", "top", "place", "lead_row", "beneath"] ["self", "column"] (defScope s_Stairs_step_down) := ⟨rfl, rfl, rfl, by decide +kernel, rfl, by decide +kernel, by decide +kernel⟩
abbrev s_Stairs_place_of_lead : Stmt := inClass (top 6) 2
theorem sc_Stairs_place_of_lead : FnScope ["self", "top", "column", "place"] ["self", "top", "column"] (defScope s_Stairs_place_of_lead) := ⟨rfl, rfl, rfl, by decide +kernel, rfl, by decide +kernel, by decide +kernel⟩
abbrev s_Stairs_exchange : Stmt := inClass (top 6) 3
theorem sc_Stairs_exchange : FnScope ["self", "top", "place", "lowered"] ["self", "top", "place"] (defScope s_Stairs_exchange) := ⟨rfl, rfl, rfl, by decide +kernel, rfl, by decide +kernel, by decide +kernel⟩
abbrev s_Stairs_reduced_column : Stmt := inClass (top 6) 4
theorem sc_Stairs_reduced_column : FnScope ["self", "column"] ["self", "column"] (defScope s_Stairs_reduced_column) := ⟨rfl, rfl, rfl, by decide +kernel, rfl, by decide +kernel, by decide +kernel⟩
def c_NOUGHT : PyData := .tuple [.int 0, .int 1]
section
variable {P : Program} {w : World} {K : PySem.W.Frag} {mg : Str → Option Value} {base : Heap} {f : Addr} {fd : FuncData} {C_Stairs : Addr}
-- _wall: 0:k
noncomputable def b__wall : En → Option Out :=
    (mWhile (mTest (mK (.bool true))) mNext)
noncomputable def m__wall : List PyData → Option Sl := runD 1 b__wall 1
theorem ok__wall (B : Bl mg)    (F : Fun K "_wall" "_wall" s__wall f fd) : FnOk P w K mg base CX0 1 f fd ["k"] (spD K m__wall) := by
  have sc := sc__wall
  exact fnD F sc__wall rfl rfl fun cdv A outer s H E hr =>
    (dss_one (ds_while PassesOwn.never (dt_val (DE.dp de_bool)) (dss_one ds_pass)))
-- greatest_divisor: 0:one 1:other 2:rest
noncomputable def b_greatest_divisor : En → Option Out :=
    (mSeq (mWhile (mTest (mBin dne (mPk 1) (mK (.int 0)))) (mSeq (mAsg 2 (mBin dMod (mPk 0) (mPk 1)))
    (mSeq (mAsg 0 (mVar 1))
    (mFrz 2 (mAsg 1 (mVar 2))))))
    (mRet (mCallP dAbs (mConsP (mPk 0) mNilP))))
noncomputable def m_greatest_divisor : List PyData → Option Sl := runD 3 b_greatest_divisor 2
theorem ok_greatest_divisor (B : Bl mg)    (F : Fun K "greatest_divisor" "greatest_divisor" s_greatest_divisor f fd) : FnOk P w K mg base CX0 1 f fd ["one", "other"] (spD K m_greatest_divisor) := by
  have sc := sc_greatest_divisor
  exact fnD F sc_greatest_divisor rfl rfl fun cdv A outer s H E hr =>
    (dss_cons (ds_while PassesOwn.never (dt_ne hr.units (dp_var 1) (DE.dp de_int)) (dss_cons (ds_set 2 (de_mod (dp_var 0) (dp_var 1)) sc.nd)
    (dss_cons (ds_set 0 (de_var 1) sc.nd)
    (dss_one (ds_frz 2 (ds_set 1 (de_var 2) sc.nd))))))
    (dss_one (ds_ret (de_blt call_abs cd_abs bt_abs B.abs (dq_cons (dp_var 0) dq_nil)))))
-- fraction: 0:top 1:bottom 2:divisor
noncomputable def b_fraction : En → Option Out :=
    (mSeq (mAsg 2 (mCall m_greatest_divisor (mCons (mVar 0) (mCons (mVar 1) mNil))))
    (mSeq (mIf (mTest (mBin dLt (mPk 1) (mK (.int 0)))) (mAsg 2 (mUn (iun fun i => -i) (mPk 2))) mNext)
    (mRet (mTup (mCons (mBin dFdiv (mPk 0) (mPk 2)) (mCons (mBin dFdiv (mPk 1) (mPk 2)) mNil))))))
noncomputable def m_fraction : List PyData → Option Sl := runD 3 b_fraction 2
theorem ok_fraction (B : Bl mg) (D_greatest_divisor : Def P w K mg base 1 "greatest_divisor" ["one", "other"] (spD K m_greatest_divisor))   (F : Fun K "fraction" "fraction" s_fraction f fd) : FnOk P w K mg base CX0 2 f fd ["top", "bottom"] (spD K m_fraction) := by
  have sc := sc_fraction
  exact fnD F sc_fraction rfl rfl fun cdv A outer s H E hr =>
    (dss_cons (ds_set 2 (de_call D_greatest_divisor hr (da_cons (de_var 0) (da_cons (de_var 1) da_nil))) sc.nd)
    (dss_cons (ds_if (dt_lt (dp_var 1) (DE.dp de_int)) (dss_one (ds_set 2 (de_neg (dp_var 2)) sc.nd)) dss_nil)
    (dss_one (ds_ret (de_tup (da_cons (de_fdiv (dp_var 0) (dp_var 2)) (da_cons (de_fdiv (dp_var 1) (dp_var 2)) da_nil)))))))
-- cleared_row: 0:row 1:lead_row 2:column 3:last 4:lead 5:factor
noncomputable def b_cleared_row : En → Option Out :=
    (mSeq (mAsg 4 (mBin dix (mPk 1) (mPk 2)))
    (mSeq (mAsg 5 (mBin dix (mPk 0) (mPk 2)))
    (mRet (mLC (subE [some 4, some 5, some 3, none, none]) (mZip (mCons (mVar 0) (mCons (mVar 1) mNil))) (gTupD [(gVar 3), (gVar 4)]) mYes (mBin dFdiv (mBin dSub (mBin dRep (mPk 0) (mPk 3)) (mBin dRep (mPk 1) (mPk 4))) (mPk 2))))))
noncomputable def m_cleared_row : List PyData → Option Sl := runD 6 b_cleared_row 4
theorem ok_cleared_row (B : Bl mg)    (F : Fun K "cleared_row" "cleared_row" s_cleared_row f fd) : FnOk P w K mg base CX0 1 f fd ["row", "lead_row", "column", "last"] (spD K m_cleared_row) := by
  have sc := sc_cleared_row
  exact fnD F sc_cleared_row rfl rfl fun cdv A outer s H E hr =>
    (dss_cons (ds_set 4 (de_ix (dp_var 1) (dp_var 2)) sc.nd)
    (dss_cons (ds_set 5 (de_ix (dp_var 0) (dp_var 2)) sc.nd)
    (dss_one (ds_ret (de_lc (N' := ["lead", "factor", "last", "number", "above"]) (R' := PR K) cx_scope1 cx_names1 [some 4, some 5, some 3, none, none] (subE [some 4, some 5, some 3, none, none]) pr_sub (di_zip B.zip (da_cons (de_var 0) (da_cons (de_var 1) da_nil))) (fun _ => (dgk_tup (dgks_cons (dgk_name 3 (show List.Nodup (α := Str) ["lead", "factor", "last", "number", "above"] by decide +kernel)) (dgks_cons (dgk_name 4 (show List.Nodup (α := Str) ["lead", "factor", "last", "number", "above"] by decide +kernel)) dgks_nil)))) (fun _ => dts_nil) (fun _ => (de_fdiv (DE.dp (de_sub (DE.dp (de_mul (dp_var 0) (dp_var 3))) (DE.dp (de_mul (dp_var 1) (dp_var 4))))) (dp_var 2))))))))
-- common_bottom: 0:row 1:bottom 2:number
noncomputable def b_common_bottom : En → Option Out :=
    (mSeq (mAsg 1 (mK (.int 1)))
    (mSeq (mFor (mItems (mVar 0)) (gVar 2) (mFrz 1 (mAsg 1 (mBin dRep (mBin dFdiv (mPk 1) (mCall m_greatest_divisor (mCons (mVar 1) (mCons (mBin dix (mPk 2) (mK (.int 1))) mNil)))) (mBin dix (mPk 2) (mK (.int 1)))))))
    (mRet (mPk 1))))
noncomputable def m_common_bottom : List PyData → Option Sl := runD 3 b_common_bottom 1
theorem ok_common_bottom (B : Bl mg) (D_greatest_divisor : Def P w K mg base 1 "greatest_divisor" ["one", "other"] (spD K m_greatest_divisor))   (F : Fun K "common_bottom" "common_bottom" s_common_bottom f fd) : FnOk P w K mg base CX0 2 f fd ["row"] (spD K m_common_bottom) := by
  have sc := sc_common_bottom
  exact fnD F sc_common_bottom rfl rfl fun cdv A outer s H E hr =>
    (dss_cons (ds_set 1 de_int sc.nd)
    (dss_cons (ds_for PassesOwn.never (di_list (de_var 0)) (dg_name 2 sc.nd) (dss_one (ds_frz 1 (ds_set 1 (de_mul (DE.dp (de_fdiv (dp_var 1) (DE.dp (de_call D_greatest_divisor hr (da_cons (de_var 1) (da_cons (de_ix (dp_var 2) (DE.dp de_int)) da_nil)))))) (DE.dp (de_ix (dp_var 2) (DE.dp de_int)))) sc.nd))))
    (dss_one (ds_retV 1))))
-- whole_row: 0:row 1:bottom
noncomputable def b_whole_row : En → Option Out :=
    (mSeq (mAsg 1 (mCall m_common_bottom (mCons (mVar 0) mNil)))
    (mRet (mLC (subE [some 1, none]) (mItems (mVar 0)) (gVar 1) mYes (mBin dRep (mBin dix (mPk 1) (mK (.int 0))) (mBin dFdiv (mPk 0) (mBin dix (mPk 1) (mK (.int 1))))))))
noncomputable def m_whole_row : List PyData → Option Sl := runD 2 b_whole_row 1
theorem ok_whole_row (B : Bl mg) (D_common_bottom : Def P w K mg base 2 "common_bottom" ["row"] (spD K m_common_bottom))   (F : Fun K "whole_row" "whole_row" s_whole_row f fd) : FnOk P w K mg base CX0 3 f fd ["row"] (spD K m_whole_row) := by
  have sc := sc_whole_row
  exact fnD F sc_whole_row rfl rfl fun cdv A outer s H E hr =>
    (dss_cons (ds_set 1 (de_call D_common_bottom hr (da_cons (de_var 0) da_nil)) sc.nd)
    (dss_one (ds_ret (de_lc (N' := ["bottom", "number"]) (R' := PR K) cx_scope1 cx_names1 [some 1, none] (subE [some 1, none]) pr_sub (di_list (de_var 0)) (fun _ => (dgk_name 1 (show List.Nodup (α := Str) ["bottom", "number"] by decide +kernel))) (fun _ => dts_nil) (fun _ => (de_mul (DE.dp (de_ix (dp_var 1) (DE.dp de_int))) (DE.dp (de_fdiv (dp_var 0) (DE.dp (de_ix (dp_var 1) (DE.dp de_int)))))))))))
-- Stairs_place_of_lead: 0:self 1:top 2:column 3:place | 4:rows 5:leads 6:last
noncomputable def b_Stairs_place_of_lead : En → Option Out :=
    (mSeq (mFor (mRng2 (mConsP (mPk 1) (mConsP (mCallP dLen (mConsP (mPk 4) mNilP)) mNilP))) (gVar 3) (mIf (mTest (mBin dne (mBin dix (mBin dix (mPk 4) (mPk 3)) (mPk 2)) (mK (.int 0)))) (mRet (mPk 3)) mNext))
    (mRet (mK .none)))
noncomputable def m_Stairs_place_of_lead : En → List PyData → Option (En × PyData) := runM 4 3 3 b_Stairs_place_of_lead
theorem ok_Stairs_place_of_lead (B : Bl mg)   (K_Stairs : Klass K C_Stairs ["rows", "leads", "last"]) (F : Fun K "place_of_lead" "Stairs.place_of_lead" s_Stairs_place_of_lead f fd) : FnOk P w K mg base CX0 1 f fd ["self", "top", "column"] (spM K C_Stairs ["rows", "leads", "last"] m_Stairs_place_of_lead) := by
  have sc := sc_Stairs_place_of_lead
  exact fnM F sc_Stairs_place_of_lead rfl rfl rfl fun cdv A outer s H E p hr =>
    (dss_cons (ds_for PassesOwn.never (di_range2 B.range (dq_cons (dp_var 1) (dq_cons (DE.dp (de_blt call_len_seq cd_len bt_len B.len (dq_cons (dp_fld 0 K_Stairs) dq_nil))) dq_nil))) (dg_name 3 sc.nd) (dss_one (ds_if (dt_ne hr.units (DE.dp (de_ix (DE.dp (de_ix (dp_fld 0 K_Stairs) (dp_var 3))) (dp_var 2))) (DE.dp de_int)) (dss_one (ds_retV 3)) dss_nil)))
    (dss_one (ds_ret de_none)))
-- Stairs_exchange: 0:self 1:top 2:place 3:lowered | 4:rows 5:leads 6:last
noncomputable def b_Stairs_exchange : En → Option Out :=
    (mSeq (mIf (mTest (mBin deq (mPk 2) (mPk 1))) mRetN mNext)
    (mSeq (mAsg 3 (mLC (subE [none]) (mItems (mBin dix (mPk 4) (mPk 1))) (gVar 0) mYes (mUn (iun fun i => -i) (mPk 0))))
    (mSeq (mSet 4 (mPk 1) (mBin dix (mPk 4) (mPk 2)))
    (mFrz 3 (mSet 4 (mPk 2) (mVar 3))))))
noncomputable def m_Stairs_exchange : En → List PyData → Option (En × PyData) := runM 4 3 3 b_Stairs_exchange
theorem ok_Stairs_exchange (B : Bl mg)   (K_Stairs : Klass K C_Stairs ["rows", "leads", "last"]) (F : Fun K "exchange" "Stairs.exchange" s_Stairs_exchange f fd) : FnOk P w K mg base CX0 1 f fd ["self", "top", "place"] (spM K C_Stairs ["rows", "leads", "last"] m_Stairs_exchange) := by
  have sc := sc_Stairs_exchange
  exact fnM F sc_Stairs_exchange rfl rfl rfl fun cdv A outer s H E p hr =>
    (dss_cons (ds_if (dt_eq hr.units (dp_var 2) (dp_var 1)) (dss_one ds_retN) dss_nil)
    (dss_cons (ds_setC (N' := ["number"]) (R' := PR K) cx_scope1 cx_names1 3 [none] (subE [none]) fr_sub0 sc.nd (di_list (de_ix (dp_fld 0 K_Stairs) (dp_var 1))) (fun _ => (dgk_name 0 (show List.Nodup (α := Str) ["number"] by decide +kernel))) (fun _ => dts_nil) (fun _ => (de_neg (dp_var 0))))
    (dss_cons (ds_setF 0 K_Stairs (de_ix (dp_fld 0 K_Stairs) (dp_var 2)) (dp_var 1))
    (dss_one (ds_frz 3 (ds_setF 0 K_Stairs (de_var 3) (dp_var 2)))))))
-- Stairs_step_down: 0:self 1:column 2:top 3:place 4:lead_row 5:beneath | 6:rows 7:leads 8:last
noncomputable def b_Stairs_step_down : En → Option Out :=
    (mSeq (mAsg 2 (mCallP dLen (mConsP (mPk 7) mNilP)))
    (mSeq (mFrz 2 (mMeth 6 m_Stairs_place_of_lead (mCons (mVar 2) (mCons (mVar 1) mNil)) fun ρ d => some (.nx (ρ.set 3 (some (.val d))))))
    (mSeq (mIf (mTest (mBin disN (mPk 3) (mK .none))) mRetN mNext)
    (mSeq (mFrz 2 (mFrz 3 (mMeth 6 m_Stairs_exchange (mCons (mVar 2) (mCons (mVar 3) mNil)) fun ρ _ => some (.nx ρ))))
    (mSeq (mAsg 4 (mBin dix (mPk 6) (mPk 2)))
    (mSeq (mFrz 4 (mAsg 5 (mLC (subF [some 4, some 1, some 0, none] 6) (mItems (mSl (mPk 6) (mPart (mBin dAdd (mPk 2) (mK (.int 1)))) mNoPart)) (gVar 3) mYes (mCall m_cleared_row (mCons (mVar 3) (mCons (mVar 0) (mCons (mVar 1) (mCons (mVar 6) mNil))))))))
    (mSeq (mAsg 6 (mBin dAdd (mSl (mPk 6) mNoPart (mPart (mBin dAdd (mPk 2) (mK (.int 1))))) (mPk 5)))
    (mSeq (mApp 7 (mVar 1))
    (mAsg 8 (mBin dix (mPk 4) (mPk 1)))))))))))
noncomputable def m_Stairs_step_down : En → List PyData → Option (En × PyData) := runM 6 2 3 b_Stairs_step_down
theorem ok_Stairs_step_down (B : Bl mg) (D_Stairs_place_of_lead : MDef P w K mg base 1 C_Stairs "place_of_lead" ["self", "top", "column"] (spM K C_Stairs ["rows", "leads", "last"] m_Stairs_place_of_lead)) (D_Stairs_exchange : MDef P w K mg base 1 C_Stairs "exchange" ["self", "top", "place"] (spM K C_Stairs ["rows", "leads", "last"] m_Stairs_exchange)) (D_cleared_row : Def P w K mg base 1 "cleared_row" ["row", "lead_row", "column", "last"] (spD K m_cleared_row))  (K_Stairs : Klass K C_Stairs ["rows", "leads", "last"]) (F : Fun K "step_down" "Stairs.step_down" s_Stairs_step_down f fd) : FnOk P w K mg base CX0 2 f fd ["self", "column"] (spM K C_Stairs ["rows", "leads", "last"] m_Stairs_step_down) := by
  have sc := sc_Stairs_step_down
  exact fnM F sc_Stairs_step_down rfl rfl rfl fun cdv A outer s H E p hr =>
    (dss_cons (ds_set 2 (de_blt call_len_seq cd_len bt_len B.len (dq_cons (dp_fld 1 K_Stairs) dq_nil)) sc.nd)
    (dss_cons (ds_frz 2 (ds_methA 3 D_Stairs_place_of_lead K_Stairs hr (da_cons (de_var 2) (da_cons (de_var 1) da_nil)) sc.nd))
    (dss_cons (ds_if (dt_isN (dp_var 3) (DE.dp de_none)) (dss_one ds_retN) dss_nil)
    (dss_cons (ds_frz 2 (ds_frz 3 (ds_methE D_Stairs_exchange K_Stairs hr (da_cons (de_var 2) (da_cons (de_var 3) da_nil)))))
    (dss_cons (ds_set 4 (de_ix (dp_fld 0 K_Stairs) (dp_var 2)) sc.nd)
    (dss_cons (ds_frz 4 (ds_setC (N' := ["lead_row", "column", "self", "row"]) (R' := FR K ⟨C_Stairs, ["rows", "leads", "last"], 2, 4, p⟩) cx_scope1 cx_names1 5 [some 4, some 1, some 0, none] (subF [some 4, some 1, some 0, none] 6) fr_sub sc.nd (di_list (de_sl (dp_fld 0 K_Stairs) (do_some (DE.dp (de_add (dp_var 2) (DE.dp de_int)))) do_none)) (fun _ => (dgk_name 3 (show List.Nodup (α := Str) ["lead_row", "column", "self", "row"] by decide +kernel))) (fun _ => dts_nil) (fun _ => (de_call D_cleared_row hr (da_cons (de_var 3) (da_cons (de_var 0) (da_cons (de_var 1) (da_cons (de_fld 2 K_Stairs) da_nil))))))))
    (dss_cons (ds_fld 0 K_Stairs (de_add (DE.dp (de_sl (dp_fld 0 K_Stairs) do_none (do_some (DE.dp (de_add (dp_var 2) (DE.dp de_int)))))) (dp_var 5)))
    (dss_cons (ds_appF 1 K_Stairs (de_var 1))
    (dss_one (ds_fld 2 K_Stairs (de_ix (dp_var 4) (dp_var 1))))))))))))
-- Stairs___init__: 0:self 1:rows 2:column | 3:rows 4:leads 5:last
noncomputable def b_Stairs___init__ : En → Option Out :=
    (mSeq (mAsg 3 (mCallP dList (mConsP (mPk 1) mNilP)))
    (mSeq (mAsg 4 (mLst mNil))
    (mSeq (mAsg 5 (mK (.int 1)))
    (mFor (mRng1 (mConsP (mCallP dLen (mConsP (mBin dix (mPk 1) (mK (.int 0))) mNilP)) mNilP)) (gVar 2) (mMeth 3 m_Stairs_step_down (mCons (mVar 2) mNil) fun ρ _ => some (.nx ρ))))))
noncomputable def m_Stairs___init__ : En → List PyData → Option (En × PyData) := runM 3 2 3 b_Stairs___init__
theorem ok_Stairs___init__ (B : Bl mg) (D_Stairs_step_down : MDef P w K mg base 2 C_Stairs "step_down" ["self", "column"] (spM K C_Stairs ["rows", "leads", "last"] m_Stairs_step_down))  (K_Stairs : Klass K C_Stairs ["rows", "leads", "last"]) (F : Fun K "__init__" "Stairs.__init__" s_Stairs___init__ f fd) : FnOk P w K mg base CX0 3 f fd ["self", "rows"] (spM K C_Stairs ["rows", "leads", "last"] m_Stairs___init__) := by
  have sc := sc_Stairs___init__
  exact fnM F sc_Stairs___init__ rfl rfl rfl fun cdv A outer s H E p hr =>
    (dss_cons (ds_fld 0 K_Stairs (de_ty call_list_of cd_list bt_list B.list (dq_cons (dp_var 1) dq_nil)))
    (dss_cons (ds_fld 1 K_Stairs (de_lst da_nil))
    (dss_cons (ds_fld 2 K_Stairs de_int)
    (dss_one (ds_for PassesOwn.never (di_range1 B.range (dq_cons (DE.dp (de_blt call_len_seq cd_len bt_len B.len (dq_cons (DE.dp (de_ix (dp_var 1) (DE.dp de_int))) dq_nil))) dq_nil)) (dg_name 2 sc.nd) (dss_one (ds_methE D_Stairs_step_down K_Stairs hr (da_cons (de_var 2) da_nil))))))))
-- stairs_of: 0:table
noncomputable def m_stairs_of : List PyData → Option En := runO 1 1 (mMake 3 m_Stairs___init__ (mCons (mLC (subE [none]) (mItems (mVar 0)) (gVar 0) mYes (mCall m_whole_row (mCons (mVar 0) mNil))) mNil))
theorem ok_stairs_of (B : Bl mg) (D_whole_row : Def P w K mg base 3 "whole_row" ["row"] (spD K m_whole_row)) (D_Stairs___init__ : KDef P w K mg base 3 C_Stairs "Stairs" ["self", "rows"] (spM K C_Stairs ["rows", "leads", "last"] m_Stairs___init__))  (K_Stairs : Klass K C_Stairs ["rows", "leads", "last"]) (F : Fun K "stairs_of" "stairs_of" s_stairs_of f fd) : FnOk P w K mg base CX0 5 f fd ["table"] (spO K C_Stairs ["rows", "leads", "last"] m_stairs_of) := by
  have sc := sc_stairs_of
  exact fnO F sc_stairs_of rfl rfl rfl fun cdv A outer s H E hr =>
    (db_make D_Stairs___init__ hr (da_cons (de_lc (N' := ["row"]) (R' := PR K) cx_scope1 cx_names1 [none] (subE [none]) pr_sub (di_list (de_var 0)) (fun _ => (dgk_name 0 (show List.Nodup (α := Str) ["row"] by decide +kernel))) (fun _ => dts_nil) (fun _ => (de_call D_whole_row hr (da_cons (de_var 0) da_nil)))) da_nil))
-- determinant: 0:table 1:stairs 2:bottom 3:row
noncomputable def b_determinant : En → Option Out :=
    (mObj 4 1 (mCallO m_stairs_of (mCons (mVar 0) mNil))
    (mSeq (mIf (mTest (mBin dLt (mCallP dLen (mConsP (mPk 5) mNilP)) (mCallP dLen (mConsP (mPk 0) mNilP)))) (mRet (mK c_NOUGHT)) mNext)
    (mSeq (mAsg 2 (mK (.int 1)))
    (mSeq (mFor (mItems (mVar 0)) (gVar 3) (mAsg 2 (mBin dRep (mPk 2) (mCall m_common_bottom (mCons (mVar 3) mNil)))))
    (mFrz 2 (mRet (mCall m_fraction (mCons (mVar 6) (mCons (mVar 2) mNil)))))))))
noncomputable def m_determinant : List PyData → Option Sl := runD 4 b_determinant 1
theorem ok_determinant (B : Bl mg) (D_stairs_of : Def P w K mg base 5 "stairs_of" ["table"] (spO K C_Stairs ["rows", "leads", "last"] m_stairs_of)) (D_common_bottom : Def P w K mg base 2 "common_bottom" ["row"] (spD K m_common_bottom)) (D_fraction : Def P w K mg base 2 "fraction" ["top", "bottom"] (spD K m_fraction)) (C_NOUGHT : GlobC K mg "NOUGHT" c_NOUGHT) (K_Stairs : Klass K C_Stairs ["rows", "leads", "last"]) (F : Fun K "determinant" "determinant" s_determinant f fd) : FnOk P w K mg base CX0 6 f fd ["table"] (spD K m_determinant) := by
  have sc := sc_determinant
  exact fnD F sc_determinant rfl rfl fun cdv A outer s H E hr =>
    (dss_obj 1 4 (db_call D_stairs_of hr (da_cons (de_var 0) da_nil)) (fun p =>
    (dss_cons (ds_if (dt_lt (DE.dp (de_blt call_len_seq cd_len bt_len B.len (dq_cons (dp_fld 1 K_Stairs) dq_nil))) (DE.dp (de_blt call_len_seq cd_len bt_len B.len (dq_cons (dp_var 0) dq_nil)))) (dss_one (ds_ret (de_globC C_NOUGHT))) dss_nil)
    (dss_cons (ds_set 2 de_int sc.nd)
    (dss_cons (ds_for PassesOwn.never (di_list (de_var 0)) (dg_name 3 sc.nd) (dss_one (ds_set 2 (de_mul (dp_var 2) (DE.dp (de_call D_common_bottom hr (da_cons (de_var 3) da_nil)))) sc.nd)))
    (dss_one (ds_frz 2 (ds_ret (de_call D_fraction hr (da_cons (de_fld 2 K_Stairs) (da_cons (de_var 2) da_nil)))))))))) sc.nd)
-- _law_whole: 0:_law_found
noncomputable def b__law_whole : En → Option Out :=
    (mRet (mAndV (mIsi "int" (mPk 0)) (mNotV (mIsi "bool" (mPk 0)))))
noncomputable def m__law_whole : List PyData → Option Sl := runD 1 b__law_whole 1
theorem ok__law_whole (B : Bl mg)    (F : Fun K "_law_whole" "_law_whole" s__law_whole f fd) : FnOk P w K mg base CX0 1 f fd ["_law_found"] (spD K m__law_whole) := by
  have sc := sc__law_whole
  exact fnD F sc__law_whole rfl rfl fun cdv A outer s H E hr =>
    (dss_one (ds_ret (de_and (de_isi bt_int B.int B.isinstance (dp_var 0)) (de_and1 (de_not (de_isi bt_bool B.bool B.isinstance (dp_var 0)))))))
-- _law_mix: 0:_law_cell 1:_law_j 2:_law_number
noncomputable def b__law_mix : En → Option Out :=
    (mSeq (mIf (mTest (mBin deq (mBin dMod (mPk 0) (mK (.int 2))) (mK (.int 1)))) (mRet (mBin dMod (mBin dShr (mPk 0) (mBin dAdd (mK (.int 1)) (mBin dRep (mK (.int 10)) (mPk 1)))) (mK (.int 1024)))) mNext)
    (mSeq (mAsg 2 (mBin dMod (mBin dAdd (mBin dRep (mPk 0) (mBin dAdd (mBin dRep (mK (.int 2)) (mPk 1)) (mK (.int 3)))) (mPk 1)) (mK (.int 2147483629))))
    (mSeq (mAsg 2 (mBin dMod (mBin dRep (mBin dAdd (mBin dRep (mPk 2) (mPk 2)) (mK (.int 1))) (mK (.int 48271))) (mK (.int 2147483629))))
    (mRet (mBin dMod (mBin dRep (mPk 2) (mPk 2)) (mK (.int 2147483587)))))))
noncomputable def m__law_mix : List PyData → Option Sl := runD 3 b__law_mix 2
theorem ok__law_mix (B : Bl mg)    (F : Fun K "_law_mix" "_law_mix" s__law_mix f fd) : FnOk P w K mg base CX0 1 f fd ["_law_cell", "_law_j"] (spD K m__law_mix) := by
  have sc := sc__law_mix
  exact fnD F sc__law_mix rfl rfl fun cdv A outer s H E hr =>
    (dss_cons (ds_if (dt_eq hr.units (DE.dp (de_mod (dp_var 0) (DE.dp de_int))) (DE.dp de_int)) (dss_one (ds_ret (de_mod (DE.dp (de_shr (dp_var 0) (DE.dp (de_add (DE.dp de_int) (DE.dp (de_mul (DE.dp de_int) (dp_var 1))))))) (DE.dp de_int)))) dss_nil)
    (dss_cons (ds_set 2 (de_mod (DE.dp (de_add (DE.dp (de_mul (dp_var 0) (DE.dp (de_add (DE.dp (de_mul (DE.dp de_int) (dp_var 1))) (DE.dp de_int))))) (dp_var 1))) (DE.dp de_int)) sc.nd)
    (dss_cons (ds_set 2 (de_mod (DE.dp (de_mul (DE.dp (de_add (DE.dp (de_mul (dp_var 2) (dp_var 2))) (DE.dp de_int))) (DE.dp de_int))) (DE.dp de_int)) sc.nd)
    (dss_one (ds_ret (de_mod (DE.dp (de_mul (dp_var 2) (dp_var 2))) (DE.dp de_int)))))))
-- _law_divisor: 0:_law_one 1:_law_other
noncomputable def b__law_divisor : En → Option Out :=
    (mSeq (mWhile (mTest (mBin dne (mPk 1) (mK (.int 0)))) (mPar 0 1 (mCons (mVar 1) (mCons (mBin dMod (mPk 0) (mPk 1)) mNil))))
    (mRet (mCallP dAbs (mConsP (mPk 0) mNilP))))
noncomputable def m__law_divisor : List PyData → Option Sl := runD 2 b__law_divisor 2
theorem ok__law_divisor (B : Bl mg)    (F : Fun K "_law_divisor" "_law_divisor" s__law_divisor f fd) : FnOk P w K mg base CX0 1 f fd ["_law_one", "_law_other"] (spD K m__law_divisor) := by
  have sc := sc__law_divisor
  exact fnD F sc__law_divisor rfl rfl fun cdv A outer s H E hr =>
    (dss_cons (ds_while PassesOwn.never (dt_ne hr.units (dp_var 1) (DE.dp de_int)) (dss_one (ds_par 0 1 (da_cons (de_var 1) (da_cons (de_mod (dp_var 0) (dp_var 1)) da_nil)) sc.nd)))
    (dss_one (ds_ret (de_blt call_abs cd_abs bt_abs B.abs (dq_cons (dp_var 0) dq_nil)))))
-- _law_fraction: 0:_law_top 1:_law_bottom 2:_law_by
noncomputable def b__law_fraction : En → Option Out :=
    (mSeq (mAsg 2 (mCall m__law_divisor (mCons (mVar 0) (mCons (mVar 1) mNil))))
    (mRet (mTup (mCons (mBin dFdiv (mPk 0) (mPk 2)) (mCons (mBin dFdiv (mPk 1) (mPk 2)) mNil)))))
noncomputable def m__law_fraction : List PyData → Option Sl := runD 3 b__law_fraction 2
theorem ok__law_fraction (B : Bl mg) (D__law_divisor : Def P w K mg base 1 "_law_divisor" ["_law_one", "_law_other"] (spD K m__law_divisor))   (F : Fun K "_law_fraction" "_law_fraction" s__law_fraction f fd) : FnOk P w K mg base CX0 2 f fd ["_law_top", "_law_bottom"] (spD K m__law_fraction) := by
  have sc := sc__law_fraction
  exact fnD F sc__law_fraction rfl rfl fun cdv A outer s H E hr =>
    (dss_cons (ds_set 2 (de_call D__law_divisor hr (da_cons (de_var 0) (da_cons (de_var 1) da_nil))) sc.nd)
    (dss_one (ds_ret (de_tup (da_cons (de_fdiv (dp_var 0) (dp_var 2)) (da_cons (de_fdiv (dp_var 1) (dp_var 2)) da_nil))))))
-- _law_drawn: 0:_law_cell 1:_law_j 2:_law_drawn_here 3:_law_top
noncomputable def b__law_drawn : En → Option Out :=
    (mSeq (mAsg 2 (mCall m__law_mix (mCons (mVar 0) (mCons (mVar 1) mNil))))
    (mSeq (mAsg 3 (mBin dix (mLst (mCons (mK (.int 0)) (mCons (mBin dSub (mBin dMod (mBin dFdiv (mPk 2) (mK (.int 3))) (mK (.int 13))) (mK (.int 6))) (mCons (mBin dSub (mBin dMod (mBin dFdiv (mPk 2) (mK (.int 3))) (mK (.int 13))) (mK (.int 6))) mNil)))) (mBin dMod (mPk 2) (mK (.int 3)))))
    (mSeq (mIf (mTest (mBin deq (mBin dMod (mPk 2) (mK (.int 11))) (mK (.int 0)))) (mAsg 3 (mBin dSub (mBin dMod (mBin dAdd (mBin dRep (mPk 0) (mBin dAdd (mPk 1) (mK (.int 1)))) (mPk 2)) (mBin dSub (mBin dRep (mK (.int 2)) (mBin dPow (mK (.int 10)) (mK (.int 40)))) (mK (.int 1)))) (mBin dSub (mBin dPow (mK (.int 10)) (mK (.int 40))) (mK (.int 1))))) mNext)
    (mFrz 3 (mRet (mCall m__law_fraction (mCons (mVar 3) (mCons (mBin dAdd (mK (.int 1)) (mBin dMod (mBin dFdiv (mPk 2) (mK (.int 39))) (mK (.int 6)))) mNil))))))))
noncomputable def m__law_drawn : List PyData → Option Sl := runD 4 b__law_drawn 2
theorem ok__law_drawn (B : Bl mg) (D__law_mix : Def P w K mg base 1 "_law_mix" ["_law_cell", "_law_j"] (spD K m__law_mix)) (D__law_fraction : Def P w K mg base 2 "_law_fraction" ["_law_top", "_law_bottom"] (spD K m__law_fraction))   (F : Fun K "_law_drawn" "_law_drawn" s__law_drawn f fd) : FnOk P w K mg base CX0 3 f fd ["_law_cell", "_law_j"] (spD K m__law_drawn) := by
  have sc := sc__law_drawn
  exact fnD F sc__law_drawn rfl rfl fun cdv A outer s H E hr =>
    (dss_cons (ds_set 2 (de_call D__law_mix hr (da_cons (de_var 0) (da_cons (de_var 1) da_nil))) sc.nd)
    (dss_cons (ds_set 3 (de_ix (DE.dp (de_lst (da_cons de_int (da_cons (de_sub (DE.dp (de_mod (DE.dp (de_fdiv (dp_var 2) (DE.dp de_int))) (DE.dp de_int))) (DE.dp de_int)) (da_cons (de_sub (DE.dp (de_mod (DE.dp (de_fdiv (dp_var 2) (DE.dp de_int))) (DE.dp de_int))) (DE.dp de_int)) da_nil))))) (DE.dp (de_mod (dp_var 2) (DE.dp de_int)))) sc.nd)
    (dss_cons (ds_if (dt_eq hr.units (DE.dp (de_mod (dp_var 2) (DE.dp de_int))) (DE.dp de_int)) (dss_one (ds_set 3 (de_sub (DE.dp (de_mod (DE.dp (de_add (DE.dp (de_mul (dp_var 0) (DE.dp (de_add (dp_var 1) (DE.dp de_int))))) (dp_var 2))) (DE.dp (de_sub (DE.dp (de_mul (DE.dp de_int) (DE.dp (de_pow (DE.dp de_int) (DE.dp de_int))))) (DE.dp de_int))))) (DE.dp (de_sub (DE.dp (de_pow (DE.dp de_int) (DE.dp de_int))) (DE.dp de_int)))) sc.nd)) dss_nil)
    (dss_one (ds_frz 3 (ds_ret (de_call D__law_fraction hr (da_cons (de_var 3) (da_cons (de_add (DE.dp de_int) (DE.dp (de_mod (DE.dp (de_fdiv (dp_var 2) (DE.dp de_int))) (DE.dp de_int)))) da_nil)))))))))
-- _law_table: 0:_law_cells 1:_law_at 2:_law_size 3:_law_table_here 4:_law_i 5:_law_one 6:_law_cell
noncomputable def b__law_table : En → Option Out :=
    (mSeq (mAsg 2 (mBin dix (mLst (mCons (mK (.int 1)) (mCons (mK (.int 2)) (mCons (mK (.int 3)) (mCons (mK (.int 4)) mNil))))) (mBin dMod (mCall m__law_mix (mCons (mBin dix (mPk 0) (mPk 1)) (mCons (mK (.int 1)) mNil))) (mK (.int 4)))))
    (mSeq (mAsg 3 (mLst mNil))
    (mSeq (mFor (mRng1 (mConsP (mPk 2) mNilP)) (gVar 4) (mSeq (mAsg 6 (mBin dix (mPk 0) (mBin dMod (mBin dAdd (mPk 1) (mPk 4)) (mCallP dLen (mConsP (mPk 0) mNilP)))))
    (mFrz 6 (mApp 3 (mLC (subE [some 6, some 4, none]) (mRng1 (mConsP (mPk 2) mNilP)) (gVar 2) mYes (mCall m__law_drawn (mCons (mVar 0) (mCons (mBin dAdd (mBin dAdd (mK (.int 10)) (mBin dRep (mK (.int 6)) (mPk 1))) (mPk 2)) mNil))))))))
    (mSeq (mAsg 5 (mBin dMod (mCall m__law_mix (mCons (mBin dix (mPk 0) (mPk 1)) (mCons (mK (.int 2)) mNil))) (mPk 2)))
    (mSeq (mIf (mTest (mBin deq (mBin dMod (mCall m__law_mix (mCons (mBin dix (mPk 0) (mPk 1)) (mCons (mK (.int 3)) mNil))) (mK (.int 8))) (mK (.int 1)))) (mSet 3 (mPk 5) (mCallP dList (mConsP (mBin dix (mPk 3) (mBin dMod (mCall m__law_mix (mCons (mBin dix (mPk 0) (mPk 1)) (mCons (mK (.int 4)) mNil))) (mPk 2))) mNilP))) mNext)
    (mSeq (mIf (mTest (mBin deq (mBin dMod (mCall m__law_mix (mCons (mBin dix (mPk 0) (mPk 1)) (mCons (mK (.int 3)) mNil))) (mK (.int 8))) (mK (.int 2)))) (mSet 3 (mPk 5) (mLC (subE [none]) (mRng1 (mConsP (mPk 2) mNilP)) (gVar 0) mYes (mTup (mCons (mK (.int 0)) (mCons (mK (.int 1)) mNil))))) mNext)
    (mRet (mPk 3))))))))
noncomputable def m__law_table : List PyData → Option Sl := runD 7 b__law_table 2
theorem ok__law_table (B : Bl mg) (D__law_mix : Def P w K mg base 1 "_law_mix" ["_law_cell", "_law_j"] (spD K m__law_mix)) (D__law_drawn : Def P w K mg base 3 "_law_drawn" ["_law_cell", "_law_j"] (spD K m__law_drawn))   (F : Fun K "_law_table" "_law_table" s__law_table f fd) : FnOk P w K mg base CX0 4 f fd ["_law_cells", "_law_at"] (spD K m__law_table) := by
  have sc := sc__law_table
  exact fnD F sc__law_table rfl rfl fun cdv A outer s H E hr =>
    (dss_cons (ds_set 2 (de_ix (DE.dp (de_lst (da_cons de_int (da_cons de_int (da_cons de_int (da_cons de_int da_nil)))))) (DE.dp (de_mod (DE.dp (de_call D__law_mix hr (da_cons (de_ix (dp_var 0) (dp_var 1)) (da_cons de_int da_nil)))) (DE.dp de_int)))) sc.nd)
    (dss_cons (ds_set 3 (de_lst da_nil) sc.nd)
    (dss_cons (ds_for PassesOwn.never (di_range1 B.range (dq_cons (dp_var 2) dq_nil)) (dg_name 4 sc.nd) (dss_cons (ds_set 6 (de_ix (dp_var 0) (DE.dp (de_mod (DE.dp (de_add (dp_var 1) (dp_var 4))) (DE.dp (de_blt call_len_seq cd_len bt_len B.len (dq_cons (dp_var 0) dq_nil)))))) sc.nd)
    (dss_one (ds_frz 6 (ds_app 3 (de_lc (N' := ["_law_cell", "_law_i", "_law_j"]) (R' := PR K) cx_scope1 cx_names1 [some 6, some 4, none] (subE [some 6, some 4, none]) pr_sub (di_range1 B.range (dq_cons (dp_var 2) dq_nil)) (fun _ => (dgk_name 2 (show List.Nodup (α := Str) ["_law_cell", "_law_i", "_law_j"] by decide +kernel))) (fun _ => dts_nil) (fun _ => (de_call D__law_drawn hr (da_cons (de_var 0) (da_cons (de_add (DE.dp (de_add (DE.dp de_int) (DE.dp (de_mul (DE.dp de_int) (dp_var 1))))) (dp_var 2)) da_nil))))))))))
    (dss_cons (ds_set 5 (de_mod (DE.dp (de_call D__law_mix hr (da_cons (de_ix (dp_var 0) (dp_var 1)) (da_cons de_int da_nil)))) (dp_var 2)) sc.nd)
    (dss_cons (ds_if (dt_eq hr.units (DE.dp (de_mod (DE.dp (de_call D__law_mix hr (da_cons (de_ix (dp_var 0) (dp_var 1)) (da_cons de_int da_nil)))) (DE.dp de_int))) (DE.dp de_int)) (dss_one (ds_setI 3 (de_ty call_list_of cd_list bt_list B.list (dq_cons (DE.dp (de_ix (dp_var 3) (DE.dp (de_mod (DE.dp (de_call D__law_mix hr (da_cons (de_ix (dp_var 0) (dp_var 1)) (da_cons de_int da_nil)))) (dp_var 2))))) dq_nil)) (dp_var 5))) dss_nil)
    (dss_cons (ds_if (dt_eq hr.units (DE.dp (de_mod (DE.dp (de_call D__law_mix hr (da_cons (de_ix (dp_var 0) (dp_var 1)) (da_cons de_int da_nil)))) (DE.dp de_int))) (DE.dp de_int)) (dss_one (ds_setI 3 (de_lc (N' := ["_law_j"]) (R' := PR K) cx_scope1 cx_names1 [none] (subE [none]) pr_sub (di_range1 B.range (dq_cons (dp_var 2) dq_nil)) (fun _ => (dgk_name 0 (show List.Nodup (α := Str) ["_law_j"] by decide +kernel))) (fun _ => dts_nil) (fun _ => (de_tup (da_cons de_int (da_cons de_int da_nil))))) (dp_var 5))) dss_nil)
    (dss_one (ds_retV 3))))))))
-- _law_orders: 0:_law_many 1:_law_orders_here 2:_law_k 3:_law_more 4:_law_order 5:_law_at
noncomputable def b__law_orders : En → Option Out :=
    (mSeq (mAsg 1 (mLst (mCons (mLst mNil) mNil)))
    (mSeq (mFor (mRng1 (mConsP (mPk 0) mNilP)) (gVar 2) (mSeq (mAsg 3 (mLst mNil))
    (mSeq (mFrz 1 (mFor (mItems (mVar 1)) (gVar 4) (mFor (mRng1 (mConsP (mBin dAdd (mCallP dLen (mConsP (mPk 4) mNilP)) (mK (.int 1))) mNilP)) (gVar 5) (mApp 3 (mBin dAdd (mBin dAdd (mSl (mPk 4) mNoPart (mPart (mPk 5))) (mLst (mCons (mVar 2) mNil))) (mSl (mPk 4) (mPart (mPk 5)) mNoPart))))))
    (mFrz 3 (mAsg 1 (mVar 3))))))
    (mRet (mPk 1))))
noncomputable def m__law_orders : List PyData → Option Sl := runD 6 b__law_orders 1
theorem ok__law_orders (B : Bl mg)    (F : Fun K "_law_orders" "_law_orders" s__law_orders f fd) : FnOk P w K mg base CX0 1 f fd ["_law_many"] (spD K m__law_orders) := by
  have sc := sc__law_orders
  exact fnD F sc__law_orders rfl rfl fun cdv A outer s H E hr =>
    (dss_cons (ds_set 1 (de_lst (da_cons (de_lst da_nil) da_nil)) sc.nd)
    (dss_cons (ds_for PassesOwn.never (di_range1 B.range (dq_cons (dp_var 0) dq_nil)) (dg_name 2 sc.nd) (dss_cons (ds_set 3 (de_lst da_nil) sc.nd)
    (dss_cons (ds_frz 1 (ds_for PassesOwn.never (di_list (de_var 1)) (dg_name 4 sc.nd) (dss_one (ds_for PassesOwn.never (di_range1 B.range (dq_cons (DE.dp (de_add (DE.dp (de_blt call_len_seq cd_len bt_len B.len (dq_cons (dp_var 4) dq_nil))) (DE.dp de_int))) dq_nil)) (dg_name 5 sc.nd) (dss_one (ds_app 3 (de_add (DE.dp (de_add (DE.dp (de_sl (dp_var 4) do_none (do_some (dp_var 5)))) (DE.dp (de_lst (da_cons (de_var 2) da_nil))))) (DE.dp (de_sl (dp_var 4) (do_some (dp_var 5)) do_none)))))))))
    (dss_one (ds_frz 3 (ds_set 1 (de_var 3) sc.nd))))))
    (dss_one (ds_retV 1))))
-- _law_odd: 0:_law_order 1:_law_odd_here 2:_law_i 3:_law_j
noncomputable def b__law_odd : En → Option Out :=
    (mSeq (mAsg 1 (mK (.bool false)))
    (mSeq (mFor (mRng1 (mConsP (mCallP dLen (mConsP (mPk 0) mNilP)) mNilP)) (gVar 2) (mFor (mRng1 (mConsP (mPk 2) mNilP)) (gVar 3) (mIf (mTest (mBin dGt (mBin dix (mPk 0) (mPk 3)) (mBin dix (mPk 0) (mPk 2)))) (mAsg 1 (mNotV (mVar 1))) mNext)))
    (mRet (mPk 1))))
noncomputable def m__law_odd : List PyData → Option Sl := runD 4 b__law_odd 1
theorem ok__law_odd (B : Bl mg)    (F : Fun K "_law_odd" "_law_odd" s__law_odd f fd) : FnOk P w K mg base CX0 1 f fd ["_law_order"] (spD K m__law_odd) := by
  have sc := sc__law_odd
  exact fnD F sc__law_odd rfl rfl fun cdv A outer s H E hr =>
    (dss_cons (ds_set 1 de_bool sc.nd)
    (dss_cons (ds_for PassesOwn.never (di_range1 B.range (dq_cons (DE.dp (de_blt call_len_seq cd_len bt_len B.len (dq_cons (dp_var 0) dq_nil))) dq_nil)) (dg_name 2 sc.nd) (dss_one (ds_for PassesOwn.never (di_range1 B.range (dq_cons (dp_var 2) dq_nil)) (dg_name 3 sc.nd) (dss_one (ds_if (dt_gt (DE.dp (de_ix (dp_var 0) (dp_var 3))) (DE.dp (de_ix (dp_var 0) (dp_var 2)))) (dss_one (ds_set 1 (de_not (de_var 1)) sc.nd)) dss_nil)))))
    (dss_one (ds_retV 1))))
-- _law_due: 0:_law_table_here 1:_law_top 2:_law_bottom 3:_law_order 4:_law_upper 5:_law_lower 6:_law_k
noncomputable def b__law_due : En → Option Out :=
    (mSeq (mAsg 1 (mK (.int 0)))
    (mSeq (mAsg 2 (mK (.int 1)))
    (mSeq (mFor (mItems (mCall m__law_orders (mCons (mCallP dLen (mConsP (mPk 0) mNilP)) mNil))) (gVar 3) (mSeq (mAsg 4 (mBin dSub (mK (.int 1)) (mBin dRep (mK (.int 2)) (mCallP dInt (mConsP (mCall m__law_odd (mCons (mVar 3) mNil)) mNilP)))))
    (mSeq (mAsg 5 (mK (.int 1)))
    (mSeq (mFor (mRng1 (mConsP (mCallP dLen (mConsP (mPk 0) mNilP)) mNilP)) (gVar 6) (mSeq (mAsg 4 (mBin dRep (mPk 4) (mBin dix (mBin dix (mBin dix (mPk 0) (mPk 6)) (mBin dix (mPk 3) (mPk 6))) (mK (.int 0)))))
    (mAsg 5 (mBin dRep (mPk 5) (mBin dix (mBin dix (mBin dix (mPk 0) (mPk 6)) (mBin dix (mPk 3) (mPk 6))) (mK (.int 1)))))))
    (mAsgT (gTupD [(gVar 1), (gVar 2)]) (mCall m__law_fraction (mCons (mBin dAdd (mBin dRep (mPk 1) (mPk 5)) (mBin dRep (mPk 4) (mPk 2))) (mCons (mBin dRep (mPk 2) (mPk 5)) mNil))))))))
    (mRet (mTup (mCons (mVar 1) (mCons (mVar 2) mNil)))))))
noncomputable def m__law_due : List PyData → Option Sl := runD 7 b__law_due 1
theorem ok__law_due (B : Bl mg) (D__law_orders : Def P w K mg base 1 "_law_orders" ["_law_many"] (spD K m__law_orders)) (D__law_odd : Def P w K mg base 1 "_law_odd" ["_law_order"] (spD K m__law_odd)) (D__law_fraction : Def P w K mg base 2 "_law_fraction" ["_law_top", "_law_bottom"] (spD K m__law_fraction))   (F : Fun K "_law_due" "_law_due" s__law_due f fd) : FnOk P w K mg base CX0 3 f fd ["_law_table_here"] (spD K m__law_due) := by
  have sc := sc__law_due
  exact fnD F sc__law_due rfl rfl fun cdv A outer s H E hr =>
    (dss_cons (ds_set 1 de_int sc.nd)
    (dss_cons (ds_set 2 de_int sc.nd)
    (dss_cons (ds_for PassesOwn.never (di_list (de_call D__law_orders hr (da_cons (de_blt call_len_seq cd_len bt_len B.len (dq_cons (dp_var 0) dq_nil)) da_nil))) (dg_name 3 sc.nd) (dss_cons (ds_set 4 (de_sub (DE.dp de_int) (DE.dp (de_mul (DE.dp de_int) (DE.dp (de_ty call_int1 cd_int bt_int B.int (dq_cons (DE.dp (de_call D__law_odd hr (da_cons (de_var 3) da_nil))) dq_nil)))))) sc.nd)
    (dss_cons (ds_set 5 de_int sc.nd)
    (dss_cons (ds_for PassesOwn.never (di_range1 B.range (dq_cons (DE.dp (de_blt call_len_seq cd_len bt_len B.len (dq_cons (dp_var 0) dq_nil))) dq_nil)) (dg_name 6 sc.nd) (dss_cons (ds_set 4 (de_mul (dp_var 4) (DE.dp (de_ix (DE.dp (de_ix (DE.dp (de_ix (dp_var 0) (dp_var 6))) (DE.dp (de_ix (dp_var 3) (dp_var 6))))) (DE.dp de_int)))) sc.nd)
    (dss_one (ds_set 5 (de_mul (dp_var 5) (DE.dp (de_ix (DE.dp (de_ix (DE.dp (de_ix (dp_var 0) (dp_var 6))) (DE.dp (de_ix (dp_var 3) (dp_var 6))))) (DE.dp de_int)))) sc.nd))))
    (dss_one (ds_asgT (de_call D__law_fraction hr (da_cons (de_add (DE.dp (de_mul (dp_var 1) (dp_var 5))) (DE.dp (de_mul (dp_var 4) (dp_var 2)))) (da_cons (de_mul (dp_var 2) (dp_var 5)) da_nil))) (dg_tup (dgs_cons (dg_name 1 sc.nd) (dgs_cons (dg_name 2 sc.nd) dgs_nil)))))))))
    (dss_one (ds_ret (de_tup (da_cons (de_var 1) (da_cons (de_var 2) da_nil))))))))
-- law: 0:_law_script 1:_law_cells 2:_law_at 3:_law_table_here 4:_law_kept 5:_law_found
noncomputable def b_law : En → Option Out :=
    (mSeq (mAsg 1 (mBin dAdd (mSl (mPk 0) mNoPart (mPart (mK (.int 63)))) (mLst (mCons (mK (.int 0)) mNil))))
    (mSeq (mAsg 2 (mK (.int 0)))
    (mSeq (mWhile (mTest (mBin dLt (mPk 2) (mCallP dLen (mConsP (mPk 1) mNilP)))) (mSeq (mFrz 1 (mFrz 2 (mAsg 3 (mCall m__law_table (mCons (mVar 1) (mCons (mVar 2) mNil))))))
    (mSeq (mFrz 3 (mAsg 4 (mLC (subE [none]) (mItems (mVar 3)) (gVar 0) mYes (mCallP dList (mConsP (mPk 0) mNilP)))))
    (mSeq (mFrz 3 (mAsg 5 (mCall m_determinant (mCons (mVar 3) mNil))))
    (mSeq (mIf (mOr (mNot (mTest (mIsi "tuple" (mPk 5)))) (mOr (mTest (mBin dne (mCallP dLen (mConsP (mPk 5) mNilP)) (mK (.int 2)))) (mOr (mNot (mTest (mCall m__law_whole (mCons (mBin dix (mPk 5) (mK (.int 0))) mNil)))) (mNot (mTest (mCall m__law_whole (mCons (mBin dix (mPk 5) (mK (.int 1))) mNil))))))) (mRet (mK (.bool false))) mNext)
    (mSeq (mFrz 4 (mIf (mOr (mTest (mBin dne (mPk 5) (mCall m__law_due (mCons (mVar 4) mNil)))) (mTest (mBin dne (mPk 3) (mPk 4)))) (mRet (mK (.bool false))) mNext))
    (mAsg 2 (mBin dAdd (mPk 2) (mCallP dLen (mConsP (mPk 3) mNilP))))))))))
    (mRet (mK (.bool true))))))
noncomputable def m_law : List PyData → Option Sl := runD 6 b_law 1
theorem ok_law (B : Bl mg) (D__law_table : Def P w K mg base 4 "_law_table" ["_law_cells", "_law_at"] (spD K m__law_table)) (D_determinant : Def P w K mg base 6 "determinant" ["table"] (spD K m_determinant)) (D__law_whole : Def P w K mg base 1 "_law_whole" ["_law_found"] (spD K m__law_whole)) (D__law_due : Def P w K mg base 3 "_law_due" ["_law_table_here"] (spD K m__law_due))   (F : Fun K "law" "law" s_law f fd) : FnOk P w K mg base CX0 7 f fd ["_law_script"] (spD K m_law) := by
  have sc := sc_law
  exact fnD F sc_law rfl rfl fun cdv A outer s H E hr =>
    (dss_cons (ds_set 1 (de_add (DE.dp (de_sl (dp_var 0) do_none (do_some (DE.dp de_int)))) (DE.dp (de_lst (da_cons de_int da_nil)))) sc.nd)
    (dss_cons (ds_set 2 de_int sc.nd)
    (dss_cons (ds_while PassesOwn.never (dt_lt (dp_var 2) (DE.dp (de_blt call_len_seq cd_len bt_len B.len (dq_cons (dp_var 1) dq_nil)))) (dss_cons (ds_frz 1 (ds_frz 2 (ds_set 3 (de_call D__law_table hr (da_cons (de_var 1) (da_cons (de_var 2) da_nil))) sc.nd)))
    (dss_cons (ds_frz 3 (ds_setC (N' := ["_law_row"]) (R' := PR K) cx_scope1 cx_names1 4 [none] (subE [none]) pr_sub sc.nd (di_list (de_var 3)) (fun _ => (dgk_name 0 (show List.Nodup (α := Str) ["_law_row"] by decide +kernel))) (fun _ => dts_nil) (fun _ => (de_ty call_list_of cd_list bt_list B.list (dq_cons (dp_var 0) dq_nil)))))
    (dss_cons (ds_frz 3 (ds_set 5 (de_call D_determinant hr (da_cons (de_var 3) da_nil)) sc.nd))
    (dss_cons (ds_if (dt_w (dw_or (dt_not (dt_val (DE.dp (de_isi bt_tuple B.tuple B.isinstance (dp_var 5))))) (dw_or (dt_ne hr.units (DE.dp (de_blt call_len_seq cd_len bt_len B.len (dq_cons (dp_var 5) dq_nil))) (DE.dp de_int)) (dw_or (dt_not (dt_val (DE.dp (de_call D__law_whole hr (da_cons (de_ix (dp_var 5) (DE.dp de_int)) da_nil))))) (dw_or1 (dt_not (dt_val (DE.dp (de_call D__law_whole hr (da_cons (de_ix (dp_var 5) (DE.dp de_int)) da_nil)))))))))) (dss_one (ds_ret de_bool)) dss_nil)
    (dss_cons (ds_frz 4 (ds_if (dt_w (dw_or (dt_ne hr.units (dp_var 5) (DE.dp (de_call D__law_due hr (da_cons (de_var 4) da_nil)))) (dw_or1 (dt_ne hr.units (dp_var 3) (dp_var 4))))) (dss_one (ds_ret de_bool)) dss_nil))
    (dss_one (ds_set 2 (de_add (dp_var 2) (DE.dp (de_blt call_len_seq cd_len bt_len B.len (dq_cons (dp_var 3) dq_nil)))) sc.nd))))))))
    (dss_one (ds_ret de_bool)))))
-- Stairs_reduced_column: 0:self 1:column | 2:rows 3:leads 4:last
noncomputable def b_Stairs_reduced_column : En → Option Out :=
    (mDrop (mCall m__wall (mCons (mK (.int 0)) mNil)))
noncomputable def m_Stairs_reduced_column : En → List PyData → Option (En × PyData) := runM 2 2 3 b_Stairs_reduced_column
theorem ok_Stairs_reduced_column (B : Bl mg) (D__wall : Def P w K mg base 1 "_wall" ["k"] (spD K m__wall))  (K_Stairs : Klass K C_Stairs ["rows", "leads", "last"]) (F : Fun K "reduced_column" "Stairs.reduced_column" s_Stairs_reduced_column f fd) : FnOk P w K mg base CX0 2 f fd ["self", "column"] (spM K C_Stairs ["rows", "leads", "last"] m_Stairs_reduced_column) := by
  have sc := sc_Stairs_reduced_column
  exact fnM F sc_Stairs_reduced_column rfl rfl rfl fun cdv A outer s H E p hr =>
    (dss_one (ds_expr (de_call D__wall hr (da_cons de_int da_nil))))
end
local macro_rules | `(tactic| walk_at "ev") => `(tactic| simp only [mSeq, mIf, mTest, mBin, mUn, mK, mPk, mVar, mAsg, mRet, mRetN, mCall, mCons, mNil, mCallP, mConsP, mNilP, mTup, mLst, mOr, mAnd, mNot, mNotV, mAndV, mOrV, mIfE, mNext, mBrk, mCt, mDrop, mApp, mSet, mFrz, frz1, mPar, mAsgT, gVar, gTupD, gsAll, mItems, mItemsT, mSl, mPart, mNoPart, mDat, Sl.dat, mYes, mIsi, tyD, isiD, iop, icmp, iun, dAddI, dSub, dAdd, dLt, dLe, dGt, dGe, deq, dne, disN, disNN, isNone, dix, dLen, dAbs, dList, dTuple, dInt, dSl, Option.bind_some, Option.map_some, Option.join_some, Option.some.injEq, List.getElem?_cons_zero, List.getElem?_cons_succ, List.set_cons_zero, List.set_cons_succ, List.length_cons, List.length_nil, eqD_int, List.cons_append, List.nil_append, List.append_nil, List.map_cons, List.map_nil, if_true, if_false, Bool.false_eq_true, reduceIte, reduceCtorEq, Bool.not_true, Bool.not_false, decide_true, decide_false])
theorem run_gd (a b : Int) : m_greatest_divisor [.int a, .int b] = some (.val (.int (Int.gcd a b))) := by
  refine runD_rt (ρ := [some (.val (.int a)), some (.val (.int b)), none]) rfl rfl ?_
  unfold b_greatest_divisor
  obtain ⟨ρ', h1, ⟨x, y, r, rfl, hg⟩, h3⟩ := while_inv (c := mTest (mBin dne (mPk 1) (mK (.int 0)))) (b := (mSeq (mAsg 2 (mBin dMod (mPk 0) (mPk 1))) (mSeq (mAsg 0 (mVar 1)) (mFrz 2 (mAsg 1 (mVar 2))))))
    (ρ := [some (.val (.int a)), some (.val (.int b)), none]) (fun ρ => ∃ x y r, ρ = [some (.val (.int x)), some (.val (.int y)), r] ∧ Int.gcd x y = Int.gcd a b)
    (fun ρ => match ρ with | [_, some (.val (.int y)), _] => y.natAbs | _ => 0) ⟨a, b, none, rfl, rfl⟩ (by
      rintro ρ ⟨x, y, r, rfl, hg⟩
      by_cases hy : y = 0
      · left
        walk_at "ev"
        simp [hy]
      · right
        refine ⟨by walk_at "ev"; simp [hy], _, by walk_at "ev"; rw [modS hy]; walk_at "ev"; rfl, ⟨_, _, _, rfl, (gcd_fmod x y).trans hg⟩, fmod_lt hy⟩)
  refine rts_seq h1 (rts_ret ?_)
  have hy : y = 0 := by
    revert h3
    walk_at "ev"
    simp
  subst hy
  walk_at "ev"
  congr 3
  rw [← hg, Int.gcd_zero_right]
  split <;> omega
theorem run_frac {a b : Int} (hb : b ≠ 0) (hB : Bt 9000 b) : m_fraction [.int a, .int b] = some (.val (encF (fr a b))) := by
  refine runD_rt (ρ := [some (.val (.int a)), some (.val (.int b)), none]) rfl rfl ?_
  unfold b_fraction
  have hs := sg_ne (a := a) hb
  have hS := sg_bt (a := a) hb hB
  refine rts_seq (asg_to (call_to (by walk_at "ev") (run_gd a b))) ?_
  refine rts_seq (ρ' := [some (.val (.int a)), some (.val (.int b)), some (.val (.int (sg a b)))]) ?_ ?_
  · walk_at "ev"
    unfold sg
    by_cases h : b < 0 <;> simp [h]
  · refine rts_ret ?_
    walk_at "ev"
    rw [divS ⟨hs, hS⟩, divS ⟨hs, hS⟩]
    walk_at "ev"
    rfl
theorem cmL {i j : Int} (h1 : -(2 ^ 64) < i) (h2 : i < 2 ^ 64) : CMulA i j := .inl (.inl ⟨h1, h2⟩)
theorem cmR {i j : Int} (h1 : -(2 ^ 64) < j) (h2 : j < 2 ^ 64) : CMulA i j := .inl (.inr ⟨h1, h2⟩)
theorem run_lgd (a b : Int) : m__law_divisor [.int a, .int b] = some (.val (.int (Int.gcd a b))) := by
  refine runD_rt (ρ := [some (.val (.int a)), some (.val (.int b))]) rfl rfl ?_
  unfold b__law_divisor
  obtain ⟨ρ', h1, ⟨x, y, rfl, hg⟩, h3⟩ := while_inv (c := mTest (mBin dne (mPk 1) (mK (.int 0)))) (b := (mPar 0 1 (mCons (mVar 1) (mCons (mBin dMod (mPk 0) (mPk 1)) mNil))))
    (ρ := [some (.val (.int a)), some (.val (.int b))]) (fun ρ => ∃ x y, ρ = [some (.val (.int x)), some (.val (.int y))] ∧ Int.gcd x y = Int.gcd a b)
    (fun ρ => match ρ with | [_, some (.val (.int y))] => y.natAbs | _ => 0) ⟨a, b, rfl, rfl⟩ (by
      rintro ρ ⟨x, y, rfl, hg⟩
      by_cases hy : y = 0
      · left
        walk_at "ev"
        simp [hy]
      · right
        refine ⟨by walk_at "ev"; simp [hy], _, by walk_at "ev"; rw [modS hy]; walk_at "ev", ⟨_, _, rfl, (gcd_fmod x y).trans hg⟩, fmod_lt hy⟩)
  refine rts_seq h1 (rts_ret ?_)
  have hy : y = 0 := by
    revert h3
    walk_at "ev"
    simp
  subst hy
  walk_at "ev"
  congr 3
  rw [← hg, Int.gcd_zero_right]
  split <;> omega
theorem run_lfrac {a b : Int} (hb : 0 < b) (hB : Bt 9000 b) : m__law_fraction [.int a, .int b] = some (.val (encF (fr a b))) := by
  refine runD_rt (ρ := [some (.val (.int a)), some (.val (.int b)), none]) rfl rfl ?_
  unfold b__law_fraction
  have hs := sg_ne (a := a) (show b ≠ 0 by omega)
  have hS := sg_bt (a := a) (show b ≠ 0 by omega) hB
  have e : ((Int.gcd a b : Nat) : Int) = sg a b := by unfold sg; rw [if_neg (by omega)]
  refine rts_seq (asg_to (call_to (by walk_at "ev") (run_lgd a b))) (rts_ret ?_)
  rw [e]
  walk_at "ev"
  rw [divS ⟨hs, hS⟩, divS ⟨hs, hS⟩]
  walk_at "ev"
  rfl
theorem run_whole (a : Int) : m__law_whole [.int a] = some (.val (.bool true)) := by
  refine runD_rt (ρ := [some (.val (.int a))]) rfl rfl ?_
  unfold b__law_whole
  refine rts_ret ?_
  walk_at "ev"
  rfl
theorem run_mix (c : Int) {j : Int} (h0 : 0 ≤ j) (h1 : j < 1000000) : ∃ v, m__law_mix [.int c, .int j] = some (.val (.int v)) ∧ 0 ≤ v ∧ v < 2147483648 := by
  by_cases hc : c.fmod 2 = 1
  · refine ⟨(c / 2 ^ (1 + 10 * j).toNat).fmod 1024, runD_rt (ρ := [some (.val (.int c)), some (.val (.int j)), none]) rfl rfl ?_, Int.fmod_nonneg_of_pos _ (by decide), ?_⟩
    · unfold b__law_mix
      refine rts_seqR (rts_if (b := true) ?_ (rts_ret ?_))
      · walk_at "ev"
        rw [modS (by decide)]
        walk_at "ev"
        simp [hc]
      · walk_at "ev"
        rw [mulS (cmL (by decide) (by decide))]
        walk_at "ev"
        rw [shrS (by omega)]
        walk_at "ev"
        rw [modS (by decide)]
    · have := Int.fmod_lt_of_pos (c / 2 ^ (1 + 10 * j).toNat) (show (0 : Int) < 1024 by decide)
      omega
  · have n1 := fun x : Int => Int.fmod_nonneg_of_pos x (show (0 : Int) < 2147483629 by decide)
    have n2 := fun x : Int => Int.fmod_lt_of_pos x (show (0 : Int) < 2147483629 by decide)
    let w1 := (c * (2 * j + 3) + j).fmod 2147483629
    let w2 := ((w1 * w1 + 1) * 48271).fmod 2147483629
    refine ⟨(w2 * w2).fmod 2147483587, runD_rt (ρ := [some (.val (.int c)), some (.val (.int j)), none]) rfl rfl ?_, Int.fmod_nonneg_of_pos _ (by decide), ?_⟩
    · unfold b__law_mix
      refine rts_seq (ρ' := [some (.val (.int c)), some (.val (.int j)), none]) (if_to (b := false) ?_ ?_) ?_
      · walk_at "ev"
        rw [modS (by decide)]
        walk_at "ev"
        simp [hc]
      · walk_at "ev"
      refine rts_seq (asg_to (r := .val (.int w1)) ?_) ?_
      · walk_at "ev"
        rw [mulS (cmL (by decide) (by decide))]
        walk_at "ev"
        rw [mulS (cmR (by omega) (by omega))]
        walk_at "ev"
        rw [modS (by decide)]
      have a1 := n1 (c * (2 * j + 3) + j)
      have a2 := n2 (c * (2 * j + 3) + j)
      refine rts_seq (asg_to (r := .val (.int w2)) ?_) ?_
      · walk_at "ev"
        rw [mulS (cmL (by show _ < w1; omega) (by show w1 < _; omega))]
        walk_at "ev"
        rw [mulS (cmR (by decide) (by decide))]
        walk_at "ev"
        rw [modS (by decide)]
      have b1 := n1 ((w1 * w1 + 1) * 48271)
      have b2 := n2 ((w1 * w1 + 1) * 48271)
      refine rts_ret ?_
      walk_at "ev"
      rw [mulS (cmL (by show _ < w2; omega) (by show w2 < _; omega))]
      walk_at "ev"
      rw [modS (by decide)]
    · have := Int.fmod_lt_of_pos (w2 * w2) (show (0 : Int) < 2147483587 by decide)
      omega
open Ba in
def rowD (m : Nat) (r : Nat → Int) : PyData := .list ((List.range m).map fun j => .int (r j))
def matD (n m : Nat) (R : Ba.Mx) : List PyData := (List.range n).map fun i => rowD m (R i)
def ldD (k : Nat) (L : Nat → Nat) : List PyData := (List.range k).map fun t => .int (L t)
def flds (n m : Nat) (R : Ba.Mx) (k : Nat) (L : Nat → Nat) (last : Int) : En := [some (.own (matD n m R)), some (.own (ldD k L)), some (.val (.int last))]
theorem atI_range {α : Type} {f : Nat → α} {n i : Nat} (h : i < n) : atI ((List.range n).map f) (i : Int) = some (f i) := atI_nat (by rw [List.getElem?_map, List.getElem?_range h]; rfl)
theorem atI_mat {n m i : Nat} {R : Ba.Mx} (h : i < n) : atI (matD n m R) (i : Int) = some (rowD m (R i)) := atI_range h
theorem len_mat {n m : Nat} {R : Ba.Mx} : (matD n m R).length = n := by simp [matD]
theorem len_ld {k : Nat} {L : Nat → Nat} : (ldD k L).length = k := by simp [ldD]
theorem set_range {α : Type} {f : Nat → α} {n k : Nat} {x : α} : ((List.range n).map f).set k x = (List.range n).map fun i => if i = k then x else f i := by
  refine List.ext_getElem? fun i => ?_
  rw [List.getElem?_set, List.getElem?_map, List.getElem?_map]
  by_cases hi : i < n
  · rw [List.getElem?_range hi]
    by_cases e : k = i
    · subst e; simp [hi]
    · simp [e, Ne.symm e]
  · rw [List.getElem?_eq_none (l := List.range n) (by simpa using hi)]
    split
    · rename_i e; subst e; simp [hi]
    · rfl
theorem mat_set {n m k : Nat} {R : Ba.Mx} {r : Nat → Int} : (matD n m R).set k (rowD m r) = matD n m (Ba.setR R k r) := by
  unfold matD
  rw [set_range]
  refine List.map_congr_left fun i _ => ?_
  unfold Ba.setR
  split <;> rfl
theorem inB_nat {k : Nat} (h : k ≤ 1000) : inB (k : Int) := by
  constructor
  · have : -(2 ^ 62 : Int) ≤ 0 := by decide
    omega
  · have : (1000 : Int) < 2 ^ 62 := by decide
    omega
def stP (n m k c : Nat) (R : Ba.Mx) (L : Nat → Nat) (last : Int) (z : Option Sl) : En := [none, some (.val (.int k)), some (.val (.int c)), z, some (.own (matD n m R)), some (.own (ldD k L)), some (.val (.int last))]
theorem place_rg {n m k c : Nat} {R : Ba.Mx} {L : Nat → Nat} {last : Int} (hk : k ≤ n) (hn : n ≤ 1000) : mRng2 (mConsP (mPk 1) (mConsP (mCallP dLen (mConsP (mPk 4) mNilP)) mNilP)) (stP n m k c R L last none) = some (rngD k (n - k)) := by
  refine rng2_to ?_ (by omega) hn
  unfold stP
  walk_at "ev"
  rw [len_mat]
theorem place_test {n m k c i : Nat} {R : Ba.Mx} {L : Nat → Nat} {last : Int} (hi : i < n) (hc : c < m) : (mTest (mBin dne (mBin dix (mBin dix (mPk 4) (mPk 3)) (mPk 2)) (mK (.int 0)))) (stP n m k c R L last (some (.val (.int (i : Int))))) = some (!decide (R i c = 0)) := by
  unfold stP
  walk_at "ev"
  rw [atI_mat hi]
  simp only [rowD, Option.map_some, Option.bind_some, Sl.dat, atI_range hc, eqD_int]
theorem run_place {n m k c : Nat} {R : Ba.Mx} {L : Nat → Nat} {last : Int} (hk : k ≤ n) (hc : c < m) (hn : n ≤ 1000) :
    (∃ p, k ≤ p ∧ p < n ∧ R p c ≠ 0 ∧ m_Stairs_place_of_lead (flds n m R k L last) [.int k, .int c] = some (flds n m R k L last, .int p)) ∨
    ((∀ i, k ≤ i → i < n → R i c = 0) ∧ m_Stairs_place_of_lead (flds n m R k L last) [.int k, .int c] = some (flds n m R k L last, .none)) := by
  have key := forM_find (fg := gVar 3) (gb := mIf (mTest (mBin dne (mBin dix (mBin dix (mPk 4) (mPk 3)) (mPk 2)) (mK (.int 0)))) (mRet (mPk 3)) mNext) (lo := k) (n := n - k) (ρ := stP n m k c R L last none)
    (fun i ρ => (∃ z, ρ = stP n m k c R L last z) ∧ ∀ t, t < i → R (k + t) c = 0) (fun o => ∃ p z, k ≤ p ∧ p < n ∧ R p c ≠ 0 ∧ o = .rt (.val (.int (p : Nat))) (stP n m k c R L last z)) ⟨⟨none, rfl⟩, fun t h => absurd h (by omega)⟩ (by
      rintro i ρ hi ⟨⟨z, rfl⟩, hz⟩
      refine ⟨stP n m k c R L last (some (.val (.int ((k : Int) + (i : Nat))))), rfl, ?_⟩
      have e : (k : Int) + (i : Nat) = ((k + i : Nat) : Int) := by omega
      rw [e]
      have test := place_test (k := k) (i := k + i) (R := R) (L := L) (last := last) (show k + i < n by omega) hc
      by_cases h : R (k + i) c = 0
      · left
        refine ⟨stP n m k c R L last (some (.val (.int ((k + i : Nat) : Int)))), if_to (b := false) (by rw [test]; simp [h]) (by rfl), ⟨_, rfl⟩, fun t ht => ?_⟩
        by_cases e2 : t = i
        · subst e2; exact h
        · exact hz t (by omega)
      · right
        exact ⟨.val (.int ((k + i : Nat) : Int)), stP n m k c R L last (some (.val (.int ((k + i : Nat) : Int)))), if_to (b := true) (by rw [test]; simp [h]) (by rfl), k + i, _, by omega, by omega, h, rfl⟩)
  rcases key with ⟨ρ', h1, ⟨z, rfl⟩, h2⟩ | ⟨o, h1, p, z, hp, hpn, hr, rfl⟩
  · right
    refine ⟨fun i h3 h4 => by have := h2 (i - k) (by omega); rwa [show k + (i - k) = i by omega] at this, ?_⟩
    exact runM_rt (ρ := stP n m k c R L last none) (ρ' := stP n m k c R L last z) rfl rfl rfl (seq_to (for_to (place_rg hk hn) h1) (ret_to rfl))
  · left
    refine ⟨p, hp, hpn, hr, ?_⟩
    exact runM_rt (ρ := stP n m k c R L last none) (ρ' := stP n m k c R L last z) rfl rfl rfl (seq_rt (for_to (place_rg hk hn) h1))
theorem dix_mat {n m i : Nat} {R : Ba.Mx} (h : i < n) : dix (.own (matD n m R)) (.val (.int (i : Int))) = some (.val (rowD m (R i))) := by
  show (atI (matD n m R) (i : Int)).map Sl.val = _
  rw [atI_mat h]
  rfl
theorem dix_row {m j : Nat} {r : Nat → Int} (h : j < m) : dix (.val (rowD m r)) (.val (.int (j : Int))) = some (.val (.int (r j))) := by
  show (atI ((List.range m).map fun j => PyData.int (r j)) (j : Int)).map Sl.val = _
  rw [atI_range h]
  rfl
theorem ixN_nat {n k : Nat} (h : k < n) : ixN n (k : Int) = some k := by
  unfold ixN
  rw [if_pos (by omega), if_pos (by omega)]
  simp
theorem run_exch {n m k p t : Nat} {R : Ba.Mx} {L : Nat → Nat} {last : Int} (hk : k < n) (hp : p < n) (hm : m ≤ 1000) :
    m_Stairs_exchange (flds n m R t L last) [.int k, .int p] = some (flds n m (if p = k then R else Ba.exch R k p) t L last, .none) := by
  by_cases e : p = k
  · subst e
    rw [if_pos rfl]
    refine runM_rt (ρ := [none, some (.val (.int (p : Nat))), some (.val (.int (p : Nat))), none, some (.own (matD n m R)), some (.own (ldD t L)), some (.val (.int last))]) (ρ' := [none, some (.val (.int (p : Nat))), some (.val (.int (p : Nat))), none, some (.own (matD n m R)), some (.own (ldD t L)), some (.val (.int last))]) rfl rfl rfl ?_
    unfold b_Stairs_exchange
    refine seq_rt (if_to (b := true) ?_ rfl)
    walk_at "ev"
  · rw [if_neg e]
    refine runM_nx (ρ := [none, some (.val (.int (k : Nat))), some (.val (.int (p : Nat))), none, some (.own (matD n m R)), some (.own (ldD t L)), some (.val (.int last))]) (ρ' := [none, some (.val (.int (k : Nat))), some (.val (.int (p : Nat))), some (.val (rowD m fun j => - R k j)), some (.own (matD n m (Ba.exch R k p))), some (.own (ldD t L)), some (.val (.int last))]) rfl rfl rfl ?_
    unfold b_Stairs_exchange
    refine seq_to (if_to (b := false) ?_ rfl) ?_
    · walk_at "ev"
      have : ¬ ((p : Int) = (k : Int)) := by omega
      simp [this]
    refine seq_to (asg_to (lc_to (ds := (List.range m).map fun j => .int (R k j)) (es := (List.range m).map fun j => .int (- R k j)) ?_ ?_ ?_)) ?_
    · simp only [mItems, mBin, mPk, List.getElem?_cons_zero, List.getElem?_cons_succ, Option.join_some, Option.bind_some, dix_mat hk]
      rfl
    · rw [List.length_map, List.length_range]
      have : 1000 < sizeLine := by decide
      omega
    · refine compM_map fun j _ => ?_
      rfl
    refine seq_to (ρ' := [none, some (.val (.int (k : Nat))), some (.val (.int (p : Nat))), some (.own ((List.range m).map fun j => .int (- R k j))), some (.own (matD n m (Ba.setR R k (R p)))), some (.own (ldD t L)), some (.val (.int last))]) ?_ ?_
    · simp only [mSet, mBin, mPk, List.set_cons_succ, List.set_cons_zero, List.getElem?_cons_zero, List.getElem?_cons_succ, Option.join_some, Option.bind_some, dix_mat hp, len_mat, ixN_nat hk, Option.map_some, Sl.dat, mat_set]
    · simp only [mFrz, frz1, mSet, mVar, mPk, List.set_cons_succ, List.set_cons_zero, List.getElem?_cons_zero, List.getElem?_cons_succ, Option.join_some, Option.bind_some, len_mat, ixN_nat hp, Option.map_some, Sl.dat]
      show some (Out.nx [none, some (.val (.int (k : Nat))), some (.val (.int (p : Nat))), some (.val (rowD m fun j => - R k j)), some (.own ((matD n m (Ba.setR R k (R p))).set p (rowD m fun j => - R k j))), some (.own (ldD t L)), some (.val (.int last))]) = _
      rw [mat_set]
      rfl
theorem zip_range {m : Nat} {f g : Nat → PyData} : zipD ((List.range m).map f) ((List.range m).map g) = (List.range m).map fun j => .tuple [f j, g j] := by
  unfold zipD
  refine List.ext_getElem? fun i => ?_
  rw [List.getElem?_zipWith, List.getElem?_map, List.getElem?_map, List.getElem?_map]
  cases h : (List.range m)[i]? <;> rfl
theorem run_cleared {m c : Nat} {r l : Nat → Int} {last : Int} (hc : c < m) (hm : m ≤ 1000) (hr : ∀ j, j < m → Bt 4000 (r j)) (hl : ∀ j, j < m → Bt 4000 (l j)) (h0 : last ≠ 0) (hB : Bt 9000 last) :
    m_cleared_row [rowD m r, rowD m l, .int c, .int last] = some (.own ((List.range m).map fun j => .int ((l c * r j - r c * l j).fdiv last))) := by
  have M : ∀ {i j : Int}, Bt 4000 i → Bt 4000 j → CMulA i j := fun h k => .inr (cmulC h k rfl)
  refine runD_rt (ρ := [some (.val (rowD m r)), some (.val (rowD m l)), some (.val (.int (c : Nat))), some (.val (.int last)), none, none]) rfl rfl ?_
  unfold b_cleared_row
  refine rts_seq (asg_to (r := .val (.int (l c))) ?_) ?_
  · simp only [mBin, mPk, List.getElem?_cons_zero, List.getElem?_cons_succ, Option.join_some, Option.bind_some, dix_row hc]
  refine rts_seq (asg_to (r := .val (.int (r c))) ?_) ?_
  · simp only [mBin, mPk, List.set_cons_succ, List.set_cons_zero, List.getElem?_cons_zero, List.getElem?_cons_succ, Option.join_some, Option.bind_some, dix_row hc]
  refine rts_ret (lc_to (ds := (List.range m).map fun j => .tuple [.int (r j), .int (l j)]) ?_ ?_ ?_)
  · rw [← zip_range]
    rfl
  · rw [List.length_map, List.length_range]
    have : 1000 < sizeLine := by decide
    omega
  · refine compM_map fun j hj => ?_
    have hj := List.mem_range.mp hj
    show elM _ _ _ [some (.val (.int (l c))), some (.val (.int (r c))), some (.val (.int last)), none, none] _ = _
    unfold elM
    walk_at "ev"
    rw [mulS (M (hl c hc) (hr j hj)), mulS (M (hr c hc) (hl j hj))]
    walk_at "ev"
    rw [divS ⟨h0, hB⟩]
    walk_at "ev"
theorem cut_from {f : Nat → PyData} {n k : Nat} (h : k ≤ n) : cutD ((List.range n).map f) (some (k : Int)) none = (List.range (n - k)).map fun i => f (k + i) := by
  unfold cutD
  rw [HT.sIx_none, HT.sIx_nat, List.length_map, List.length_range, Nat.min_eq_left h]
  refine List.ext_getElem? fun i => ?_
  rw [List.getElem?_take, List.getElem?_drop, List.getElem?_map, List.getElem?_map]
  by_cases hi : i < n - k
  · rw [if_pos hi, List.getElem?_range hi, List.getElem?_range (show k + i < n by omega)]
    rfl
  · rw [if_neg hi, List.getElem?_eq_none (l := List.range (n - k)) (by simpa using hi)]
    rfl
theorem cut_upto {f : Nat → PyData} {n k : Nat} (h : k ≤ n) : cutD ((List.range n).map f) none (some (k : Int)) = (List.range k).map f := by
  unfold cutD
  rw [HT.sIx_none, HT.sIx_nat, List.length_map, List.length_range, Nat.min_eq_left h, List.drop_zero, Nat.sub_zero]
  refine List.ext_getElem? fun i => ?_
  rw [List.getElem?_take, List.getElem?_map, List.getElem?_map]
  by_cases hi : i < k
  · rw [if_pos hi, List.getElem?_range hi, List.getElem?_range (show i < n by omega)]
  · rw [if_neg hi, List.getElem?_eq_none (l := List.range k) (by simpa using hi)]
    rfl
theorem range_app {f g : Nat → PyData} {n k : Nat} (h : k ≤ n) : (List.range k).map f ++ (List.range (n - k)).map (fun i => g (k + i)) = (List.range n).map fun i => if i < k then f i else g i := by
  refine List.ext_getElem? fun i => ?_
  rw [List.getElem?_map]
  by_cases hi : i < k
  · rw [List.getElem?_append_left (by simpa using hi), List.getElem?_map, List.getElem?_range hi, List.getElem?_range (show i < n by omega)]
    simp [hi]
  · rw [List.getElem?_append_right (by simpa using hi), List.getElem?_map, List.length_map, List.length_range]
    by_cases h2 : i < n
    · rw [List.getElem?_range h2, List.getElem?_range (show i - k < n - k by omega)]
      simp only [Option.map_some, if_neg hi, show k + (i - k) = i by omega]
    · rw [List.getElem?_eq_none (l := List.range (n - k)) (by simp; omega), List.getElem?_eq_none (l := List.range n) (by simp; omega)]
      rfl
theorem ld_snoc {k c : Nat} {L : Nat → Nat} : ldD k L ++ [.int (c : Int)] = ldD (k + 1) (fun t => if t = k then c else L t) := by
  unfold ldD
  rw [List.range_succ, List.map_append]
  congr 1
  · refine List.map_congr_left fun t ht => ?_
    have := List.mem_range.mp ht
    show _ = PyData.int ((if t = k then c else L t : Nat) : Int)
    rw [if_neg (by omega)]
  · simp
theorem bt_of {x : Int} {Y n : Nat} (h : x.natAbs ≤ (32 * Y) ^ n) (hY : (32 * Y) ^ n < 2 ^ 4000) : Bt 4000 x := Nat.lt_of_le_of_lt h hY
/-- the rows behind the step -/
def stepR (R : Ba.Mx) (k c : Nat) (last : Int) : Ba.Mx := fun i j => if i < k + 1 then R i j else (Ba.clr R k c i j).fdiv last
theorem run_step {n m Y k c : Nat} {A R B : Ba.Mx} {L : Nat → Nat} {last : Int} (I : Ba.BI n m A R k L last c B) (hc : c < m) (hn : n ≤ 32) (hm : m ≤ 1000) (hY1 : 1 ≤ Y) (hY : (32 * Y) ^ n < 2 ^ 4000) (hA : ∀ i, i < n → ∀ j, j < m → (A i j).natAbs ≤ Y) :
    ∃ R' k' L' last' B', Ba.BI n m A R' k' L' last' (c + 1) B' ∧ m_Stairs_step_down (flds n m R k L last) [.int c] = some (flds n m R' k' L' last', .none) := by
  have sl : 3000 < sizeLine := by decide
  rcases run_place (L := L) (last := last) (R := R) I.kn hc (show n ≤ 1000 by omega) with ⟨p, hkp, hpn, hR, pl⟩ | ⟨hz, pl⟩
  · have hk : k < n := by omega
    obtain ⟨R1, hR1, B1, I1, hl⟩ : ∃ R1, R1 = (if p = k then R else Ba.exch R k p) ∧ ∃ B1, Ba.BI n m A R1 k L last c B1 ∧ R1 k c ≠ 0 := by
      by_cases e : p = k
      · subst e; exact ⟨R, by rw [if_pos rfl], B, I, hR⟩
      · exact ⟨Ba.exch R k p, by rw [if_neg e], _, I.exch (by omega) hpn, by rw [Ba.exch_r (Ne.symm e)]; exact hR⟩
    have ex := run_exch (t := k) (R := R) (L := L) (last := last) hk hpn hm
    rw [← hR1] at ex
    obtain ⟨bR, bl⟩ := I1.bound hn hY1 hA
    have BR : ∀ i, i < n → ∀ j, j < m → Bt 4000 (R1 i j) := fun i hi j hj => bt_of (bR i hi j hj) hY
    have Bl : Bt 9000 last := (bt_of bl hY).mono (by decide)
    have st2 : Ba.BI n m A (stepR R1 k c last) (k + 1) (fun t => if t = k then c else L t) (R1 k c) (c + 1) B1 := by
      refine I1.step hc hk hl (fun i hi j hj => ?_) (fun i h1 h2 j hj => ?_)
      · unfold stepR; rw [if_pos (by omega)]
      · unfold stepR
        rw [if_neg (by omega)]
        have := (I1.exact hc hk hl h1 h2).2 j hj
        rw [this]
        rw [Int.mul_fdiv_cancel_left _ I1.nz]
    refine ⟨stepR R1 k c last, k + 1, fun t => if t = k then c else L t, R1 k c, B1, st2, ?_⟩
    have mat2 : (List.range (k + 1)).map (fun i => rowD m (R1 i)) ++ (List.range (n - (k + 1))).map (fun i => rowD m fun j => (Ba.clr R1 k c (k + 1 + i) j).fdiv last) = matD n m (stepR R1 k c last) := by
      rw [range_app (g := fun i => rowD m fun j => (Ba.clr R1 k c i j).fdiv last) (show k + 1 ≤ n by omega)]
      unfold matD
      refine List.map_congr_left fun i _ => ?_
      by_cases hi : i < k + 1
      · rw [if_pos hi]; unfold stepR rowD; simp only [if_pos hi]
      · rw [if_neg hi]; unfold stepR rowD; simp only [if_neg hi]
    refine runM_nx (ρ := [none, some (.val (.int (c : Nat))), none, none, none, none, some (.own (matD n m R)), some (.own (ldD k L)), some (.val (.int last))])
      (ρ' := [none, some (.val (.int (c : Nat))), some (.val (.int (k : Nat))), some (.val (.int (p : Nat))), some (.val (rowD m (R1 k))), some (.own ((List.range (n - (k + 1))).map fun i => rowD m fun j => (Ba.clr R1 k c (k + 1 + i) j).fdiv last)), some (.own (matD n m (stepR R1 k c last))), some (.own (ldD (k + 1) (fun t => if t = k then c else L t))), some (.val (.int (R1 k c)))]) rfl rfl rfl ?_
    unfold b_Stairs_step_down
    refine seq_to (ρ' := [none, some (.val (.int (c : Nat))), some (.val (.int (k : Nat))), none, none, none, some (.own (matD n m R)), some (.own (ldD k L)), some (.val (.int last))]) ?_ ?_
    · walk_at "ev"
      rw [len_ld]
    refine seq_to (ρ' := [none, some (.val (.int (c : Nat))), some (.val (.int (k : Nat))), some (.val (.int (p : Nat))), none, none, some (.own (matD n m R)), some (.own (ldD k L)), some (.val (.int last))]) ?_ ?_
    · show mMeth 6 _ _ _ [none, some (.val (.int (c : Nat))), some (.val (.int (k : Nat))), none, none, none, some (.own (matD n m R)), some (.own (ldD k L)), some (.val (.int last))] = _
      unfold mMeth
      walk_at "ev"
      show Option.bind (m_Stairs_place_of_lead (flds n m R k L last) [.int (k : Nat), .int (c : Nat)]) _ = _
      rw [pl]
      rfl
    refine seq_to (if_to (b := false) (by walk_at "ev") rfl) ?_
    refine seq_to (ρ' := [none, some (.val (.int (c : Nat))), some (.val (.int (k : Nat))), some (.val (.int (p : Nat))), none, none, some (.own (matD n m R1)), some (.own (ldD k L)), some (.val (.int last))]) ?_ ?_
    · simp only [mFrz, frz1, List.getElem?_cons_zero, List.getElem?_cons_succ, Option.join_some]
      unfold mMeth
      walk_at "ev"
      show Option.bind (m_Stairs_exchange (flds n m R k L last) [.int (k : Nat), .int (p : Nat)]) _ = _
      rw [ex]
      rfl
    refine seq_to (asg_to (r := .val (rowD m (R1 k))) ?_) ?_
    · simp only [mBin, mPk, List.getElem?_cons_zero, List.getElem?_cons_succ, Option.join_some, Option.bind_some, dix_mat hk]
    refine seq_to (ρ' := [none, some (.val (.int (c : Nat))), some (.val (.int (k : Nat))), some (.val (.int (p : Nat))), some (.val (rowD m (R1 k))), some (.own ((List.range (n - (k + 1))).map fun i => rowD m fun j => (Ba.clr R1 k c (k + 1 + i) j).fdiv last)), some (.own (matD n m R1)), some (.own (ldD k L)), some (.val (.int last))]) ?_ ?_
    · show mAsg 5 _ [none, some (.val (.int (c : Nat))), some (.val (.int (k : Nat))), some (.val (.int (p : Nat))), some (.val (rowD m (R1 k))), none, some (.own (matD n m R1)), some (.own (ldD k L)), some (.val (.int last))] = _
      refine asg_to (lc_to (ds := (List.range (n - (k + 1))).map fun i => rowD m (R1 (k + 1 + i))) ?_ ?_ ?_)
      · walk_at "ev"
        rw [show ((k : Int) + 1) = ((k + 1 : Nat) : Int) from rfl]
        unfold matD
        rw [cut_from (f := fun i => rowD m (R1 i)) (by omega)]
      · rw [List.length_map, List.length_range]; omega
      · refine compM_map fun i hi => ?_
        have hi := List.mem_range.mp hi
        show elM _ _ _ [some (.val (rowD m (R1 k))), some (.val (.int (c : Nat))), none, none, some (.own (matD n m R1)), some (.own (ldD k L)), some (.val (.int last))] _ = _
        unfold elM
        walk_at "ev"
        rw [run_cleared hc hm (fun j hj => BR _ (by omega) j hj) (fun j hj => BR k hk j hj) I1.nz Bl]
        rfl
    refine seq_to (asg_to (r := .own (matD n m (stepR R1 k c last))) ?_) ?_
    · walk_at "ev"
      rw [show ((k : Int) + 1) = ((k + 1 : Nat) : Int) from rfl]
      show (if ((cutD (matD n m R1) none (some ((k + 1 : Nat) : Int))).length + _) ≤ _ then some (Sl.own (cutD (matD n m R1) none (some ((k + 1 : Nat) : Int)) ++ _)) else none) = _
      have c2 : cutD (matD n m R1) none (some ((k + 1 : Nat) : Int)) = (List.range (k + 1)).map fun i => rowD m (R1 i) := cut_upto (by omega)
      rw [c2, mat2, if_pos]
      rw [List.length_map, List.length_map, List.length_range, List.length_range]
      omega
    refine seq_to (ρ' := [none, some (.val (.int (c : Nat))), some (.val (.int (k : Nat))), some (.val (.int (p : Nat))), some (.val (rowD m (R1 k))), some (.own ((List.range (n - (k + 1))).map fun i => rowD m fun j => (Ba.clr R1 k c (k + 1 + i) j).fdiv last)), some (.own (matD n m (stepR R1 k c last))), some (.own (ldD (k + 1) (fun t => if t = k then c else L t))), some (.val (.int last))]) ?_ ?_
    · walk_at "ev"
      rw [if_pos (by rw [len_ld]; omega), ld_snoc]
    · refine asg_to ?_
      simp only [mBin, mPk, List.getElem?_cons_zero, List.getElem?_cons_succ, Option.join_some, Option.bind_some, dix_row hc]
  · refine ⟨R, k, L, last, B, I.none hc hz, ?_⟩
    refine runM_rt (ρ := [none, some (.val (.int (c : Nat))), none, none, none, none, some (.own (matD n m R)), some (.own (ldD k L)), some (.val (.int last))])
      (ρ' := [none, some (.val (.int (c : Nat))), some (.val (.int (k : Nat))), some (.val .none), none, none, some (.own (matD n m R)), some (.own (ldD k L)), some (.val (.int last))]) rfl rfl rfl ?_
    unfold b_Stairs_step_down
    refine seq_to (ρ' := [none, some (.val (.int (c : Nat))), some (.val (.int (k : Nat))), none, none, none, some (.own (matD n m R)), some (.own (ldD k L)), some (.val (.int last))]) ?_ ?_
    · walk_at "ev"
      rw [len_ld]
    refine seq_to (ρ' := [none, some (.val (.int (c : Nat))), some (.val (.int (k : Nat))), some (.val .none), none, none, some (.own (matD n m R)), some (.own (ldD k L)), some (.val (.int last))]) ?_ ?_
    · show mMeth 6 _ _ _ [none, some (.val (.int (c : Nat))), some (.val (.int (k : Nat))), none, none, none, some (.own (matD n m R)), some (.own (ldD k L)), some (.val (.int last))] = _
      unfold mMeth
      walk_at "ev"
      show Option.bind (m_Stairs_place_of_lead (flds n m R k L last) [.int (k : Nat), .int (c : Nat)]) _ = _
      rw [pl]
      rfl
    exact seq_rt (if_to (b := true) (by walk_at "ev") rfl)
theorem run_init {n m Y : Nat} {A : Ba.Mx} (h1 : 1 ≤ n) (hn : n ≤ 32) (hm : m ≤ 1000) (hY1 : 1 ≤ Y) (hY : (32 * Y) ^ n < 2 ^ 4000) (hA : ∀ i, i < n → ∀ j, j < m → (A i j).natAbs ≤ Y) :
    ∃ R k L last B, Ba.BI n m A R k L last m B ∧ m_Stairs___init__ [none, none, none] [.list (matD n m A)] = some (flds n m R k L last, .none) := by
  obtain ⟨ρ', hf, z, R, k, L, last, B, rfl, I⟩ := forM_range (fg := gVar 2) (gb := mMeth 3 m_Stairs_step_down (mCons (mVar 2) mNil) fun ρ _ => some (.nx ρ)) (lo := 0) (n := m)
    (ρ := [none, some (.val (.list (matD n m A))), none, some (.own (matD n m A)), some (.own (ldD 0 fun _ => 0)), some (.val (.int 1))])
    (fun c ρ => ∃ z R k L last B, ρ = [none, some (.val (.list (matD n m A))), z, some (.own (matD n m R)), some (.own (ldD k L)), some (.val (.int last))] ∧ Ba.BI n m A R k L last c B)
    ⟨none, A, 0, fun _ => 0, 1, A, rfl, Ba.BI.start A⟩ (by
      rintro c ρ hc ⟨z, R, k, L, last, B, rfl, I⟩
      obtain ⟨R', k', L', last', B', I', hs⟩ := run_step I hc hn hm hY1 hY hA
      refine ⟨_, rfl, [none, some (.val (.list (matD n m A))), some (.val (.int (c : Nat))), some (.own (matD n m R')), some (.own (ldD k' L')), some (.val (.int last'))], .inl ?_, _, R', k', L', last', B', rfl, I'⟩
      rw [show (0 : Int) + (c : Nat) = ((c : Nat) : Int) from Int.zero_add _]
      unfold mMeth
      walk_at "ev"
      show Option.bind (m_Stairs_step_down (flds n m R k L last) [.int (c : Nat)]) _ = _
      rw [hs]
      rfl)
  refine ⟨R, k, L, last, B, I, ?_⟩
  refine runM_nx (ρ := [none, some (.val (.list (matD n m A))), none, none, none, none]) (ρ' := [none, some (.val (.list (matD n m A))), z, some (.own (matD n m R)), some (.own (ldD k L)), some (.val (.int last))]) rfl rfl rfl ?_
  unfold b_Stairs___init__
  refine seq_to (asg_to (r := .own (matD n m A)) rfl) (seq_to (asg_to (r := .own []) rfl) (seq_to (asg_to (r := .val (.int 1)) rfl) (for_to (rng1_to (j := m) ?_ hm) hf)))
  show mConsP (mCallP dLen (mConsP (mBin dix (mPk 1) (mK (.int 0))) mNilP)) mNilP [none, some (.val (.list (matD n m A))), none, some (.own (matD n m A)), some (.own []), some (.val (.int 1))] = _
  have e : dix (.val (.list (matD n m A))) (.val (.int 0)) = some (.val (rowD m (A 0))) := by
    show (atI (matD n m A) ((0 : Nat) : Int)).map Sl.val = _
    rw [atI_mat (by omega)]
    rfl
  simp only [mConsP, mNilP, mCallP, mBin, mPk, mK, List.getElem?_cons_zero, List.getElem?_cons_succ, Option.join_some, Option.bind_some, e, dLen, Sl.dat, rowD, List.length_map, List.length_range]
/-! ### whole rows -/
abbrev Tb := Nat → Nat → Int × Int
def frD (m : Nat) (r : Nat → Int × Int) : PyData := .list ((List.range m).map fun j => encF (r j))
def tabD (n m : Nat) (t : Tb) : PyData := .list ((List.range n).map fun i => frD m (t i))
def cbN (r : Nat → Int × Int) : Nat → Int
  | 0 => 1
  | j + 1 => (cbN r j).fdiv (Int.gcd (cbN r j) (r j).2) * (r j).2
theorem cb_all {r : Nat → Int × Int} {D : Nat} : ∀ {m : Nat}, (∀ j, j < m → 0 < (r j).2 ∧ (r j).2.natAbs ≤ D) → 0 < cbN r m ∧ (cbN r m).natAbs ≤ D ^ m ∧ ∀ j, j < m → (r j).2 ∣ cbN r m
  | 0, _ => ⟨show (0 : Int) < 1 by decide, by simp [cbN], fun j h => absurd h (by omega)⟩
  | m + 1, h => by
    obtain ⟨h1, h2, h3⟩ := cb_all (m := m) fun j hj => h j (by omega)
    obtain ⟨h4, h5⟩ := h m (by omega)
    have hg : 0 < Int.gcd (cbN r m) (r m).2 := Int.gcd_pos_iff.mpr (.inl (by omega))
    have hd1 := Int.gcd_dvd_left (cbN r m) (r m).2
    have hd2 := Int.gcd_dvd_right (cbN r m) (r m).2
    have e0 : cbN r (m + 1) = (cbN r m).fdiv (Int.gcd (cbN r m) (r m).2) * (r m).2 := rfl
    generalize Int.gcd (cbN r m) (r m).2 = g at *
    generalize cbN r m = c at *
    obtain ⟨x, rfl⟩ := hd1
    obtain ⟨y, hy⟩ := hd2
    have gp : (0 : Int) < (g : Int) := by omega
    have e : cbN r (m + 1) = x * (r m).2 := by rw [e0, Int.mul_fdiv_cancel_left _ (by omega)]
    have xp : 0 < x := by
      rcases (by omega : 0 < x ∨ x ≤ 0) with p | p
      · exact p
      · have := Int.mul_nonpos_of_nonneg_of_nonpos (Int.le_of_lt gp) p
        omega
    have xle : x.natAbs ≤ ((g : Int) * x).natAbs := by
      rw [Int.natAbs_mul]
      exact Nat.le_mul_of_pos_left _ (by omega)
    refine ⟨by rw [e]; exact Int.mul_pos xp h4, ?_, fun j hj => ?_⟩
    · rw [e, Int.natAbs_mul, Nat.pow_succ]
      exact Nat.mul_le_mul (Nat.le_trans xle h2) h5
    · rw [e]
      by_cases q : j = m
      · subst q; exact Int.dvd_mul_left _ _
      · have a := h3 j (by omega)
        have b : (g : Int) * x ∣ x * (r m).2 := by
          rw [hy]
          exact ⟨y, by rw [Int.mul_comm (g : Int) x, Int.mul_assoc]⟩
        exact Int.dvd_trans a b
def whN (m : Nat) (r : Nat → Int × Int) (j : Nat) : Int := (r j).1 * (cbN r m).fdiv (r j).2
theorem dix_fr {m j : Nat} {r : Nat → Int × Int} (h : j < m) : dix (.val (frD m r)) (.val (.int (j : Int))) = some (.val (encF (r j))) := by
  show (atI ((List.range m).map fun j => encF (r j)) (j : Int)).map Sl.val = _
  rw [atI_range h]
  rfl
theorem dix_f0 (q : Int × Int) : dix (.val (encF q)) (.val (.int 0)) = some (.val (.int q.1)) := rfl
theorem dix_f1 (q : Int × Int) : dix (.val (encF q)) (.val (.int 1)) = some (.val (.int q.2)) := rfl
theorem run_cb {m D : Nat} {r : Nat → Int × Int} (h : ∀ j, j < m → 0 < (r j).2 ∧ (r j).2.natAbs ≤ D) (hD : D ^ m < 2 ^ 4000) (hD1 : 1 ≤ D) (hD2 : D < 2 ^ 4000) : m_common_bottom [frD m r] = some (.val (.int (cbN r m))) := by
  obtain ⟨ρ', hf, z, rfl⟩ := forM_list (fg := gVar 2) (gb := (mFrz 1 (mAsg 1 (mBin dRep (mBin dFdiv (mPk 1) (mCall m_greatest_divisor (mCons (mVar 1) (mCons (mBin dix (mPk 2) (mK (.int 1))) mNil)))) (mBin dix (mPk 2) (mK (.int 1)))))))
    (ds := (List.range m).map fun j => encF (r j)) (ρ := [some (.val (frD m r)), some (.val (.int 1)), none]) (fun i ρ => ∃ z, ρ = [some (.val (frD m r)), some (.val (.int (cbN r i))), z]) ⟨none, rfl⟩ (by
      rintro i d ρ hd ⟨z, rfl⟩
      rw [List.getElem?_map] at hd
      by_cases hi : i < m
      · rw [List.getElem?_range hi] at hd
        cases hd
        obtain ⟨c1, c2, c3⟩ := cb_all (r := r) (D := D) (m := i) fun j hj => h j (by omega)
        obtain ⟨h4, h5⟩ := h i hi
        have b1 : Bt 4000 (cbN r i) := Nat.lt_of_le_of_lt (Nat.le_trans c2 (Nat.pow_le_pow_right hD1 (by omega))) hD
        have b2 : Bt 4000 (r i).2 := Nat.lt_of_le_of_lt h5 hD2
        have hg : 0 < Int.gcd (cbN r i) (r i).2 := Int.gcd_pos_iff.mpr (.inl (by omega))
        have b3 : Bt 4000 ((Int.gcd (cbN r i) (r i).2 : Nat) : Int) := by
          refine b2.of_le ?_
          have := Int.natAbs_dvd_natAbs.mpr (Int.gcd_dvd_right (cbN r i) (r i).2)
          exact Nat.le_of_dvd (by omega) (by simpa using this)
        refine ⟨_, rfl, [some (.val (frD m r)), some (.val (.int (cbN r (i + 1)))), some (.val (encF (r i)))], .inl ?_, _, rfl⟩
        simp only [mFrz, frz1, mAsg, mBin, mPk, mVar, mK, mCall, mCons, mNil, List.set_cons_succ, List.set_cons_zero, List.getElem?_cons_zero, List.getElem?_cons_succ, Option.join_some, Option.bind_some, dix_f1, Sl.dat, run_gd]
        rw [divS ⟨by omega, b3.mono (by decide)⟩]
        simp only [Option.bind_some]
        rw [mulS (.inr (cmulC (n := 4000) (m := 4000) b1.fdiv b2 rfl))]
        rfl
      · rw [List.getElem?_eq_none (l := List.range m) (by simpa using hi)] at hd; cases hd)
  rw [List.length_map, List.length_range] at hf
  refine runD_rt (ρ := [some (.val (frD m r)), none, none]) rfl rfl ?_
  unfold b_common_bottom
  refine rts_seq (asg_to (r := .val (.int 1)) rfl) (rts_seq (for_to (ds := (List.range m).map fun j => encF (r j)) rfl hf) (rts_ret rfl))
theorem run_wr {m D : Nat} {r : Nat → Int × Int} (h : ∀ j, j < m → 0 < (r j).2 ∧ (r j).2.natAbs ≤ D) (hT : ∀ j, j < m → Bt 4000 (r j).1) (hm : m ≤ 1000) (hD : D ^ m < 2 ^ 4000) (hD1 : 1 ≤ D) (hD2 : D < 2 ^ 4000) : m_whole_row [frD m r] = some (.own ((List.range m).map fun j => .int (whN m r j))) := by
  obtain ⟨c1, c2, c3⟩ := cb_all (r := r) (D := D) (m := m) h
  refine runD_rt (ρ := [some (.val (frD m r)), none]) rfl rfl ?_
  unfold b_whole_row
  refine rts_seq (asg_to (call_to (ds := [frD m r]) rfl (run_cb h hD hD1 hD2))) (rts_ret (lc_to (ds := (List.range m).map fun j => encF (r j)) rfl ?_ ?_))
  · rw [List.length_map, List.length_range]
    have : 1000 < sizeLine := by decide
    omega
  · refine compM_map fun j hj => ?_
    have hj := List.mem_range.mp hj
    show elM _ _ _ [some (.val (.int (cbN r m))), none] _ = _
    unfold elM
    obtain ⟨h4, h5⟩ := h j hj
    have b1 : Bt 4000 (cbN r m) := Nat.lt_of_le_of_lt c2 hD
    have b2 : Bt 4000 (r j).2 := Nat.lt_of_le_of_lt h5 hD2
    simp only [gVar, mYes, mBin, mPk, mK, List.set_cons_succ, List.set_cons_zero, List.getElem?_cons_zero, List.getElem?_cons_succ, Option.join_some, Option.bind_some, dix_f0, dix_f1]
    rw [divS ⟨by omega, b2.mono (by decide)⟩]
    simp only [Option.bind_some]
    rw [mulS (.inr (cmulC (n := 4000) (m := 4000) (hT j hj) b1.fdiv rfl))]
    rfl
theorem fdiv_abs {a b : Int} (hb : 0 < b) : (a.fdiv b).natAbs ≤ a.natAbs := by
  rw [Int.fdiv_eq_ediv_of_nonneg a (Int.le_of_lt hb)]
  exact Int.natAbs_ediv_le_natAbs a b
def W (m : Nat) (t : Tb) : Ba.Mx := fun i => whN m (t i)
structure TabOk (n m D T : Nat) (t : Tb) : Prop where
  n1 : 1 ≤ n
  n32 : n ≤ 32
  m1000 : m ≤ 1000
  D1 : 1 ≤ D
  T1 : 1 ≤ T
  bot : ∀ i, i < n → ∀ j, j < m → 0 < (t i j).2 ∧ (t i j).2.natAbs ≤ D
  top : ∀ i, i < n → ∀ j, j < m → (t i j).1.natAbs ≤ T
  size : (32 * (T * D ^ m)) ^ n < 2 ^ 4000
theorem TabOk.TD {n m D T : Nat} {t : Tb} (k : TabOk n m D T t) : T * D ^ m < 2 ^ 4000 := by
  refine Nat.lt_of_le_of_lt ?_ k.size
  have p : 1 ≤ T * D ^ m := Nat.mul_pos k.T1 (Nat.pow_pos k.D1)
  calc T * D ^ m ≤ 32 * (T * D ^ m) := by omega
    _ = (32 * (T * D ^ m)) ^ 1 := (Nat.pow_one _).symm
    _ ≤ _ := Nat.pow_le_pow_right (by omega) k.n1
theorem TabOk.Dm {n m D T : Nat} {t : Tb} (k : TabOk n m D T t) : D ^ m < 2 ^ 4000 := Nat.lt_of_le_of_lt (Nat.le_mul_of_pos_left _ k.T1) k.TD
theorem TabOk.Tl {n m D T : Nat} {t : Tb} (k : TabOk n m D T t) : T < 2 ^ 4000 := Nat.lt_of_le_of_lt (Nat.le_mul_of_pos_right _ (Nat.pow_pos k.D1)) k.TD
theorem TabOk.Dl {n m D T : Nat} {t : Tb} (k : TabOk n m D T t) (hm : 1 ≤ m) : D < 2 ^ 4000 := by
  refine Nat.lt_of_le_of_lt ?_ k.Dm
  calc D = D ^ 1 := (Nat.pow_one _).symm
    _ ≤ _ := Nat.pow_le_pow_right k.D1 hm
theorem TabOk.Wb {n m D T : Nat} {t : Tb} (k : TabOk n m D T t) : ∀ i, i < n → ∀ j, j < m → (W m t i j).natAbs ≤ T * D ^ m := by
  intro i hi j hj
  obtain ⟨c1, c2, _⟩ := cb_all (r := t i) (D := D) (m := m) fun j hj => k.bot i hi j hj
  show ((t i j).1 * (cbN (t i) m).fdiv (t i j).2).natAbs ≤ _
  rw [Int.natAbs_mul]
  exact Nat.mul_le_mul (k.top i hi j hj) (Nat.le_trans (fdiv_abs (k.bot i hi j hj).1) c2)
theorem run_so {n m D T : Nat} {t : Tb} (k : TabOk n m D T t) (hm1 : 1 ≤ m) : ∃ R l L last B, Ba.BI n m (W m t) R l L last m B ∧ m_stairs_of [tabD n m t] = some (flds n m R l L last) := by
  have hY1 : 1 ≤ T * D ^ m := Nat.mul_pos k.T1 (Nat.pow_pos k.D1)
  obtain ⟨R, l, L, last, B, I, hi⟩ := run_init (A := W m t) k.n1 k.n32 k.m1000 hY1 k.size k.Wb
  refine ⟨R, l, L, last, B, I, ?_⟩
  unfold m_stairs_of runO
  rw [if_pos (show [tabD n m t].length = 1 from rfl)]
  have lc : (mLC (subE [none]) (mItems (mVar 0)) (gVar 0) mYes (mCall m_whole_row (mCons (mVar 0) mNil))) [some (.val (tabD n m t))] = some (.own (matD n m (W m t))) := by
    refine lc_to (ds := (List.range n).map fun i => frD m (t i)) rfl ?_ ?_
    · rw [List.length_map, List.length_range]
      have : 1000 < sizeLine := by decide
      have := k.n32
      omega
    · refine compM_map fun i hi => ?_
      have hi := List.mem_range.mp hi
      show elM _ _ _ [none] _ = _
      unfold elM
      simp only [gVar, mYes, mCall, mCons, mNil, mVar, List.set_cons_zero, List.getElem?_cons_zero, Option.join_some, Option.bind_some, Sl.dat, run_wr (k.bot i hi) (fun j hj => Nat.lt_of_le_of_lt (k.top i hi j hj) k.Tl) k.m1000 k.Dm k.D1 (k.Dl hm1)]
      rfl
  show mMake 3 m_Stairs___init__ _ [some (.val (tabD n m t))] = _
  unfold mMake
  simp only [mCons, mNil, lc, Option.bind_some, Sl.dat]
  show Option.bind (m_Stairs___init__ [none, none, none] [.list (matD n m (W m t))]) _ = _
  rw [hi]
  rfl
def prodN : Nat → (Nat → Int) → Int
  | 0, _ => 1
  | n + 1, f => prodN n f * f n
theorem prod_pos {f : Nat → Int} : ∀ {n : Nat}, (∀ i, i < n → 0 < f i) → 0 < prodN n f
  | 0, _ => show (0 : Int) < 1 by decide
  | n + 1, h => Int.mul_pos (prod_pos fun i hi => h i (by omega)) (h n (by omega))
theorem prod_abs {f : Nat → Int} {X : Nat} : ∀ {n : Nat}, (∀ i, i < n → (f i).natAbs ≤ X) → (prodN n f).natAbs ≤ X ^ n
  | 0, _ => by simp [prodN]
  | n + 1, h => by
    rw [prodN, Int.natAbs_mul, Nat.pow_succ]
    exact Nat.mul_le_mul (prod_abs fun i hi => h i (by omega)) (h n (by omega))
theorem obj_to {n s : Nat} {fo : En → Option En} {g : En → Option Out} {ρ φ : En} {r : Sl} (hl : ρ.length = n) (h : fo ρ = some φ) (k : Rts g (ρ.set s none ++ φ) r) : Rts (mObj n s fo g) ρ r := by
  obtain ⟨ρ', k⟩ := k
  refine ⟨List.replicate ρ.length none, ?_⟩
  unfold mObj
  rw [if_pos hl, h]
  simp only [Option.bind_some, k]
theorem run_det {n D T : Nat} {t : Tb} (k : TabOk n n D T t) (hP : (D ^ n) ^ n < 2 ^ 8000) : ∃ q : Int × Int, m_determinant [tabD n n t] = some (.val (encF q)) ∧ 0 < q.2 ∧ Int.gcd q.1 q.2 = 1 ∧ q.1 * prodN n (fun i => cbN (t i) n) = Ba.det n (W n t) * q.2 := by
  obtain ⟨R, l, L, last, B, I, hs⟩ := run_so k k.n1
  have call : (mCallO m_stairs_of (mCons (mVar 0) mNil)) [some (.val (tabD n n t)), none, none, none] = some (flds n n R l L last) := by
    simp only [mCallO, mCons, mNil, mVar, List.getElem?_cons_zero, Option.join_some, Option.bind_some, Sl.dat, hs]
  have test : (mTest (mBin dLt (mCallP dLen (mConsP (mPk 5) mNilP)) (mCallP dLen (mConsP (mPk 0) mNilP)))) [some (.val (tabD n n t)), none, none, none, some (.own (matD n n R)), some (.own (ldD l L)), some (.val (.int last))] = some (decide ((l : Int) < (n : Int))) := by
    simp only [mTest, mBin, mCallP, mConsP, mNilP, mPk, List.getElem?_cons_zero, List.getElem?_cons_succ, Option.join_some, Option.bind_some, dLen, Sl.dat, tabD, len_ld, List.length_map, List.length_range, dLt, icmp]
  by_cases hl : l < n
  · refine ⟨(0, 1), ?_, by decide, by decide, ?_⟩
    · refine runD_rt (ρ := [some (.val (tabD n n t)), none, none, none]) rfl rfl ?_
      unfold b_determinant
      refine obj_to rfl call (rts_seqR (rts_if (b := true) ?_ (rts_ret rfl)))
      show (mTest _) [some (.val (tabD n n t)), none, none, none, some (.own (matD n n R)), some (.own (ldD l L)), some (.val (.int last))] = _
      rw [test, decide_eq_true (by omega)]
    · rw [I.det_less hl]
      simp
  · have hln : l = n := by have := I.kn; omega
    subst hln
    have hdet := I.det_full
    have cb := fun i (hi : i < l) => cb_all (r := t i) (D := D) (m := l) fun j hj => k.bot i hi j hj
    have hPp : 0 < prodN l (fun i => cbN (t i) l) := prod_pos fun i hi => (cb i hi).1
    have hPb : ∀ j, j ≤ l → Bt 8000 (prodN j (fun i => cbN (t i) l)) := fun j hj => Nat.lt_of_le_of_lt (Nat.le_trans (prod_abs (X := D ^ l) fun i hi => (cb i (by omega)).2.1) (Nat.pow_le_pow_right (Nat.pow_pos k.D1) hj)) hP
    refine ⟨fr (Ba.det l (W l t)) (prodN l (fun i => cbN (t i) l)), ?_, fr_pos (by omega), fr_gcd (by omega), fr_cross (by omega)⟩
    refine runD_rt (ρ := [some (.val (tabD l l t)), none, none, none]) rfl rfl ?_
    unfold b_determinant
    refine obj_to rfl call ?_
    show Rts _ [some (.val (tabD l l t)), none, none, none, some (.own (matD l l R)), some (.own (ldD l L)), some (.val (.int last))] _
    refine rts_seq (if_to (b := false) (by rw [test, decide_eq_false (by omega)]) rfl) (rts_seq (asg_to (r := .val (.int 1)) rfl) ?_)
    obtain ⟨ρ', hf, z, rfl⟩ := forM_list (fg := gVar 3) (gb := (mAsg 2 (mBin dRep (mPk 2) (mCall m_common_bottom (mCons (mVar 3) mNil)))))
      (ds := (List.range l).map fun i => frD l (t i)) (ρ := [some (.val (tabD l l t)), none, some (.val (.int 1)), none, some (.own (matD l l R)), some (.own (ldD l L)), some (.val (.int last))])
      (fun i ρ => ∃ z, ρ = [some (.val (tabD l l t)), none, some (.val (.int (prodN i (fun i => cbN (t i) l)))), z, some (.own (matD l l R)), some (.own (ldD l L)), some (.val (.int last))]) ⟨none, rfl⟩ (by
        rintro i d ρ hd ⟨z, rfl⟩
        rw [List.getElem?_map] at hd
        by_cases hi : i < l
        · rw [List.getElem?_range hi] at hd
          cases hd
          refine ⟨_, rfl, [some (.val (tabD l l t)), none, some (.val (.int (prodN (i + 1) (fun i => cbN (t i) l)))), some (.val (frD l (t i))), some (.own (matD l l R)), some (.own (ldD l L)), some (.val (.int last))], .inl ?_, _, rfl⟩
          have b1 := hPb i (by omega)
          have b2 : Bt 4000 (cbN (t i) l) := Nat.lt_of_le_of_lt (cb i hi).2.1 k.Dm
          simp only [mAsg, mBin, mPk, mVar, mCall, mCons, mNil, List.set_cons_succ, List.set_cons_zero, List.getElem?_cons_zero, List.getElem?_cons_succ, Option.join_some, Option.bind_some, Sl.dat, run_cb (k.bot i hi) k.Dm k.D1 (k.Dl k.n1)]
          rw [mulS (.inr (cmulC (n := 8000) (m := 4000) b1 b2 rfl))]
          rfl
        · rw [List.getElem?_eq_none (l := List.range l) (by simpa using hi)] at hd; cases hd)
    rw [List.length_map, List.length_range] at hf
    refine rts_seq (for_to (ds := (List.range l).map fun i => frD l (t i)) rfl hf) (rts_frz (rts_ret (call_to (ds := [.int last, .int (prodN l (fun i => cbN (t i) l))]) ?_ ?_)))
    · simp only [frz1, List.length_map, List.length_range, mCons, mNil, mVar, List.getElem?_cons_zero, List.getElem?_cons_succ, Option.join_some, Option.bind_some, Sl.dat]
    · rw [hdet]
      exact run_frac (by omega) ((hPb l (Nat.le_refl _)).mono (by decide))
theorem fr_abs {a b : Int} (hb : 0 < b) : (fr a b).1.natAbs ≤ a.natAbs ∧ (fr a b).2.natAbs ≤ b.natAbs := by
  have hs : 0 < sg a b := by
    have := sg_ne (a := a) (show b ≠ 0 by omega)
    unfold sg at *
    rw [if_neg (by omega)] at *
    omega
  exact ⟨fdiv_abs hs, fdiv_abs hs⟩
/-- a drawn fraction -/
structure Gd (q : Int × Int) : Prop where
  pos : 0 < q.2
  bot : q.2.natAbs ≤ 6
  top : q.1.natAbs ≤ 10 ^ 40
theorem fm {a b : Int} (h : 0 < b) : 0 ≤ a.fmod b ∧ a.fmod b < b := ⟨Int.fmod_nonneg_of_pos a h, Int.fmod_lt_of_pos a h⟩
theorem run_drawn (c : Int) {j : Int} (h0 : 0 ≤ j) (h1 : j < 100000) : ∃ q, m__law_drawn [.int c, .int j] = some (.val (encF q)) ∧ Gd q := by
  obtain ⟨v, hv, v0, v1⟩ := run_mix c h0 (by omega)
  have m3 := fm (a := v) (show (0 : Int) < 3 by decide)
  have m13 := fm (a := v.fdiv 3) (show (0 : Int) < 13 by decide)
  have m6 := fm (a := v.fdiv 39) (show (0 : Int) < 6 by decide)
  have big : (2 * 10 ^ (40 : Int).toNat - 1 : Int) = 19999999999999999999999999999999999999999 := by decide
  have big2 : (10 ^ (40 : Int).toNat - 1 : Int) = 9999999999999999999999999999999999999999 := by decide
  have ten : (10 ^ 40 : Nat) = 10000000000000000000000000000000000000000 := by decide
  obtain ⟨top1, ht1, hs1⟩ : ∃ top1 : Int, (-6 ≤ top1 ∧ top1 ≤ 6) ∧ (mBin dix (mLst (mCons (mK (.int 0)) (mCons (mBin dSub (mBin dMod (mBin dFdiv (mPk 2) (mK (.int 3))) (mK (.int 13))) (mK (.int 6))) (mCons (mBin dSub (mBin dMod (mBin dFdiv (mPk 2) (mK (.int 3))) (mK (.int 13))) (mK (.int 6))) mNil)))) (mBin dMod (mPk 2) (mK (.int 3)))) [some (.val (.int c)), some (.val (.int j)), some (.val (.int v)), none] = some (.val (.int top1)) := by
    have e : (mBin dix (mLst (mCons (mK (.int 0)) (mCons (mBin dSub (mBin dMod (mBin dFdiv (mPk 2) (mK (.int 3))) (mK (.int 13))) (mK (.int 6))) (mCons (mBin dSub (mBin dMod (mBin dFdiv (mPk 2) (mK (.int 3))) (mK (.int 13))) (mK (.int 6))) mNil)))) (mBin dMod (mPk 2) (mK (.int 3)))) [some (.val (.int c)), some (.val (.int j)), some (.val (.int v)), none] = (atI [PyData.int 0, .int ((v.fdiv 3).fmod 13 - 6), .int ((v.fdiv 3).fmod 13 - 6)] (v.fmod 3)).map .val := by
      walk_at "ev"
      rw [divS (cdivC rfl), modS (by decide)]
      walk_at "ev"
      rw [modS (by decide)]
      walk_at "ev"
      rw [if_pos (by show 3 ≤ sizeLine; decide)]
      walk_at "ev"
    rw [e]
    rcases (by omega : v.fmod 3 = 0 ∨ v.fmod 3 = 1 ∨ v.fmod 3 = 2) with h | h | h <;> rw [h]
    · exact ⟨0, by omega, rfl⟩
    · exact ⟨_, by omega, rfl⟩
    · exact ⟨_, by omega, rfl⟩
  obtain ⟨top2, ht2, hs2⟩ : ∃ top2 : Int, top2.natAbs ≤ 10 ^ 40 ∧ (mIf (mTest (mBin deq (mBin dMod (mPk 2) (mK (.int 11))) (mK (.int 0)))) (mAsg 3 (mBin dSub (mBin dMod (mBin dAdd (mBin dRep (mPk 0) (mBin dAdd (mPk 1) (mK (.int 1)))) (mPk 2)) (mBin dSub (mBin dRep (mK (.int 2)) (mBin dPow (mK (.int 10)) (mK (.int 40)))) (mK (.int 1)))) (mBin dSub (mBin dPow (mK (.int 10)) (mK (.int 40))) (mK (.int 1))))) mNext) [some (.val (.int c)), some (.val (.int j)), some (.val (.int v)), some (.val (.int top1))] = some (.nx [some (.val (.int c)), some (.val (.int j)), some (.val (.int v)), some (.val (.int top2))]) := by
    have tst : (mTest (mBin deq (mBin dMod (mPk 2) (mK (.int 11))) (mK (.int 0)))) [some (.val (.int c)), some (.val (.int j)), some (.val (.int v)), some (.val (.int top1))] = some (decide (v.fmod 11 = 0)) := by
      walk_at "ev"
      rw [modS (by decide)]
      walk_at "ev"
    by_cases h : v.fmod 11 = 0
    · have mb := fm (a := c * (j + 1) + v) (show (0 : Int) < 19999999999999999999999999999999999999999 by decide)
      refine ⟨(c * (j + 1) + v).fmod 19999999999999999999999999999999999999999 - 9999999999999999999999999999999999999999, by rw [ten]; omega, if_to (b := true) (by rw [tst, decide_eq_true h]) (asg_to ?_)⟩
      walk_at "ev"
      rw [mulS (cmR (by omega) (by omega)), powS (cpowC rfl)]
      walk_at "ev"
      rw [mulS (cmL (by decide) (by decide))]
      walk_at "ev"
      rw [big, big2, modS (by decide)]
      walk_at "ev"
    · exact ⟨top1, by rw [ten]; omega, if_to (b := false) (by rw [tst, decide_eq_false h]) rfl⟩
  have hb : 0 < 1 + (v.fdiv 39).fmod 6 := by omega
  refine ⟨fr top2 (1 + (v.fdiv 39).fmod 6), ?_, fr_pos (by omega), ?_, ?_⟩
  · refine runD_rt (ρ := [some (.val (.int c)), some (.val (.int j)), none, none]) rfl rfl ?_
    unfold b__law_drawn
    refine rts_seq (asg_to (call_to (ds := [.int c, .int j]) rfl hv)) (rts_seq (asg_to hs1) (rts_seq hs2 (rts_frz (rts_ret (call_to (ds := [.int top2, .int (1 + (v.fdiv 39).fmod 6)]) ?_ ?_)))))
    · show (mCons _ _) [some (.val (.int c)), some (.val (.int j)), some (.val (.int v)), some (.val (.int top2))] = _
      walk_at "ev"
      rw [divS (cdivC rfl)]
      walk_at "ev"
      rw [modS (by decide)]
      walk_at "ev"
    · exact run_lfrac hb (by unfold Bt; have : (1 + (v.fdiv 39).fmod 6).natAbs < 2 ^ 3 := by omega
                             exact Nat.lt_of_lt_of_le this (Nat.pow_le_pow_right (by decide) (by decide)))
  · have := (fr_abs (a := top2) hb).2
    omega
  · exact Nat.le_trans (fr_abs (a := top2) hb).1 ht2
theorem bin_eq {op : Sl → Sl → Option Sl} {fa fb : En → Option Sl} {ρ : En} {a b : Sl} (ha : fa ρ = some a) (hb : fb ρ = some b) : mBin op fa fb ρ = op a b := by
  unfold mBin
  rw [ha]
  show Option.bind (fb ρ) _ = _
  rw [hb]
  rfl
theorem test_eq {f : En → Option Sl} {ρ : En} {b : Bool} (h : f ρ = some (.val (.bool b))) : mTest f ρ = some b := by
  unfold mTest
  rw [h]
  rfl
theorem deq_int (i j : Int) : deq (.val (.int i)) (.val (.int j)) = some (.val (.bool (decide (i = j)))) := by
  show (eqD (.int i) (.int j)).map _ = _
  rw [eqD_int]
  rfl
theorem set_to {i j : Nat} {k : Int} {fj f : En → Option Sl} {ρ : En} {r : Sl} {ds : List PyData} (h : f ρ = some r) (ho : (ρ[i]?).join = some (.own ds)) (hj : fj ρ = some (.val (.int k))) (hx : ixN ds.length k = some j) : mSet i fj f ρ = some (.nx (ρ.set i (some (.own (ds.set j r.dat))))) := by
  unfold mSet
  rw [h]
  show (match (ρ[i]?).join with | some (.own ds) => _ | _ => _) = _
  rw [ho]
  show Option.bind (fj ρ) _ = _
  rw [hj]
  show (ixN ds.length k).map _ = _
  rw [hx]
  rfl
theorem app_to {i : Nat} {f : En → Option Sl} {ρ : En} {r : Sl} {ds : List PyData} (h : f ρ = some r) (ho : (ρ[i]?).join = some (.own ds)) (hl : ds.length < sizeLine) : mApp i f ρ = some (.nx (ρ.set i (some (.own (ds ++ [r.dat]))))) := by
  unfold mApp
  rw [ho]
  show Option.bind (f ρ) _ = _
  rw [h]
  show (if ds.length < sizeLine then _ else _) = _
  rw [if_pos hl]
theorem callP_to {F : List Sl → Option Sl} {f : En → Option (List Sl)} {ρ : En} {ss : List Sl} {r : Sl} (h : f ρ = some ss) (k : F ss = some r) : mCallP F f ρ = some r := by
  unfold mCallP
  rw [h]
  exact k
theorem cons_to {f : En → Option Sl} {g : En → Option (List PyData)} {ρ : En} {a : Sl} {as : List PyData} (h : f ρ = some a) (k : g ρ = some as) : mCons f g ρ = some (a.dat :: as) := by
  unfold mCons
  rw [h]
  show Option.bind (g ρ) _ = _
  rw [k]
  rfl
theorem consP_to {f : En → Option Sl} {g : En → Option (List Sl)} {ρ : En} {a : Sl} {as : List Sl} (h : f ρ = some a) (k : g ρ = some as) : mConsP f g ρ = some (a :: as) := by
  unfold mConsP
  rw [h]
  show Option.bind (g ρ) _ = _
  rw [k]
  rfl
def tbl (n i : Nat) (t : Tb) : List PyData := (List.range i).map fun a => frD n (t a)
theorem cell_at {cells : List Int} {i : Nat} (h : i < cells.length) : dix (.val (.list (cells.map .int))) (.val (.int (i : Int))) = some (.val (.int cells[i])) := by
  show (atI (cells.map PyData.int) (i : Int)).map Sl.val = _
  rw [atI_nat (v := PyData.int cells[i]) (by rw [List.getElem?_map, List.getElem?_eq_getElem h]; rfl)]
  rfl
theorem fmod_nat {v : Int} {n : Nat} (hn : 0 < n) : ∃ p : Nat, p < n ∧ v.fmod (n : Int) = (p : Int) := by
  have := fm (a := v) (b := (n : Int)) (by omega)
  exact ⟨(v.fmod n).toNat, by omega, by omega⟩
theorem tbl_set {n k i : Nat} {t : Tb} {r : Nat → Int × Int} : (tbl n i t).set k (frD n r) = tbl n i (fun a => if a = k then r else t a) := by
  unfold tbl
  rw [set_range]
  refine List.map_congr_left fun a _ => ?_
  show _ = frD n (if a = k then r else t a)
  split <;> rfl
theorem tbl_snoc {n i : Nat} {t : Tb} {r : Nat → Int × Int} : tbl n i t ++ [frD n r] = tbl n (i + 1) (fun a => if a = i then r else t a) := by
  unfold tbl
  rw [List.range_succ, List.map_append]
  congr 1
  · refine List.map_congr_left fun a ha => ?_
    have := List.mem_range.mp ha
    show _ = frD n (if a = i then r else t a)
    rw [if_neg (by omega)]
  · simp
theorem run_table {cells : List Int} {at_ : Nat} (hat : at_ < cells.length) (hlen : cells.length ≤ 64) : ∃ n t, 1 ≤ n ∧ n ≤ 4 ∧ (∀ i, i < n → ∀ j, j < n → Gd (t i j)) ∧ m__law_table [.list (cells.map .int), .int at_] = some (.own (tbl n n t)) := by
  have sl : 1000 < sizeLine := by decide
  obtain ⟨v1, hv1, _, _⟩ := run_mix cells[at_] (j := 1) (by decide) (by decide)
  obtain ⟨v2, hv2, _, _⟩ := run_mix cells[at_] (j := 2) (by decide) (by decide)
  obtain ⟨v3, hv3, _, _⟩ := run_mix cells[at_] (j := 3) (by decide) (by decide)
  obtain ⟨v4, hv4, _, _⟩ := run_mix cells[at_] (j := 4) (by decide) (by decide)
  have m4 := fm (a := v1) (show (0 : Int) < 4 by decide)
  let CE : Option Sl := some (.val (.list (cells.map .int)))
  let AT : Option Sl := some (.val (.int (at_ : Int)))
  have mixc : ∀ {x y z u w : Option Sl} {jj v : Int}, m__law_mix [.int cells[at_], .int jj] = some (.val (.int v)) → (mCall m__law_mix (mCons (mBin dix (mPk 0) (mPk 1)) (mCons (mK (.int jj)) mNil))) [CE, AT, x, y, z, u, w] = some (.val (.int v)) := by
    intro x y z u w jj v h
    simp only [mCall, mCons, mNil, mBin, mPk, mK, List.getElem?_cons_zero, List.getElem?_cons_succ, Option.join_some, Option.bind_some, CE, AT, cell_at hat, Sl.dat, h]
  obtain ⟨n, n1, n4, hsz⟩ : ∃ n : Nat, 1 ≤ n ∧ n ≤ 4 ∧ (mBin dix (mLst (mCons (mK (.int 1)) (mCons (mK (.int 2)) (mCons (mK (.int 3)) (mCons (mK (.int 4)) mNil))))) (mBin dMod (mCall m__law_mix (mCons (mBin dix (mPk 0) (mPk 1)) (mCons (mK (.int 1)) mNil))) (mK (.int 4)))) [CE, AT, none, none, none, none, none] = some (.val (.int (n : Int))) := by
    have e : (mBin dix (mLst (mCons (mK (.int 1)) (mCons (mK (.int 2)) (mCons (mK (.int 3)) (mCons (mK (.int 4)) mNil))))) (mBin dMod (mCall m__law_mix (mCons (mBin dix (mPk 0) (mPk 1)) (mCons (mK (.int 1)) mNil))) (mK (.int 4)))) [CE, AT, none, none, none, none, none] = (atI [PyData.int 1, .int 2, .int 3, .int 4] (v1.fmod 4)).map .val := by
      have := mixc (x := none) (y := none) (z := none) (u := none) (w := none) hv1
      have a1 : (mLst (mCons (mK (.int 1)) (mCons (mK (.int 2)) (mCons (mK (.int 3)) (mCons (mK (.int 4)) mNil))))) [CE, AT, none, none, none, none, none] = some (.own [.int 1, .int 2, .int 3, .int 4]) := by
        walk_at "ev"
        rw [if_pos (by show 4 ≤ sizeLine; decide)]
      exact bin_eq a1 ((bin_eq this rfl).trans (modS (by decide)))
    rw [e]
    rcases (by omega : v1.fmod 4 = 0 ∨ v1.fmod 4 = 1 ∨ v1.fmod 4 = 2 ∨ v1.fmod 4 = 3) with h | h | h | h <;> rw [h]
    · exact ⟨1, by omega, by omega, rfl⟩
    · exact ⟨2, by omega, by omega, rfl⟩
    · exact ⟨3, by omega, by omega, rfl⟩
    · exact ⟨4, by omega, by omega, rfl⟩
  let SZ : Option Sl := some (.val (.int (n : Int)))
  -- the rows
  obtain ⟨ρ', hf, t, z1, z2, rfl, hg⟩ := forM_range (fg := gVar 4) (gb := (mSeq (mAsg 6 (mBin dix (mPk 0) (mBin dMod (mBin dAdd (mPk 1) (mPk 4)) (mCallP dLen (mConsP (mPk 0) mNilP))))) (mFrz 6 (mApp 3 (mLC (subE [some 6, some 4, none]) (mRng1 (mConsP (mPk 2) mNilP)) (gVar 2) mYes (mCall m__law_drawn (mCons (mVar 0) (mCons (mBin dAdd (mBin dAdd (mK (.int 10)) (mBin dRep (mK (.int 6)) (mPk 1))) (mPk 2)) mNil)))))))) (lo := 0) (n := n)
    (ρ := [CE, AT, SZ, some (.own (tbl n 0 fun _ _ => (0, 1))), none, none, none])
    (fun i ρ => ∃ t z1 z2, ρ = [CE, AT, SZ, some (.own (tbl n i t)), z1, none, z2] ∧ ∀ a, a < i → ∀ j, j < n → Gd (t a j)) ⟨_, _, _, rfl, fun a h => absurd h (by omega)⟩ (by
      rintro i ρ hi ⟨t, z1, z2, rfl, hg⟩
      rw [show (0 : Int) + (i : Nat) = ((i : Nat) : Int) from Int.zero_add _]
      obtain ⟨p, hp, ep⟩ := fmod_nat (v := (at_ : Int) + (i : Int)) (n := cells.length) (by omega)
      have ch : ∀ j : Nat, ∃ q, j < n → m__law_drawn [.int cells[p], .int (10 + 6 * (i : Int) + (j : Int))] = some (.val (encF q)) ∧ Gd q := by
        intro j
        by_cases hj : j < n
        · obtain ⟨q, h1, h2⟩ := run_drawn cells[p] (j := 10 + 6 * (i : Int) + (j : Int)) (by omega) (by omega)
          exact ⟨q, fun _ => ⟨h1, h2⟩⟩
        · exact ⟨(0, 1), fun h => absurd h hj⟩
      obtain ⟨r, hr⟩ := Classical.axiomOfChoice ch
      refine ⟨_, rfl, [CE, AT, SZ, some (.own (tbl n (i + 1) fun a => if a = i then r else t a)), some (.val (.int (i : Nat))), none, some (.val (.int cells[p]))], .inl ?_, _, _, _, rfl, ?_⟩
      · refine seq_to (ρ' := [CE, AT, SZ, some (.own (tbl n i t)), some (.val (.int (i : Nat))), none, some (.val (.int cells[p]))]) (asg_to (r := .val (.int cells[p])) ?_) ?_
        · show (mBin dix _ _) [CE, AT, SZ, some (.own (tbl n i t)), some (.val (.int (i : Nat))), none, z2] = _
          simp only [mBin, mPk, mCallP, mConsP, mNilP, List.getElem?_cons_zero, List.getElem?_cons_succ, Option.join_some, Option.bind_some, CE, AT, dLen, dAdd, Sl.dat, List.length_map]
          rw [modS (by omega)]
          simp only [Option.bind_some, ep, cell_at hp]
        · show mApp 3 _ [CE, AT, SZ, some (.own (tbl n i t)), some (.val (.int (i : Nat))), none, some (.val (.int cells[p]))] = _
          have lc : (mLC (subE [some 6, some 4, none]) (mRng1 (mConsP (mPk 2) mNilP)) (gVar 2) mYes (mCall m__law_drawn (mCons (mVar 0) (mCons (mBin dAdd (mBin dAdd (mK (.int 10)) (mBin dRep (mK (.int 6)) (mPk 1))) (mPk 2)) mNil)))) [CE, AT, SZ, some (.own (tbl n i t)), some (.val (.int (i : Nat))), none, some (.val (.int cells[p]))] = some (.own ((List.range n).map fun j => encF (r j))) := by
            refine lc_to (ds := rngD 0 n) (rng1_to rfl (by omega)) (by simp [rngD]; omega) (compM_range fun j hj => ?_)
            rw [show (0 : Int) + (j : Nat) = ((j : Nat) : Int) from Int.zero_add _]
            show elM _ _ _ [some (.val (.int cells[p])), some (.val (.int (i : Nat))), none] _ = _
            unfold elM
            simp only [gVar, mYes, mCall, mCons, mNil, mBin, mPk, mVar, mK, List.set_cons_succ, List.set_cons_zero, List.getElem?_cons_zero, List.getElem?_cons_succ, Option.join_some, Option.bind_some, Sl.dat]
            rw [mulS (cmL (by decide) (by decide))]
            simp only [Option.bind_some, dAdd, Sl.dat]
            rw [(hr j hj).1]
            rfl
          unfold mApp
          simp only [List.getElem?_cons_zero, List.getElem?_cons_succ, Option.join_some, lc, Option.bind_some, Sl.dat]
          rw [if_pos (by unfold tbl; rw [List.length_map, List.length_range]; omega)]
          show some (Out.nx [CE, AT, SZ, some (.own (tbl n i t ++ [frD n r])), _, _, _]) = _
          rw [tbl_snoc]
      · intro a ha j hj
        by_cases e : a = i
        · subst e
          show Gd ((if a = a then r else t a) j)
          rw [if_pos rfl]
          exact (hr j hj).2
        · show Gd ((if a = i then r else t a) j)
          rw [if_neg e]
          exact hg a (by omega) j hj)
  obtain ⟨p2, hp2, ep2⟩ := fmod_nat (v := v2) (n := n) (by omega)
  obtain ⟨p4, hp4, ep4⟩ := fmod_nat (v := v4) (n := n) (by omega)
  let P2 : Option Sl := some (.val (.int (p2 : Int)))
  have tst : ∀ (w1 : Int) (t : Tb), (mTest (mBin deq (mBin dMod (mCall m__law_mix (mCons (mBin dix (mPk 0) (mPk 1)) (mCons (mK (.int 3)) mNil))) (mK (.int 8))) (mK (.int w1)))) [CE, AT, SZ, some (.own (tbl n n t)), z1, P2, z2] = some (decide (v3.fmod 8 = w1)) := by
    intro w1 t
    have := mixc (x := SZ) (y := some (.own (tbl n n t))) (z := z1) (u := P2) (w := z2) hv3
    exact test_eq ((bin_eq ((bin_eq this rfl).trans (modS (by decide))) rfl).trans (deq_int _ _))
  obtain ⟨t1, h1g, h1⟩ : ∃ t1 : Tb, (∀ a, a < n → ∀ j, j < n → Gd (t1 a j)) ∧ (mIf (mTest (mBin deq (mBin dMod (mCall m__law_mix (mCons (mBin dix (mPk 0) (mPk 1)) (mCons (mK (.int 3)) mNil))) (mK (.int 8))) (mK (.int 1)))) (mSet 3 (mPk 5) (mCallP dList (mConsP (mBin dix (mPk 3) (mBin dMod (mCall m__law_mix (mCons (mBin dix (mPk 0) (mPk 1)) (mCons (mK (.int 4)) mNil))) (mPk 2))) mNilP))) mNext) [CE, AT, SZ, some (.own (tbl n n t)), z1, P2, z2] = some (.nx [CE, AT, SZ, some (.own (tbl n n t1)), z1, P2, z2]) := by
    by_cases h : v3.fmod 8 = 1
    · refine ⟨fun a => if a = p2 then t p4 else t a, ?_, if_to (b := true) (by rw [tst, decide_eq_true h]) ?_⟩
      · intro a ha j hj
        show Gd ((if a = p2 then t p4 else t a) j)
        split
        · exact hg p4 hp4 j hj
        · exact hg a ha j hj
      · have := mixc (x := SZ) (y := some (.own (tbl n n t))) (z := z1) (u := P2) (w := z2) hv4
        have ix : dix (.own (tbl n n t)) (.val (.int (p4 : Int))) = some (.val (frD n (t p4))) := by
          show (atI (tbl n n t) (p4 : Int)).map Sl.val = _
          unfold tbl
          rw [atI_range hp4]
          rfl
        have d4 := (bin_eq (op := dMod) this (fb := mPk 2) (b := .val (.int (n : Int))) rfl).trans (modS (by omega))
        rw [ep4] at d4
        have e4 := (bin_eq (op := dix) (fa := mPk 3) (a := .own (tbl n n t)) rfl d4).trans ix
        have s := set_to (i := 3) (j := p2) (k := (p2 : Int)) (fj := mPk 5) (ds := tbl n n t) (callP_to (F := dList) (consP_to e4 (g := mNilP) rfl) (r := .own ((List.range n).map fun j => encF (t p4 j))) rfl) rfl rfl (by rw [show (tbl n n t).length = n by simp [tbl]]; exact ixN_nat hp2)
        refine s.trans ?_
        show some (Out.nx [_, _, _, some (.own ((tbl n n t).set p2 (frD n (t p4)))), _, _, _]) = _
        rw [tbl_set]
    · exact ⟨t, hg, if_to (b := false) (by rw [tst, decide_eq_false h]) rfl⟩
  obtain ⟨t2, h2g, h2⟩ : ∃ t2 : Tb, (∀ a, a < n → ∀ j, j < n → Gd (t2 a j)) ∧ (mIf (mTest (mBin deq (mBin dMod (mCall m__law_mix (mCons (mBin dix (mPk 0) (mPk 1)) (mCons (mK (.int 3)) mNil))) (mK (.int 8))) (mK (.int 2)))) (mSet 3 (mPk 5) (mLC (subE [none]) (mRng1 (mConsP (mPk 2) mNilP)) (gVar 0) mYes (mTup (mCons (mK (.int 0)) (mCons (mK (.int 1)) mNil))))) mNext) [CE, AT, SZ, some (.own (tbl n n t1)), z1, P2, z2] = some (.nx [CE, AT, SZ, some (.own (tbl n n t2)), z1, P2, z2]) := by
    by_cases h : v3.fmod 8 = 2
    · refine ⟨fun a => if a = p2 then (fun _ => (0, 1)) else t1 a, ?_, if_to (b := true) (by rw [tst, decide_eq_true h]) ?_⟩
      · intro a ha j hj
        show Gd ((if a = p2 then (fun _ => (0, 1)) else t1 a) j)
        split
        · show Gd (0, 1)
          exact ⟨by decide, by decide, by decide⟩
        · exact h1g a ha j hj
      · have lc : (mLC (subE [none]) (mRng1 (mConsP (mPk 2) mNilP)) (gVar 0) mYes (mTup (mCons (mK (.int 0)) (mCons (mK (.int 1)) mNil)))) [CE, AT, SZ, some (.own (tbl n n t1)), z1, P2, z2] = some (.own ((List.range n).map fun _ => encF (0, 1))) := by
          refine lc_to (ds := rngD 0 n) (rng1_to rfl (by omega)) (by simp [rngD]; omega) (compM_range fun j hj => ?_)
          show elM _ _ _ [none] _ = _
          unfold elM
          walk_at "ev"
          rw [if_pos (by show 2 ≤ sizeLine; decide)]
          rfl
        refine (set_to (i := 3) (j := p2) (k := (p2 : Int)) (fj := mPk 5) (ds := tbl n n t1) lc rfl rfl (by rw [show (tbl n n t1).length = n by simp [tbl]]; exact ixN_nat hp2)).trans ?_
        show some (Out.nx [_, _, _, some (.own ((tbl n n t1).set p2 (frD n fun _ => (0, 1)))), _, _, _]) = _
        rw [tbl_set]
    · exact ⟨t1, h1g, if_to (b := false) (by rw [tst, decide_eq_false h]) rfl⟩
  refine ⟨n, t2, n1, n4, h2g, ?_⟩
  refine runD_rt (ρ := [CE, AT, none, none, none, none, none]) rfl rfl ?_
  unfold b__law_table
  refine rts_seq (asg_to hsz) (rts_seq (asg_to (r := .own []) ?_) (rts_seq (for_to (rng1_to (j := n) rfl (by omega)) hf) (rts_seq (asg_to (r := .val (.int (p2 : Int))) ?_) (rts_seq h1 (rts_seq h2 (rts_ret rfl))))))
  · walk_at "ev"
    rw [if_pos (Nat.zero_le _)]
  · have := mixc (x := SZ) (y := some (.own (tbl n n t))) (z := z1) (u := none) (w := z2) hv2
    have d2 := (bin_eq (op := dMod) this (fb := mPk 2) (b := .val (.int (n : Int))) rfl).trans (modS (by omega))
    rw [ep2] at d2
    exact d2
def ordD (o : List Nat) : PyData := .list (o.map fun x => .int (x : Nat))
def ins (k : Nat) (o : List Nat) (a : Nat) : List Nat := o.take a ++ [k] ++ o.drop a
def ordL : Nat → List (List Nat)
  | 0 => [[]]
  | k + 1 => (ordL k).flatMap fun o => (List.range (o.length + 1)).map fun a => ins k o a
theorem ord_len {k : Nat} : ∀ o ∈ ordL k, o.length = k := by
  induction k with
  | zero => intro o h; simp [ordL] at h; subst h; rfl
  | succ k ih =>
    intro o h
    simp only [ordL, List.mem_flatMap, List.mem_map, List.mem_range] at h
    obtain ⟨p, hp, a, ha, rfl⟩ := h
    have := ih p hp
    simp only [ins, List.length_append, List.length_take, List.length_drop, List.length_cons, List.length_nil]
    omega
theorem ord_cnt {k : Nat} (h : k ≤ 4) : (ordL k).length ≤ 24 := by
  match k, h with
  | 0, _ => decide
  | 1, _ => decide
  | 2, _ => decide
  | 3, _ => decide
  | 4, _ => decide
theorem cut_map {o : List Nat} {a : Nat} (h : a ≤ o.length) : cutD (o.map fun x => PyData.int (x : Nat)) none (some (a : Int)) = (o.take a).map fun x => PyData.int (x : Nat) := by
  unfold cutD
  rw [HT.sIx_none, HT.sIx_nat, List.length_map, Nat.min_eq_left h, List.drop_zero, Nat.sub_zero, List.map_take]
theorem cut_map2 {o : List Nat} {a : Nat} (h : a ≤ o.length) : cutD (o.map fun x => PyData.int (x : Nat)) (some (a : Int)) none = (o.drop a).map fun x => PyData.int (x : Nat) := by
  unfold cutD
  rw [HT.sIx_none, HT.sIx_nat, List.length_map, Nat.min_eq_left h, List.map_drop]
  exact List.take_of_length_le (by rw [List.length_drop, List.length_map]; exact Nat.le_refl _)
theorem run_orders {n : Nat} (hn : n ≤ 4) : m__law_orders [.int n] = some (.own ((ordL n).map ordD)) ∨ m__law_orders [.int n] = some (.val (.list ((ordL n).map ordD))) := by
  have sl : 1000 < sizeLine := by decide
  obtain ⟨ρ', hf, s1, z2, z3, z4, z5, rfl, hs⟩ := forM_range (fg := gVar 2) (gb := (mSeq (mAsg 3 (mLst mNil))
    (mSeq (mFrz 1 (mFor (mItems (mVar 1)) (gVar 4) (mFor (mRng1 (mConsP (mBin dAdd (mCallP dLen (mConsP (mPk 4) mNilP)) (mK (.int 1))) mNilP)) (gVar 5) (mApp 3 (mBin dAdd (mBin dAdd (mSl (mPk 4) mNoPart (mPart (mPk 5))) (mLst (mCons (mVar 2) mNil))) (mSl (mPk 4) (mPart (mPk 5)) mNoPart))))))
    (mFrz 3 (mAsg 1 (mVar 3)))))) (lo := 0) (n := n)
    (ρ := [some (.val (.int (n : Nat))), some (.own ((ordL 0).map ordD)), none, none, none, none])
    (fun k ρ => ∃ s1 z2 z3 z4 z5, ρ = [some (.val (.int (n : Nat))), some s1, z2, z3, z4, z5] ∧ (s1 = .own ((ordL k).map ordD) ∨ s1 = .val (.list ((ordL k).map ordD)))) ⟨_, _, _, _, _, rfl, .inl rfl⟩ (by
      rintro k ρ hk ⟨s1, z2, z3, z4, z5, rfl, hs⟩
      rw [show (0 : Int) + (k : Nat) = ((k : Nat) : Int) from Int.zero_add _]
      let N : Option Sl := some (.val (.int (n : Nat)))
      let O : Option Sl := some (.val (.list ((ordL k).map ordD)))
      let KK : Option Sl := some (.val (.int (k : Nat)))
      obtain ⟨ρ2, hm, y4, y5, rfl⟩ := forM_list (fg := gVar 4) (gb := (mFor (mRng1 (mConsP (mBin dAdd (mCallP dLen (mConsP (mPk 4) mNilP)) (mK (.int 1))) mNilP)) (gVar 5) (mApp 3 (mBin dAdd (mBin dAdd (mSl (mPk 4) mNoPart (mPart (mPk 5))) (mLst (mCons (mVar 2) mNil))) (mSl (mPk 4) (mPart (mPk 5)) mNoPart)))))
        (ds := (ordL k).map ordD) (ρ := [N, O, KK, some (.own []), z4, z5])
        (fun i ρ => ∃ y4 y5, ρ = [N, O, KK, some (.own ((((ordL k).take i).flatMap fun o => (List.range (o.length + 1)).map fun a => ins k o a).map ordD)), y4, y5]) ⟨_, _, rfl⟩ (by
          rintro i d ρ hd ⟨y4, y5, rfl⟩
          rw [List.getElem?_map] at hd
          cases ho : (ordL k)[i]? with
          | none => rw [ho] at hd; cases hd
          | some o =>
            rw [ho] at hd
            cases hd
            have hi : i < (ordL k).length := (List.getElem?_eq_some_iff.mp ho).1
            have hol := ord_len o (List.mem_of_getElem? ho)
            have c1 := ord_cnt (k := k) (by omega)
            have c2 := ord_cnt (k := k + 1) (by omega)
            have tk : (ordL k).take (i + 1) = (ordL k).take i ++ [o] := by
              rw [List.take_add_one, ho]; rfl
            have part : ∀ j, j ≤ i + 1 → ((((ordL k).take j).flatMap fun o => (List.range (o.length + 1)).map fun a => ins k o a).length ≤ 24) := by
              intro j _
              refine Nat.le_trans ?_ c2
              conv => rhs; rw [ordL, ← List.take_append_drop j (ordL k)]
              rw [List.flatMap_append, List.length_append]
              exact Nat.le_add_right _ _
            refine ⟨[N, O, KK, some (.own ((((ordL k).take i).flatMap fun o => (List.range (o.length + 1)).map fun a => ins k o a).map ordD)), some (.val (ordD o)), y5], rfl, ?_⟩
            obtain ⟨ρ3, hm3, w5, rfl⟩ := forM_range (fg := gVar 5) (gb := (mApp 3 (mBin dAdd (mBin dAdd (mSl (mPk 4) mNoPart (mPart (mPk 5))) (mLst (mCons (mVar 2) mNil))) (mSl (mPk 4) (mPart (mPk 5)) mNoPart)))) (lo := 0) (n := o.length + 1)
              (ρ := [N, O, KK, some (.own ((((ordL k).take i).flatMap fun o => (List.range (o.length + 1)).map fun a => ins k o a).map ordD)), some (.val (ordD o)), y5])
              (fun a ρ => ∃ w5, ρ = [N, O, KK, some (.own (((((ordL k).take i).flatMap fun o => (List.range (o.length + 1)).map fun a => ins k o a) ++ (List.range a).map fun a => ins k o a).map ordD)), some (.val (ordD o)), w5]) ⟨y5, by simp⟩ (by
                rintro a ρ ha ⟨w5, rfl⟩
                rw [show (0 : Int) + (a : Nat) = ((a : Nat) : Int) from Int.zero_add _]
                refine ⟨_, rfl, [N, O, KK, some (.own (((((ordL k).take i).flatMap fun o => (List.range (o.length + 1)).map fun a => ins k o a) ++ (List.range (a + 1)).map fun a => ins k o a).map ordD)), some (.val (ordD o)), some (.val (.int (a : Nat)))], .inl ?_, _, rfl⟩
                have el : (mBin dAdd (mBin dAdd (mSl (mPk 4) mNoPart (mPart (mPk 5))) (mLst (mCons (mVar 2) mNil))) (mSl (mPk 4) (mPart (mPk 5)) mNoPart)) [N, O, KK, some (.own (((((ordL k).take i).flatMap fun o => (List.range (o.length + 1)).map fun a => ins k o a) ++ (List.range a).map fun a => ins k o a).map ordD)), some (.val (ordD o)), some (.val (.int (a : Nat)))] = some (.own ((ins k o a).map fun x => .int (x : Nat))) := by
                  have x1 : (mSl (mPk 4) mNoPart (mPart (mPk 5))) [N, O, KK, some (.own (((((ordL k).take i).flatMap fun o => (List.range (o.length + 1)).map fun a => ins k o a) ++ (List.range a).map fun a => ins k o a).map ordD)), some (.val (ordD o)), some (.val (.int (a : Nat)))] = some (.own ((o.take a).map fun x => .int (x : Nat))) := by
                    rw [← cut_map (by omega)]; rfl
                  have x2 : (mSl (mPk 4) (mPart (mPk 5)) mNoPart) [N, O, KK, some (.own (((((ordL k).take i).flatMap fun o => (List.range (o.length + 1)).map fun a => ins k o a) ++ (List.range a).map fun a => ins k o a).map ordD)), some (.val (ordD o)), some (.val (.int (a : Nat)))] = some (.own ((o.drop a).map fun x => .int (x : Nat))) := by
                    rw [← cut_map2 (by omega)]; rfl
                  have x3 : (mLst (mCons (mVar 2) mNil)) [N, O, KK, some (.own (((((ordL k).take i).flatMap fun o => (List.range (o.length + 1)).map fun a => ins k o a) ++ (List.range a).map fun a => ins k o a).map ordD)), some (.val (ordD o)), some (.val (.int (a : Nat)))] = some (.own [.int (k : Nat)]) := by
                    simp only [mLst, mCons, mNil, mVar, List.getElem?_cons_zero, List.getElem?_cons_succ, Option.join_some, Option.bind_some, KK, Sl.dat]
                    exact if_pos (show 1 ≤ sizeLine by decide)
                  have cat : ∀ xs ys : List PyData, xs.length + ys.length ≤ 1000 → dAdd (.own xs) (.own ys) = some (.own (xs ++ ys)) := fun xs ys h => if_pos (Nat.le_trans h (Nat.le_of_lt sl))
                  have y1 := (bin_eq (op := dAdd) x1 x3).trans (cat _ _ (by simp; omega))
                  refine ((bin_eq (op := dAdd) y1 x2).trans (cat _ _ (by simp; omega))).trans ?_
                  simp [ins]
                refine (app_to el rfl ?_).trans ?_
                · rw [List.length_map, List.length_append, List.length_map, List.length_range]
                  have := part i (by omega)
                  omega
                · show some (Out.nx [_, _, _, some (.own (_ ++ [ordD (ins k o a)])), _, _]) = _
                  rw [List.range_succ, List.map_append, List.map_append, List.map_append, List.map_append, List.append_assoc]
                  rfl)
            refine ⟨[N, O, KK, some (.own ((((ordL k).take (i + 1)).flatMap fun o => (List.range (o.length + 1)).map fun a => ins k o a).map ordD)), some (.val (ordD o)), w5], .inl ?_, _, _, rfl⟩
            refine for_to (rng1_to (j := o.length + 1) ?_ (by omega)) (hm3.trans ?_)
            · show (mConsP _ _) [N, O, KK, _, some (.val (ordD o)), y5] = _
              simp only [mConsP, mNilP, mBin, mCallP, mPk, mK, List.getElem?_cons_zero, List.getElem?_cons_succ, Option.join_some, Option.bind_some, dLen, Sl.dat, ordD, List.length_map, dAdd]
              rfl
            · rw [tk, List.flatMap_append]
              simp)
      rw [List.length_map, List.take_length] at hm
      refine ⟨[N, some s1, KK, z3, z4, z5], rfl, [N, some (.val (.list ((ordL (k + 1)).map ordD))), KK, some (.val (.list ((ordL (k + 1)).map ordD))), y4, y5], .inl ?_, _, _, _, _, _, rfl, .inr rfl⟩
      refine seq_to (ρ' := [N, some s1, KK, some (.own []), z4, z5]) (asg_to ?_) (seq_to (ρ' := [N, O, KK, some (.own ((ordL (k + 1)).map ordD)), y4, y5]) ?_ rfl)
      · simp only [mLst, mNil, Option.bind_some]
        exact if_pos (Nat.zero_le _)
      · have fz : frz1 1 [N, some s1, KK, some (.own []), z4, z5] = [N, O, KK, some (.own []), z4, z5] := by
          rcases hs with rfl | rfl <;> rfl
        show mFor _ _ _ (frz1 1 [N, some s1, KK, some (.own []), z4, z5]) = _
        rw [fz]
        exact for_to rfl hm)
  have fin : ∀ r, s1 = r → m__law_orders [.int n] = some r := by
    intro r hr
    refine runD_rt (ρ := [some (.val (.int (n : Nat))), none, none, none, none, none]) rfl rfl ?_
    unfold b__law_orders
    refine rts_seq (ρ' := [some (.val (.int (n : Nat))), some (.own ((ordL 0).map ordD)), none, none, none, none]) (asg_to ?_) (rts_seq (for_to (rng1_to (j := n) rfl (by omega)) hf) (rts_ret (by rw [← hr]; rfl)))
    simp only [mLst, mCons, mNil, Option.bind_some, if_pos (Nat.zero_le _), List.length_nil]
    exact if_pos (show 1 ≤ sizeLine by decide)
  rcases hs with h | h
  · exact .inl (fin _ h)
  · exact .inr (fin _ h)
def oddI (o : List Nat) (i : Nat) (b : Bool) (k : Nat) : Bool := (List.range k).foldl (fun b j => if o.getD i 0 < o.getD j 0 then !b else b) b
def oddU (o : List Nat) (k : Nat) : Bool := (List.range k).foldl (fun b i => oddI o i b i) false
def oddL (o : List Nat) : Bool := oddU o o.length
theorem dix_ord {o : List Nat} {i : Nat} (h : i < o.length) : dix (.val (ordD o)) (.val (.int (i : Int))) = some (.val (.int ((o.getD i 0 : Nat) : Int))) := by
  show (atI (o.map fun x => PyData.int (x : Nat)) (i : Int)).map Sl.val = _
  rw [atI_nat (v := PyData.int ((o.getD i 0 : Nat) : Int)) (by rw [List.getElem?_map, List.getElem?_eq_getElem h, List.getD_eq_getElem?_getD, List.getElem?_eq_getElem h]; rfl)]
  rfl
theorem dGt_int (i j : Int) : dGt (.val (.int i)) (.val (.int j)) = some (.val (.bool (decide (j < i)))) := rfl
theorem run_odd {o : List Nat} (h : o.length ≤ 100) : m__law_odd [ordD o] = some (.val (.bool (oddL o))) := by
  let O : Option Sl := some (.val (ordD o))
  obtain ⟨ρ', hf, z2, z3, rfl⟩ := forM_range (fg := gVar 2) (gb := (mFor (mRng1 (mConsP (mPk 2) mNilP)) (gVar 3) (mIf (mTest (mBin dGt (mBin dix (mPk 0) (mPk 3)) (mBin dix (mPk 0) (mPk 2)))) (mAsg 1 (mNotV (mVar 1))) mNext))) (lo := 0) (n := o.length)
    (ρ := [O, some (.val (.bool false)), none, none]) (fun i ρ => ∃ z2 z3, ρ = [O, some (.val (.bool (oddU o i))), z2, z3]) ⟨_, _, rfl⟩ (by
      rintro i ρ hi ⟨z2, z3, rfl⟩
      rw [show (0 : Int) + (i : Nat) = ((i : Nat) : Int) from Int.zero_add _]
      obtain ⟨ρ2, hf2, y3, rfl⟩ := forM_range (fg := gVar 3) (gb := (mIf (mTest (mBin dGt (mBin dix (mPk 0) (mPk 3)) (mBin dix (mPk 0) (mPk 2)))) (mAsg 1 (mNotV (mVar 1))) mNext)) (lo := 0) (n := i)
        (ρ := [O, some (.val (.bool (oddU o i))), some (.val (.int (i : Nat))), z3]) (fun k ρ => ∃ y3, ρ = [O, some (.val (.bool (oddI o i (oddU o i) k))), some (.val (.int (i : Nat))), y3]) ⟨_, rfl⟩ (by
          rintro k ρ hk ⟨y3, rfl⟩
          rw [show (0 : Int) + (k : Nat) = ((k : Nat) : Int) from Int.zero_add _]
          refine ⟨_, rfl, [O, some (.val (.bool (oddI o i (oddU o i) (k + 1)))), some (.val (.int (i : Nat))), some (.val (.int (k : Nat)))], .inl ?_, _, rfl⟩
          have st : oddI o i (oddU o i) (k + 1) = if o.getD i 0 < o.getD k 0 then !(oddI o i (oddU o i) k) else oddI o i (oddU o i) k := by
            unfold oddI
            rw [List.range_succ, List.foldl_append]
            rfl
          have a1 := (bin_eq (op := dix) (ρ := [O, some (.val (.bool (oddI o i (oddU o i) k))), some (.val (.int (i : Nat))), some (.val (.int (k : Nat)))]) (fa := mPk 0) (fb := mPk 3) (a := .val (ordD o)) rfl rfl).trans (dix_ord (show k < o.length by omega))
          have a2 := (bin_eq (op := dix) (ρ := [O, some (.val (.bool (oddI o i (oddU o i) k))), some (.val (.int (i : Nat))), some (.val (.int (k : Nat)))]) (fa := mPk 0) (fb := mPk 2) (a := .val (ordD o)) rfl rfl).trans (dix_ord hi)
          have tst := test_eq ((bin_eq (op := dGt) a1 a2).trans (dGt_int _ _))
          rw [st]
          by_cases hlt : o.getD i 0 < o.getD k 0
          · refine if_to tst ?_
            rw [decide_eq_true (by omega), if_pos rfl, if_pos hlt]
            rfl
          · refine if_to tst ?_
            rw [decide_eq_false (by omega), if_neg (by simp), if_neg hlt]
            rfl)
      refine ⟨_, rfl, [O, some (.val (.bool (oddU o (i + 1)))), some (.val (.int (i : Nat))), y3], .inl (for_to (rng1_to (j := i) rfl (by omega)) (hf2.trans ?_)), _, _, rfl⟩
      have : oddU o (i + 1) = oddI o i (oddU o i) i := by
        unfold oddU
        rw [List.range_succ, List.foldl_append]
        rfl
      rw [this])
  refine runD_rt (ρ := [O, none, none, none]) rfl rfl ?_
  unfold b__law_odd
  refine rts_seq (asg_to (r := .val (.bool false)) rfl) (rts_seq (for_to (rng1_to (j := o.length) ?_ (by omega)) hf) (rts_ret rfl))
  show (mConsP (mCallP dLen (mConsP (mPk 0) mNilP)) mNilP) [O, some (.val (.bool false)), none, none] = _
  simp only [mConsP, mNilP, mCallP, mPk, List.getElem?_cons_zero, Option.join_some, Option.bind_some, dLen, Sl.dat, ordD, List.length_map, O]
theorem ord_lt {k : Nat} : ∀ o ∈ ordL k, ∀ x ∈ o, x < k := by
  induction k with
  | zero => intro o h; simp [ordL] at h; subst h; intro x hx; simp at hx
  | succ k ih =>
    intro o h x hx
    simp only [ordL, List.mem_flatMap, List.mem_map, List.mem_range] at h
    obtain ⟨p, hp, a, ha, rfl⟩ := h
    simp only [ins, List.mem_append, List.mem_singleton] at hx
    rcases hx with (hx | hx) | hx
    · have := ih p hp x (List.mem_of_mem_take hx); omega
    · omega
    · have := ih p hp x (List.mem_of_mem_drop hx); omega
theorem ord_get {k i : Nat} {o : List Nat} (h : o ∈ ordL k) (hi : i < k) : o.getD i 0 < k := by
  have hl := ord_len o h
  refine ord_lt o h _ ?_
  rw [List.getD_eq_getElem?_getD, List.getElem?_eq_getElem (show i < o.length by omega)]
  exact List.getElem_mem _
theorem prod_mul {n : Nat} {f g : Nat → Int} : prodN n (fun i => f i * g i) = prodN n f * prodN n g := by
  induction n with
  | zero => rfl
  | succ n ih =>
    rw [prodN, prodN, prodN, ih]
    ac_rfl
theorem prod_congr {n : Nat} {f g : Nat → Int} (h : ∀ i, i < n → f i = g i) : prodN n f = prodN n g := by
  induction n with
  | zero => rfl
  | succ n ih => rw [prodN, prodN, ih fun i hi => h i (by omega), h n (by omega)]
def sgB (b : Bool) : Int := if b then -1 else 1
def trm (n : Nat) (t : Tb) (o : List Nat) : Int := sgB (oddL o) * prodN n (fun i => W n t i (o.getD i 0))
def leib (n : Nat) (t : Tb) : Int := ((ordL n).map (trm n t)).sum
theorem frac_one {a b c d P S : Int} (hP : 0 < P) (hb : 0 < b) (hd : 0 < d) (g1 : Int.gcd a b = 1) (g2 : Int.gcd c d = 1) (h1 : a * P = S * b) (h2 : c * P = S * d) : (a, b) = (c, d) := by
  have e : a * d = c * b := by
    have : P * (a * d) = P * (c * b) := by
      calc P * (a * d) = (a * P) * d := by ac_rfl
        _ = S * b * d := by rw [h1]
        _ = (S * d) * b := by ac_rfl
        _ = (c * P) * b := by rw [h2]
        _ = P * (c * b) := by ac_rfl
    exact Int.eq_of_mul_eq_mul_left (by omega) this
  have d1 : b ∣ d := by
    have : b ∣ a * d := ⟨c, by rw [e]; ac_rfl⟩
    refine Int.natAbs_dvd_natAbs.mp (Nat.Coprime.dvd_of_dvd_mul_left (m := a.natAbs) (by rw [Nat.coprime_comm]; exact g1) ?_)
    rw [← Int.natAbs_mul]
    exact Int.natAbs_dvd_natAbs.mpr this
  have d2 : d ∣ b := by
    have : d ∣ c * b := ⟨a, by rw [← e]; ac_rfl⟩
    refine Int.natAbs_dvd_natAbs.mp (Nat.Coprime.dvd_of_dvd_mul_left (m := c.natAbs) (by rw [Nat.coprime_comm]; exact g2) ?_)
    rw [← Int.natAbs_mul]
    exact Int.natAbs_dvd_natAbs.mpr this
  have ebd : b = d := Int.dvd_antisymm (by omega) (by omega) d1 d2
  subst ebd
  have : a = c := Int.eq_of_mul_eq_mul_right (by omega) e
  rw [this]
theorem run_due {n : Nat} {t : Tb} (n1 : 1 ≤ n) (n4 : n ≤ 4) (hg : ∀ i, i < n → ∀ j, j < n → Gd (t i j)) : ∃ q : Int × Int, m__law_due [tabD n n t] = some (.val (encF q)) ∧ 0 < q.2 ∧ Int.gcd q.1 q.2 = 1 ∧ q.1 * prodN n (fun i => cbN (t i) n) = leib n t * q.2 := by
  let TT : Option Sl := some (.val (tabD n n t))
  have cb := fun i (hi : i < n) => cb_all (r := t i) (D := 6) (m := n) fun j hj => ⟨(hg i hi j hj).pos, (hg i hi j hj).bot⟩
  have hPp : 0 < prodN n (fun i => cbN (t i) n) := prod_pos fun i hi => (cb i hi).1
  have Wt : ∀ i, i < n → ∀ j, j < n → W n t i j * (t i j).2 = (t i j).1 * cbN (t i) n := by
    intro i hi j hj
    show (t i j).1 * (cbN (t i) n).fdiv (t i j).2 * (t i j).2 = _
    rw [Int.mul_assoc, Int.fdiv_mul_cancel ((cb i hi).2.2 j hj)]
  obtain ⟨os, hos, hod⟩ : ∃ os, (mItems (mCall m__law_orders (mCons (mCallP dLen (mConsP (mPk 0) mNilP)) mNil))) [TT, some (.val (.int 0)), some (.val (.int 1)), none, none, none, none] = some os ∧ os = (ordL n).map ordD := by
    have ln : (mCons (mCallP dLen (mConsP (mPk 0) mNilP)) mNil) [TT, some (.val (.int 0)), some (.val (.int 1)), none, none, none, none] = some [.int (n : Nat)] := by
      simp only [mCons, mNil, mCallP, mConsP, mNilP, mPk, List.getElem?_cons_zero, Option.join_some, Option.bind_some, dLen, Sl.dat, tabD, List.length_map, List.length_range, TT]
    rcases run_orders n4 with h | h
    · exact ⟨_, by unfold mItems; rw [call_to ln h]; rfl, rfl⟩
    · exact ⟨_, by unfold mItems; rw [call_to ln h]; rfl, rfl⟩
  subst hod
  have c24 := ord_cnt n4
  obtain ⟨ρ', hf, top, bot, z3, z4, z5, z6, rfl, b0, bb, bt, bg, be⟩ := forM_list (fg := gVar 3) (gb := (mSeq (mAsg 4 (mBin dSub (mK (.int 1)) (mBin dRep (mK (.int 2)) (mCallP dInt (mConsP (mCall m__law_odd (mCons (mVar 3) mNil)) mNilP)))))
    (mSeq (mAsg 5 (mK (.int 1)))
    (mSeq (mFor (mRng1 (mConsP (mCallP dLen (mConsP (mPk 0) mNilP)) mNilP)) (gVar 6) (mSeq (mAsg 4 (mBin dRep (mPk 4) (mBin dix (mBin dix (mBin dix (mPk 0) (mPk 6)) (mBin dix (mPk 3) (mPk 6))) (mK (.int 0)))))
    (mAsg 5 (mBin dRep (mPk 5) (mBin dix (mBin dix (mBin dix (mPk 0) (mPk 6)) (mBin dix (mPk 3) (mPk 6))) (mK (.int 1)))))))
    (mAsgT (gTupD [(gVar 1), (gVar 2)]) (mCall m__law_fraction (mCons (mBin dAdd (mBin dRep (mPk 1) (mPk 5)) (mBin dRep (mPk 4) (mPk 2))) (mCons (mBin dRep (mPk 2) (mPk 5)) mNil))))))))
    (ds := (ordL n).map ordD) (ρ := [TT, some (.val (.int 0)), some (.val (.int 1)), none, none, none, none])
    (fun i ρ => ∃ top bot z3 z4 z5 z6, ρ = [TT, some (.val (.int top)), some (.val (.int bot)), z3, z4, z5, z6] ∧ 0 < bot ∧ bot.natAbs ≤ 1296 ^ i ∧ Bt (1000 * i + 1) top ∧ Int.gcd top bot = 1 ∧ top * prodN n (fun i => cbN (t i) n) = (((ordL n).take i).map (trm n t)).sum * bot)
    ⟨0, 1, _, _, _, _, rfl, by decide, by decide, Bt.zero _, by decide, by simp⟩ (by
      rintro i d ρ hd ⟨top, bot, z3, z4, z5, z6, rfl, b0, bb, bt, bg, be⟩
      rw [List.getElem?_map] at hd
      cases ho : (ordL n)[i]? with
      | none => rw [ho] at hd; cases hd
      | some o =>
        rw [ho] at hd
        cases hd
        have hi : i < (ordL n).length := (List.getElem?_eq_some_iff.mp ho).1
        have hom := List.mem_of_getElem? ho
        have hol := ord_len o hom
        let sg0 := sgB (oddL o)
        let T0 : Option Sl := some (.val (.int top))
        let B0 : Option Sl := some (.val (.int bot))
        let O : Option Sl := some (.val (ordD o))
        let up : Nat → Int := fun k => sg0 * prodN k (fun i => (t i (o.getD i 0)).1)
        let lo : Nat → Int := fun k => prodN k (fun i => (t i (o.getD i 0)).2)
        have gdi : ∀ k, k < n → Gd (t k (o.getD k 0)) := fun k hk => hg k hk _ (ord_get hom hk)
        have sgA : sg0.natAbs = 1 := by show (sgB (oddL o)).natAbs = 1; unfold sgB; split <;> rfl
        have upA : ∀ k, k ≤ n → (up k).natAbs ≤ (10 ^ 40) ^ 4 := by
          intro k hk
          show (sg0 * _).natAbs ≤ _
          rw [Int.natAbs_mul, sgA, Nat.one_mul]
          exact Nat.le_trans (prod_abs (X := 10 ^ 40) fun i hi => (gdi i (by omega)).top) (Nat.pow_le_pow_right (by decide) (by omega))
        have loA : ∀ k, k ≤ n → (lo k).natAbs ≤ 1296 := by
          intro k hk
          exact Nat.le_trans (prod_abs (X := 6) fun i hi => (gdi i (by omega)).bot) (Nat.le_trans (Nat.pow_le_pow_right (by decide) (show k ≤ 4 by omega)) (by decide))
        have loP : ∀ k, k ≤ n → 0 < lo k := fun k hk => prod_pos fun i hi => (gdi i (by omega)).pos
        have upB : ∀ k, k ≤ n → Bt 600 (up k) := fun k hk => Nat.lt_of_le_of_lt (upA k hk) (by decide)
        have loB : ∀ k, k ≤ n → Bt 11 (lo k) := fun k hk => Nat.lt_of_le_of_lt (loA k hk) (by decide)
        refine ⟨[TT, T0, B0, O, z4, z5, z6], rfl, ?_⟩
        obtain ⟨ρ3, hf3, w6, rfl⟩ := forM_range (fg := gVar 6) (gb := (mSeq (mAsg 4 (mBin dRep (mPk 4) (mBin dix (mBin dix (mBin dix (mPk 0) (mPk 6)) (mBin dix (mPk 3) (mPk 6))) (mK (.int 0)))))
          (mAsg 5 (mBin dRep (mPk 5) (mBin dix (mBin dix (mBin dix (mPk 0) (mPk 6)) (mBin dix (mPk 3) (mPk 6))) (mK (.int 1))))))) (lo := 0) (n := n)
          (ρ := [TT, T0, B0, O, some (.val (.int (up 0))), some (.val (.int (lo 0))), z6]) (fun k ρ => ∃ w6, ρ = [TT, T0, B0, O, some (.val (.int (up k))), some (.val (.int (lo k))), w6]) ⟨_, rfl⟩ (by
            rintro k ρ hk ⟨w6, rfl⟩
            rw [show (0 : Int) + (k : Nat) = ((k : Nat) : Int) from Int.zero_add _]
            refine ⟨_, rfl, [TT, T0, B0, O, some (.val (.int (up (k + 1)))), some (.val (.int (lo (k + 1)))), some (.val (.int (k : Nat)))], .inl ?_, _, rfl⟩
            have dt : dix (.val (tabD n n t)) (.val (.int (k : Int))) = some (.val (frD n (t k))) := by
              show (atI ((List.range n).map fun i => frD n (t i)) (k : Int)).map Sl.val = _
              rw [atI_range hk]
              rfl
            have cell : ∀ u l, (mBin dix (mBin dix (mPk 0) (mPk 6)) (mBin dix (mPk 3) (mPk 6))) [TT, T0, B0, O, some (.val (.int u)), some (.val (.int l)), some (.val (.int (k : Nat)))] = some (.val (encF (t k (o.getD k 0)))) := by
              intro u l
              exact (bin_eq (op := dix) ((bin_eq (op := dix) (fa := mPk 0) (fb := mPk 6) (a := .val (tabD n n t)) (b := .val (.int (k : Nat))) rfl rfl).trans dt) ((bin_eq (op := dix) (fa := mPk 3) (fb := mPk 6) (a := .val (ordD o)) (b := .val (.int (k : Nat))) rfl rfl).trans (dix_ord (by omega)))).trans (dix_fr (ord_get hom hk))
            have tB : Bt 600 (t k (o.getD k 0)).1 := Nat.lt_of_le_of_lt (gdi k hk).top (by decide)
            have bB : Bt 600 (t k (o.getD k 0)).2 := Nat.lt_of_le_of_lt (gdi k hk).bot (by decide)
            refine seq_to (ρ' := [TT, T0, B0, O, some (.val (.int (up (k + 1)))), some (.val (.int (lo k))), some (.val (.int (k : Nat)))]) ?_ ?_
            · refine (asg_to ((bin_eq (fa := mPk 4) (a := .val (.int (up k))) rfl ((bin_eq (cell _ _) (fb := mK (.int 0)) rfl).trans (dix_f0 _))).trans (mulS (.inr (cmulC (upB k (by omega)) tB rfl))))).trans ?_
              show some (Out.nx [_, _, _, _, some (.val (.int (sg0 * prodN k _ * _))), _, _]) = some (Out.nx [_, _, _, _, some (.val (.int (sg0 * (prodN k _ * _)))), _, _])
              rw [Int.mul_assoc]
            · exact asg_to ((bin_eq (fa := mPk 5) (a := .val (.int (lo k))) rfl ((bin_eq (cell _ _) (fb := mK (.int 1)) rfl).trans (dix_f1 _))).trans (mulS (.inr (cmulC (loB k (by omega)) bB rfl)))))
        -- the sum
        have bL : 0 < bot * lo n := Int.mul_pos b0 (loP n (Nat.le_refl _))
        have b25 : bot.natAbs ≤ 1296 ^ 24 := Nat.le_trans bb (Nat.pow_le_pow_right (by decide) (by omega))
        have botB : Bt 600 bot := Nat.lt_of_le_of_lt b25 (by decide)
        have blB : Bt 9000 (bot * lo n) := (botB.mul (loB n (Nat.le_refl _))).mono (by decide)
        have topB : Bt 25001 top := bt.mono (by omega)
        let q := fr (top * lo n + up n * bot) (bot * lo n)
        have hfr := run_lfrac (a := top * lo n + up n * bot) bL blB
        refine ⟨[TT, some (.val (.int q.1)), some (.val (.int q.2)), O, some (.val (.int (up n))), some (.val (.int (lo n))), w6], .inl ?_, q.1, q.2, _, _, _, _, rfl, fr_pos (by omega), ?_, ?_, fr_gcd (by omega), ?_⟩
        · refine seq_to (ρ' := [TT, T0, B0, O, some (.val (.int (up 0))), z5, z6]) ?_ (seq_to (ρ' := [TT, T0, B0, O, some (.val (.int (up 0))), some (.val (.int (lo 0))), z6]) (asg_to rfl) (seq_to (for_to (rng1_to (j := n) ?_ (by omega)) hf3) ?_))
          · have od := call_to (F := m__law_odd) (f := mCons (mVar 3) mNil) (ρ := [TT, T0, B0, O, z4, z5, z6]) (ds := [ordD o]) rfl (run_odd (by omega))
            have iv := callP_to (F := dInt) (consP_to od (g := mNilP) rfl) (r := .val (.int (if oddL o then 1 else 0))) rfl
            refine (asg_to ((bin_eq (op := dSub) (fa := mK (.int 1)) (a := .val (.int 1)) rfl ((bin_eq (fa := mK (.int 2)) (a := .val (.int 2)) rfl iv).trans (mulS (cmL (by decide) (by decide))))).trans rfl)).trans ?_
            show some (Out.nx [_, _, _, _, some (.val (.int (1 - 2 * (if oddL o then 1 else 0)))), _, _]) = some (Out.nx [_, _, _, _, some (.val (.int (sgB (oddL o) * 1))), _, _])
            have : (1 - 2 * (if oddL o then (1 : Int) else 0)) = sgB (oddL o) * 1 := by
              unfold sgB
              cases oddL o <;> rfl
            rw [this]
          · show (mConsP (mCallP dLen (mConsP (mPk 0) mNilP)) mNilP) [TT, T0, B0, O, some (.val (.int (up 0))), some (.val (.int (lo 0))), z6] = _
            simp only [mConsP, mNilP, mCallP, mPk, List.getElem?_cons_zero, Option.join_some, Option.bind_some, dLen, Sl.dat, tabD, List.length_map, List.length_range, TT]
          · have c1 := (bin_eq (ρ := [TT, T0, B0, O, some (.val (.int (up n))), some (.val (.int (lo n))), w6]) (fa := mPk 1) (fb := mPk 5) (a := .val (.int top)) (b := .val (.int (lo n))) rfl rfl).trans (mulS (.inr (cmulC topB (loB n (Nat.le_refl _)) rfl)))
            have c2 := (bin_eq (ρ := [TT, T0, B0, O, some (.val (.int (up n))), some (.val (.int (lo n))), w6]) (fa := mPk 4) (fb := mPk 2) (a := .val (.int (up n))) (b := .val (.int bot)) rfl rfl).trans (mulS (.inr (cmulC (upB n (Nat.le_refl _)) botB rfl)))
            have c3 := (bin_eq (ρ := [TT, T0, B0, O, some (.val (.int (up n))), some (.val (.int (lo n))), w6]) (fa := mPk 2) (fb := mPk 5) (a := .val (.int bot)) (b := .val (.int (lo n))) rfl rfl).trans (mulS (.inr (cmulC botB (loB n (Nat.le_refl _)) rfl)))
            have c4 := call_to (F := m__law_fraction) (cons_to ((bin_eq (op := dAdd) c1 c2).trans (show _ = some (.val (.int (top * lo n + up n * bot))) from rfl)) (cons_to c3 (g := mNil) rfl)) hfr
            unfold mAsgT
            rw [c4]
            rfl
        · refine Nat.le_trans (fr_abs bL).2 ?_
          rw [Int.natAbs_mul, Nat.pow_succ]
          exact Nat.mul_le_mul bb (loA n (Nat.le_refl _))
        · have e1 := (bt.mul (loB n (Nat.le_refl _))).add ((upB n (Nat.le_refl _)).mul botB)
          have e2 : Bt (1000 * (i + 1) + 1) (top * lo n + up n * bot) := by
            by_cases i0 : i = 0
            · subst i0
              have b1 : bot = 1 := by
                have := bb
                simp at this
                omega
              have t0 : Bt 12 (top * lo n) := (bt.mul (loB n (Nat.le_refl _)))
              have u0 : Bt 600 (up n * bot) := by rw [b1, Int.mul_one]; exact upB n (Nat.le_refl _)
              have := t0.add u0
              exact this.mono (show _ ≤ 1000 * (0 + 1) + 1 by decide)
            · refine e1.mono ?_
              have : max (1000 * i + 1 + 11) (600 + 600) ≤ 1000 * i + 1000 := by
                apply Nat.max_le.mpr
                omega
              omega
          exact e2.fdiv
        · have tk : (ordL n).take (i + 1) = (ordL n).take i ++ [o] := by rw [List.take_add_one, ho]; rfl
          rw [tk, List.map_append, List.sum_append]
          have cr := fr_cross (a := top * lo n + up n * bot) (b := bot * lo n) (by omega)
          generalize hS : (((ordL n).take i).map (trm n t)).sum = S at be
          generalize hPP : prodN n (fun i => cbN (t i) n) = PP at be hPp ⊢
          have hup : up n * PP = trm n t o * lo n := by
            have w1 : prodN n (fun i => W n t i (o.getD i 0)) * lo n = prodN n (fun i => (t i (o.getD i 0)).1) * PP := by
              rw [← hPP, ← prod_mul, ← prod_mul]
              exact prod_congr fun k hk => Wt k hk _ (ord_get hom hk)
            show sg0 * _ * PP = sgB (oddL o) * _ * lo n
            rw [Int.mul_assoc, ← w1, Int.mul_assoc]
          have key : (bot * lo n) * (q.1 * PP) = (bot * lo n) * ((S + trm n t o) * q.2) := by
            calc (bot * lo n) * (q.1 * PP) = (q.1 * (bot * lo n)) * PP := by ac_rfl
              _ = (top * lo n + up n * bot) * q.2 * PP := by rw [cr]
              _ = ((top * PP) * lo n + (up n * PP) * bot) * q.2 := by simp only [Int.add_mul, Int.mul_add]; congr 1 <;> ac_rfl
              _ = ((S * bot) * lo n + (trm n t o * lo n) * bot) * q.2 := by rw [be, hup]
              _ = (bot * lo n) * ((S + trm n t o) * q.2) := by simp only [Int.add_mul, Int.mul_add]; congr 1 <;> ac_rfl
          have := Int.eq_of_mul_eq_mul_left (by omega) key
          simpa using this)
  rw [List.length_map, List.take_length] at be
  refine ⟨(top, bot), ?_, b0, bg, be⟩
  refine runD_rt (ρ := [TT, none, none, none, none, none, none]) rfl rfl ?_
  unfold b__law_due
  refine rts_seq (asg_to (r := .val (.int 0)) rfl) (rts_seq (asg_to (r := .val (.int 1)) rfl) (rts_seq (for_to hos hf) (rts_ret ?_)))
  simp only [mTup, mCons, mNil, mVar, List.getElem?_cons_zero, List.getElem?_cons_succ, Option.join_some, Option.bind_some, Sl.dat]
  exact if_pos (show 2 ≤ sizeLine by decide)
theorem leib1 (M : Ba.Mx) : (([[0]] : List (List Nat)).map fun o => sgB (oddL o) * prodN 1 (fun i => M i (o.getD i 0))).sum = Ba.det 1 M := by
  have s0 : oddL [0] = false := by decide
  simp [Ba.det, Ba.sumN, Ba.sgn, Ba.skip, prodN, s0, sgB]
theorem leib_ord (n : Nat) (t : Tb) (h1 : 1 ≤ n) (h4 : n ≤ 4) : leib n t = Ba.det n (W n t) := by
  unfold leib trm
  generalize W n t = M
  match n, h1, h4 with
  | 1, _, _ =>
    have e : ordL 1 = [[0]] := by decide
    rw [e]
    exact leib1 M
  | 2, _, _ =>
    have e : (ordL 2).map (fun o => (oddL o, o)) = [(true, [1, 0]), (false, [0, 1])] := by decide +kernel
    have f : (ordL 2).map (fun o => sgB (oddL o) * prodN 2 (fun i => M i (o.getD i 0))) = ((ordL 2).map (fun o => (oddL o, o))).map fun p => sgB p.1 * prodN 2 (fun i => M i (p.2.getD i 0)) := by rw [List.map_map]; rfl
    rw [f, e]
    simp only [List.map_cons, List.map_nil, List.sum_cons, List.sum_nil, sgB, prodN, Ba.det, Ba.sumN, Ba.sgn, Ba.skip, List.getD_cons_zero, List.getD_cons_succ]
    simp
    generalize M 0 0 = a00
    generalize M 0 1 = a01
    generalize M 1 0 = a10
    generalize M 1 1 = a11
    grind
  | 3, _, _ =>
    have e : (ordL 3).map (fun o => (oddL o, o)) = [(true, [2, 1, 0]), (false, [1, 2, 0]), (true, [1, 0, 2]), (false, [2, 0, 1]), (true, [0, 2, 1]), (false, [0, 1, 2])] := by decide +kernel
    have f : (ordL 3).map (fun o => sgB (oddL o) * prodN 3 (fun i => M i (o.getD i 0))) = ((ordL 3).map (fun o => (oddL o, o))).map fun p => sgB p.1 * prodN 3 (fun i => M i (p.2.getD i 0)) := by rw [List.map_map]; rfl
    rw [f, e]
    simp only [List.map_cons, List.map_nil, List.sum_cons, List.sum_nil, sgB, prodN, Ba.det, Ba.sumN, Ba.sgn, Ba.skip, List.getD_cons_zero, List.getD_cons_succ]
    simp
    generalize M 0 0 = a00
    generalize M 0 1 = a01
    generalize M 0 2 = a02
    generalize M 1 0 = a10
    generalize M 1 1 = a11
    generalize M 1 2 = a12
    generalize M 2 0 = a20
    generalize M 2 1 = a21
    generalize M 2 2 = a22
    grind
  | 4, _, _ =>
    have e : (ordL 4).map (fun o => (oddL o, o)) = [(false, [3, 2, 1, 0]), (true, [2, 3, 1, 0]), (false, [2, 1, 3, 0]), (true, [2, 1, 0, 3]), (true, [3, 1, 2, 0]), (false, [1, 3, 2, 0]), (true, [1, 2, 3, 0]), (false, [1, 2, 0, 3]), (false, [3, 1, 0, 2]), (true, [1, 3, 0, 2]), (false, [1, 0, 3, 2]), (true, [1, 0, 2, 3]), (true, [3, 2, 0, 1]), (false, [2, 3, 0, 1]), (true, [2, 0, 3, 1]), (false, [2, 0, 1, 3]), (false, [3, 0, 2, 1]), (true, [0, 3, 2, 1]), (false, [0, 2, 3, 1]), (true, [0, 2, 1, 3]), (true, [3, 0, 1, 2]), (false, [0, 3, 1, 2]), (true, [0, 1, 3, 2]), (false, [0, 1, 2, 3])] := by decide +kernel
    have f : (ordL 4).map (fun o => sgB (oddL o) * prodN 4 (fun i => M i (o.getD i 0))) = ((ordL 4).map (fun o => (oddL o, o))).map fun p => sgB p.1 * prodN 4 (fun i => M i (p.2.getD i 0)) := by rw [List.map_map]; rfl
    rw [f, e]
    simp only [List.map_cons, List.map_nil, List.sum_cons, List.sum_nil, sgB, prodN, Ba.det, Ba.sumN, Ba.sgn, Ba.skip, List.getD_cons_zero, List.getD_cons_succ]
    simp
    generalize M 0 0 = a00
    generalize M 0 1 = a01
    generalize M 0 2 = a02
    generalize M 0 3 = a03
    generalize M 1 0 = a10
    generalize M 1 1 = a11
    generalize M 1 2 = a12
    generalize M 1 3 = a13
    generalize M 2 0 = a20
    generalize M 2 1 = a21
    generalize M 2 2 = a22
    generalize M 2 3 = a23
    generalize M 3 0 = a30
    generalize M 3 1 = a31
    generalize M 3 2 = a32
    generalize M 3 3 = a33
    grind
theorem lay_tab {n m : Nat} {t : Tb} : (tabD n m t).canLay0 = true := lay_list (en := fun i => frD m (t i)) (fun i => lay_list (en := fun j => encF (t i j)) (fun _ => rfl) _) _
theorem dep_tab {n m : Nat} {t : Tb} : (tabD n m t).depth ≤ 5 := by
  have h1 : ∀ i, (frD m (t i)).depth ≤ 4 := fun i => by
    have := dep_list (en := fun j => encF (t i j)) (fun j => dep_F (t i j)) (List.range m)
    simp only [frD, PyData.depth]
    omega
  have := dep_list (en := fun i => frD m (t i)) h1 (List.range n)
  simp only [tabD, PyData.depth]
  omega
theorem tok4 {n : Nat} {t : Tb} (n1 : 1 ≤ n) (n4 : n ≤ 4) (hg : ∀ i, i < n → ∀ j, j < n → Gd (t i j)) : TabOk n n 6 (10 ^ 40) t :=
  ⟨n1, by omega, by omega, by decide, by decide, fun i hi j hj => ⟨(hg i hi j hj).pos, (hg i hi j hj).bot⟩, fun i hi j hj => (hg i hi j hj).top, by
    match n, n1, n4 with
    | 1, _, _ => decide +kernel
    | 2, _, _ => decide +kernel
    | 3, _, _ => decide +kernel
    | 4, _, _ => decide +kernel⟩
theorem small_P {n : Nat} (n4 : n ≤ 4) : (6 ^ n) ^ n < 2 ^ 8000 := by
  match n, n4 with
  | 0, _ => decide +kernel
  | 1, _ => decide +kernel
  | 2, _ => decide +kernel
  | 3, _ => decide +kernel
  | 4, _ => decide +kernel
theorem law_true (ns : List Int) (hns : ns.length ≤ 63) : m_law [.list (ns.map .int)] = some (.val (.bool true)) := by
  have sl : 1000 < sizeLine := by decide
  let S : Option Sl := some (.val (.list (ns.map .int)))
  let cells := ns.take 63 ++ [0]
  have hlen : cells.length ≤ 64 := by simp [cells]; omega
  obtain ⟨ρ', hw, ⟨s1, a, z3, z4, z5, rfl, hs, ha⟩, hc⟩ := while_inv (c := (mTest (mBin dLt (mPk 2) (mCallP dLen (mConsP (mPk 1) mNilP))))) (b := (mSeq (mFrz 1 (mFrz 2 (mAsg 3 (mCall m__law_table (mCons (mVar 1) (mCons (mVar 2) mNil))))))
    (mSeq (mFrz 3 (mAsg 4 (mLC (subE [none]) (mItems (mVar 3)) (gVar 0) mYes (mCallP dList (mConsP (mPk 0) mNilP)))))
    (mSeq (mFrz 3 (mAsg 5 (mCall m_determinant (mCons (mVar 3) mNil))))
    (mSeq (mIf (mOr (mNot (mTest (mIsi "tuple" (mPk 5)))) (mOr (mTest (mBin dne (mCallP dLen (mConsP (mPk 5) mNilP)) (mK (.int 2)))) (mOr (mNot (mTest (mCall m__law_whole (mCons (mBin dix (mPk 5) (mK (.int 0))) mNil)))) (mNot (mTest (mCall m__law_whole (mCons (mBin dix (mPk 5) (mK (.int 1))) mNil))))))) (mRet (mK (.bool false))) mNext)
    (mSeq (mFrz 4 (mIf (mOr (mTest (mBin dne (mPk 5) (mCall m__law_due (mCons (mVar 4) mNil)))) (mTest (mBin dne (mPk 3) (mPk 4)))) (mRet (mK (.bool false))) mNext))
    (mAsg 2 (mBin dAdd (mPk 2) (mCallP dLen (mConsP (mPk 3) mNilP)))))))))) (ρ := [S, some (.own (cells.map .int)), some (.val (.int 0)), none, none, none])
    (fun ρ => ∃ s1 a z3 z4 z5, ρ = [S, some s1, some (.val (.int ((a : Nat) : Int))), z3, z4, z5] ∧ (s1 = .own (cells.map .int) ∨ s1 = .val (.list (cells.map .int))) ∧ a ≤ 1000)
    (fun ρ => match ρ with | [_, _, some (.val (.int a)), _, _, _] => (64 - a).toNat | _ => 0) ⟨_, 0, _, _, _, rfl, .inl rfl, by decide⟩ (by
      rintro ρ ⟨s1, a, z3, z4, z5, rfl, hs, ha⟩
      have ds : s1.dat = .list (cells.map .int) := by rcases hs with rfl | rfl <;> rfl
      have tst : (mTest (mBin dLt (mPk 2) (mCallP dLen (mConsP (mPk 1) mNilP)))) [S, some s1, some (.val (.int ((a : Nat) : Int))), z3, z4, z5] = some (decide ((a : Int) < (cells.length : Int))) := by
        simp only [mTest, mBin, mCallP, mConsP, mNilP, mPk, List.getElem?_cons_zero, List.getElem?_cons_succ, Option.join_some, Option.bind_some, dLen, ds, List.length_map, dLt, icmp]
      by_cases hlt : a < cells.length
      · right
        refine ⟨by rw [tst, decide_eq_true (by omega)], ?_⟩
        obtain ⟨n, t, n1, n4, hg, ht⟩ := run_table hlt hlen
        obtain ⟨q, hq, q0, qg, qe⟩ := run_det (tok4 n1 n4 hg) (small_P n4)
        obtain ⟨p, hp, p0, pg, pe⟩ := run_due n1 n4 hg
        have hPp : 0 < prodN n (fun i => cbN (t i) n) := prod_pos fun i hi => (cb_all (r := t i) (D := 6) (m := n) fun j hj => ⟨(hg i hi j hj).pos, (hg i hi j hj).bot⟩).1
        rw [leib_ord n t n1 n4] at pe
        have hqp : q = p := frac_one hPp q0 p0 qg pg qe pe
        subst hqp
        let CE : Option Sl := some (.val (.list (cells.map .int)))
        let AT : Option Sl := some (.val (.int ((a : Nat) : Int)))
        let TA : Option Sl := some (.val (tabD n n t))
        let FO : Option Sl := some (.val (encF q))
        refine ⟨[S, CE, some (.val (.int ((a + n : Nat) : Int))), TA, TA, FO], ?_, ⟨_, a + n, _, _, _, rfl, .inr rfl, by omega⟩, ?_⟩
        · refine seq_to (ρ' := [S, CE, AT, some (.own (tbl n n t)), z4, z5]) ?_ (seq_to (ρ' := [S, CE, AT, TA, some (.own (tbl n n t)), z5]) ?_ (seq_to (ρ' := [S, CE, AT, TA, some (.own (tbl n n t)), FO]) ?_ (seq_to (ρ' := [S, CE, AT, TA, some (.own (tbl n n t)), FO]) ?_ (seq_to (ρ' := [S, CE, AT, TA, TA, FO]) ?_ ?_))))
          · have fz : frz1 2 (frz1 1 [S, some s1, AT, z3, z4, z5]) = [S, CE, AT, z3, z4, z5] := by
              rcases hs with rfl | rfl <;> rfl
            show mAsg 3 _ (frz1 2 (frz1 1 [S, some s1, AT, z3, z4, z5])) = _
            rw [fz]
            exact asg_to (call_to (ds := [.list (cells.map .int), .int (a : Nat)]) rfl ht)
          · show mAsg 4 _ [S, CE, AT, TA, z4, z5] = _
            refine asg_to (lc_to (ds := (List.range n).map fun i => frD n (t i)) rfl (by rw [List.length_map, List.length_range]; omega) (compM_map fun i _ => rfl))
          · show mAsg 5 _ [S, CE, AT, TA, some (.own (tbl n n t)), z5] = _
            exact asg_to (call_to (ds := [tabD n n t]) rfl hq)
          · have w0 := test_eq (call_to (F := m__law_whole) (cons_to (ρ := [S, CE, AT, TA, some (.own (tbl n n t)), FO]) ((bin_eq (op := dix) (fa := mPk 5) (fb := mK (.int 0)) (a := .val (encF q)) rfl rfl).trans (dix_f0 q)) (g := mNil) rfl) (run_whole q.1))
            have w1 := test_eq (call_to (F := m__law_whole) (cons_to (ρ := [S, CE, AT, TA, some (.own (tbl n n t)), FO]) ((bin_eq (op := dix) (fa := mPk 5) (fb := mK (.int 1)) (a := .val (encF q)) rfl rfl).trans (dix_f1 q)) (g := mNil) rfl) (run_whole q.2))
            refine if_to (b := false) ?_ rfl
            have t1 : (mTest (mIsi "tuple" (mPk 5))) [S, CE, AT, TA, some (.own (tbl n n t)), FO] = some true := rfl
            have t2 : (mTest (mBin dne (mCallP dLen (mConsP (mPk 5) mNilP)) (mK (.int 2)))) [S, CE, AT, TA, some (.own (tbl n n t)), FO] = some false := by
              refine test_eq ((bin_eq (op := dne) (a := .val (.int 2)) (b := .val (.int 2)) rfl rfl).trans ?_)
              show (eqD (.int 2) (.int 2)).map _ = _
              rw [eqD_int]
              rfl
            unfold mOr mNot
            rw [t1]
            simp only [Option.map_some, Option.bind_some, Bool.not_true, Bool.false_eq_true, if_false, t2, w0, w1]
          · show mIf _ _ _ [S, CE, AT, TA, TA, FO] = _
            refine if_to (b := false) ?_ rfl
            have t1 : (mTest (mBin dne (mPk 5) (mCall m__law_due (mCons (mVar 4) mNil)))) [S, CE, AT, TA, TA, FO] = some false := by
              refine test_eq ((bin_eq (op := dne) (fa := mPk 5) (a := .val (encF q)) rfl (call_to (ds := [tabD n n t]) rfl hp)).trans ?_)
              show (eqD (encF q) (encF q)).map _ = _
              rw [eqD_frac]
              simp
            have t2 : (mTest (mBin dne (mPk 3) (mPk 4))) [S, CE, AT, TA, TA, FO] = some false := by
              refine test_eq ((bin_eq (op := dne) (fa := mPk 3) (fb := mPk 4) (a := .val (tabD n n t)) (b := .val (tabD n n t)) rfl rfl).trans ?_)
              show (eqD (tabD n n t) (tabD n n t)).map _ = _
              rw [eqD_same lay_tab (Nat.le_trans dep_tab (by decide))]
              rfl
            unfold mOr
            rw [t1]
            simp only [Option.bind_some, Bool.false_eq_true, if_false, t2]
          · refine (asg_to ((bin_eq (op := dAdd) (fa := mPk 2) (a := .val (.int ((a : Nat) : Int))) rfl (callP_to (F := dLen) (f := mConsP (mPk 3) mNilP) (ρ := [S, CE, AT, TA, TA, FO]) (ss := [.val (tabD n n t)]) rfl (r := .val (.int ((n : Nat) : Int))) ?_)).trans (show dAdd _ _ = some (.val (.int ((a : Int) + (n : Int)))) from rfl))).trans ?_
            · simp only [dLen, Sl.dat, tabD, List.length_map, List.length_range]
            · rw [show (a : Int) + (n : Int) = ((a + n : Nat) : Int) by omega]
              rfl
        · show (64 - ((a + n : Nat) : Int)).toNat < (64 - ((a : Nat) : Int)).toNat
          omega
      · left
        rw [tst, decide_eq_false (by omega)])
  refine runD_rt (ρ := [S, none, none, none, none, none]) rfl rfl ?_
  unfold b_law
  refine rts_seq (asg_to (r := .own (cells.map .int)) ?_) (rts_seq (asg_to (r := .val (.int 0)) rfl) (rts_seq hw (rts_ret rfl)))
  have c1 : (mSl (mPk 0) mNoPart (mPart (mK (.int 63)))) [S, none, none, none, none, none] = some (.own ((ns.take 63).map .int)) := by
    have : cutD (ns.map PyData.int) none (some ((63 : Nat) : Int)) = (ns.take 63).map .int := by
      unfold cutD
      rw [HT.sIx_none, HT.sIx_nat, List.length_map, List.drop_zero, Nat.sub_zero, ← List.map_take]
      congr 1
      by_cases h : 63 ≤ ns.length
      · rw [Nat.min_eq_left h]
      · rw [Nat.min_eq_right (by omega), List.take_of_length_le (Nat.le_refl _), List.take_of_length_le (by omega)]
    rw [← this]
    rfl
  have c2 : (mLst (mCons (mK (.int 0)) mNil)) [S, none, none, none, none, none] = some (.own [.int 0]) := by
    simp only [mLst, mCons, mNil, mK, Option.bind_some, Sl.dat]
    exact if_pos (show 1 ≤ sizeLine by decide)
  refine (bin_eq (op := dAdd) c1 c2).trans ?_
  show (if ((ns.take 63).map PyData.int).length + 1 ≤ sizeLine then some (Sl.own ((ns.take 63).map .int ++ [.int 0])) else none) = _
  rw [if_pos (by rw [List.length_map, List.length_take]; omega)]
  simp [cells]
theorem all_mk {l : PySem.W.OpenLaw} {w : World} {K : PySem.W.Frag} {h : Heap} {mg : Str → Option Value} {fa : Addr} {od1 an1 : Option Addr} {sl1 : Array (Option Value)} {oc1 kV1 dc1 pm1 cd1 ct1 : Value} {f1 : Addr} {od2 an2 : Option Addr} {sl2 : Array (Option Value)} {oc2 kV2 dc2 pm2 cd2 ct2 : Value} {f2 : Addr} {od3 an3 : Option Addr} {sl3 : Array (Option Value)} {oc3 kV3 dc3 pm3 cd3 ct3 : Value} {f3 : Addr} {od4 an4 : Option Addr} {sl4 : Array (Option Value)} {oc4 kV4 dc4 pm4 cd4 ct4 : Value} {f4 : Addr} {od5 an5 : Option Addr} {sl5 : Array (Option Value)} {oc5 kV5 dc5 pm5 cd5 ct5 : Value} {f5 : Addr} {od6 an6 : Option Addr} {sl6 : Array (Option Value)} {oc6 kV6 dc6 pm6 cd6 ct6 : Value} {f6 : Addr} {od7 an7 : Option Addr} {sl7 : Array (Option Value)} {oc7 kV7 dc7 pm7 cd7 ct7 : Value} {f7 : Addr} {od8 an8 : Option Addr} {sl8 : Array (Option Value)} {oc8 kV8 dc8 pm8 cd8 ct8 : Value} {f8 : Addr} {od9 an9 : Option Addr} {sl9 : Array (Option Value)} {oc9 kV9 dc9 pm9 cd9 ct9 : Value} {f9 : Addr} {od10 an10 : Option Addr} {sl10 : Array (Option Value)} {oc10 kV10 dc10 pm10 cd10 ct10 : Value} {f10 : Addr} {od11 an11 : Option Addr} {sl11 : Array (Option Value)} {oc11 kV11 dc11 pm11 cd11 ct11 : Value} {f11 : Addr} {od12 an12 : Option Addr} {sl12 : Array (Option Value)} {oc12 kV12 dc12 pm12 cd12 ct12 : Value} {f12 : Addr} {od13 an13 : Option Addr} {sl13 : Array (Option Value)} {oc13 kV13 dc13 pm13 cd13 ct13 : Value} {f13 : Addr} {od14 an14 : Option Addr} {sl14 : Array (Option Value)} {oc14 kV14 dc14 pm14 cd14 ct14 : Value} {f14 : Addr} {od15 an15 : Option Addr} {sl15 : Array (Option Value)} {oc15 kV15 dc15 pm15 cd15 ct15 : Value} {f15 : Addr} {od16 an16 : Option Addr} {sl16 : Array (Option Value)} {oc16 kV16 dc16 pm16 cd16 ct16 : Value} {f16 : Addr} {od17 an17 : Option Addr} {sl17 : Array (Option Value)} {oc17 kV17 dc17 pm17 cd17 ct17 : Value} {f17 : Addr} {od18 an18 : Option Addr} {sl18 : Array (Option Value)} {oc18 kV18 dc18 pm18 cd18 ct18 : Value} {f18 : Addr} {od19 an19 : Option Addr} {sl19 : Array (Option Value)} {oc19 kV19 dc19 pm19 cd19 ct19 : Value} {f19 : Addr} {od20 an20 : Option Addr} {sl20 : Array (Option Value)} {oc20 kV20 dc20 pm20 cd20 ct20 : Value} {f20 : Addr} {od21 an21 : Option Addr} {sl21 : Array (Option Value)} {oc21 kV21 dc21 pm21 cd21 ct21 : Value} {f21 : Addr} {C_Stairs : Addr} {t_NOUGHT : Addr} {tk_NOUGHT_0 : Tok} {tk_NOUGHT_1 : Tok} {to_NOUGHT : Option Addr} {tn_NOUGHT : Nat} {ts_NOUGHT : Array (Option Value)} (X : K.In h) (G : h.Ns mainGlobals mg) (hfa : mg "law" = some (.ref fa))
    (aC_Stairs : PySem.W.nsIn K mainGlobals "Stairs" = some (some (.ref C_Stairs)))
    (pg_Stairs : PySem.W.plainGet K C_Stairs Str.empty = true)
    (hd_Stairs : PySem.W.hasDictIn K C_Stairs = true)
    (po_Stairs : PySem.W.plainOver K C_Stairs = true)
    (sa_Stairs : PySem.W.findIn K (.ref C_Stairs) "__setattr__" = some (some (.builtin "object.__setattr__")))
    (mk_Stairs : PySem.W.makesIn K C_Stairs = true)
    (kc_Stairs : PySem.W.keepIn K (.ref C_Stairs) = true)
    (n_Stairs_rows : PySem.W.findIn K (.ref C_Stairs) "rows" = some none)
    (n_Stairs_leads : PySem.W.findIn K (.ref C_Stairs) "leads" = some none)
    (n_Stairs_last : PySem.W.findIn K (.ref C_Stairs) "last" = some none)
    (a1 : PySem.W.nsIn K mainGlobals "_law_mix" = some (some (.ref f1)))
    (l1 : K.lookup f1 = some ⟨oc1, od1, .func (PySem.W.fnOf "_law_mix" "_law_mix" (defArgs s__law_mix) (defBody s__law_mix) (defScope s__law_mix) .none kV1 dc1 pm1 an1 cd1 ct1), sl1⟩)
    (c1 : PySem.W.codeIn K cd1 "_law_mix" = true)
    (k1 : PySem.W.keepIn K (.ref f1) = true)
    (a2 : PySem.W.nsIn K mainGlobals "_law_divisor" = some (some (.ref f2)))
    (l2 : K.lookup f2 = some ⟨oc2, od2, .func (PySem.W.fnOf "_law_divisor" "_law_divisor" (defArgs s__law_divisor) (defBody s__law_divisor) (defScope s__law_divisor) .none kV2 dc2 pm2 an2 cd2 ct2), sl2⟩)
    (c2 : PySem.W.codeIn K cd2 "_law_divisor" = true)
    (k2 : PySem.W.keepIn K (.ref f2) = true)
    (a3 : PySem.W.nsIn K mainGlobals "_law_fraction" = some (some (.ref f3)))
    (l3 : K.lookup f3 = some ⟨oc3, od3, .func (PySem.W.fnOf "_law_fraction" "_law_fraction" (defArgs s__law_fraction) (defBody s__law_fraction) (defScope s__law_fraction) .none kV3 dc3 pm3 an3 cd3 ct3), sl3⟩)
    (c3 : PySem.W.codeIn K cd3 "_law_fraction" = true)
    (k3 : PySem.W.keepIn K (.ref f3) = true)
    (a4 : PySem.W.nsIn K mainGlobals "_law_drawn" = some (some (.ref f4)))
    (l4 : K.lookup f4 = some ⟨oc4, od4, .func (PySem.W.fnOf "_law_drawn" "_law_drawn" (defArgs s__law_drawn) (defBody s__law_drawn) (defScope s__law_drawn) .none kV4 dc4 pm4 an4 cd4 ct4), sl4⟩)
    (c4 : PySem.W.codeIn K cd4 "_law_drawn" = true)
    (k4 : PySem.W.keepIn K (.ref f4) = true)
    (a5 : PySem.W.nsIn K mainGlobals "_law_table" = some (some (.ref f5)))
    (l5 : K.lookup f5 = some ⟨oc5, od5, .func (PySem.W.fnOf "_law_table" "_law_table" (defArgs s__law_table) (defBody s__law_table) (defScope s__law_table) .none kV5 dc5 pm5 an5 cd5 ct5), sl5⟩)
    (c5 : PySem.W.codeIn K cd5 "_law_table" = true)
    (k5 : PySem.W.keepIn K (.ref f5) = true)
    (a6 : PySem.W.nsIn K mainGlobals "greatest_divisor" = some (some (.ref f6)))
    (l6 : K.lookup f6 = some ⟨oc6, od6, .func (PySem.W.fnOf "greatest_divisor" "greatest_divisor" (defArgs s_greatest_divisor) (defBody s_greatest_divisor) (defScope s_greatest_divisor) .none kV6 dc6 pm6 an6 cd6 ct6), sl6⟩)
    (c6 : PySem.W.codeIn K cd6 "greatest_divisor" = true)
    (k6 : PySem.W.keepIn K (.ref f6) = true)
    (a7 : PySem.W.nsIn K mainGlobals "common_bottom" = some (some (.ref f7)))
    (l7 : K.lookup f7 = some ⟨oc7, od7, .func (PySem.W.fnOf "common_bottom" "common_bottom" (defArgs s_common_bottom) (defBody s_common_bottom) (defScope s_common_bottom) .none kV7 dc7 pm7 an7 cd7 ct7), sl7⟩)
    (c7 : PySem.W.codeIn K cd7 "common_bottom" = true)
    (k7 : PySem.W.keepIn K (.ref f7) = true)
    (a8 : PySem.W.nsIn K mainGlobals "whole_row" = some (some (.ref f8)))
    (l8 : K.lookup f8 = some ⟨oc8, od8, .func (PySem.W.fnOf "whole_row" "whole_row" (defArgs s_whole_row) (defBody s_whole_row) (defScope s_whole_row) .none kV8 dc8 pm8 an8 cd8 ct8), sl8⟩)
    (c8 : PySem.W.codeIn K cd8 "whole_row" = true)
    (k8 : PySem.W.keepIn K (.ref f8) = true)
    (a9 : PySem.W.findIn K (.ref C_Stairs) "place_of_lead" = some (some (.ref f9)))
    (i9 : PySem.W.isFn K (.ref f9) = true)
    (l9 : K.lookup f9 = some ⟨oc9, od9, .func (PySem.W.fnOf "place_of_lead" "Stairs.place_of_lead" (defArgs s_Stairs_place_of_lead) (defBody s_Stairs_place_of_lead) (defScope s_Stairs_place_of_lead) .none kV9 dc9 pm9 an9 cd9 ct9), sl9⟩)
    (c9 : PySem.W.codeIn K cd9 "Stairs.place_of_lead" = true)
    (k9 : PySem.W.keepIn K (.ref f9) = true)
    (a10 : PySem.W.findIn K (.ref C_Stairs) "exchange" = some (some (.ref f10)))
    (i10 : PySem.W.isFn K (.ref f10) = true)
    (l10 : K.lookup f10 = some ⟨oc10, od10, .func (PySem.W.fnOf "exchange" "Stairs.exchange" (defArgs s_Stairs_exchange) (defBody s_Stairs_exchange) (defScope s_Stairs_exchange) .none kV10 dc10 pm10 an10 cd10 ct10), sl10⟩)
    (c10 : PySem.W.codeIn K cd10 "Stairs.exchange" = true)
    (k10 : PySem.W.keepIn K (.ref f10) = true)
    (a11 : PySem.W.nsIn K mainGlobals "cleared_row" = some (some (.ref f11)))
    (l11 : K.lookup f11 = some ⟨oc11, od11, .func (PySem.W.fnOf "cleared_row" "cleared_row" (defArgs s_cleared_row) (defBody s_cleared_row) (defScope s_cleared_row) .none kV11 dc11 pm11 an11 cd11 ct11), sl11⟩)
    (c11 : PySem.W.codeIn K cd11 "cleared_row" = true)
    (k11 : PySem.W.keepIn K (.ref f11) = true)
    (a12 : PySem.W.findIn K (.ref C_Stairs) "step_down" = some (some (.ref f12)))
    (i12 : PySem.W.isFn K (.ref f12) = true)
    (l12 : K.lookup f12 = some ⟨oc12, od12, .func (PySem.W.fnOf "step_down" "Stairs.step_down" (defArgs s_Stairs_step_down) (defBody s_Stairs_step_down) (defScope s_Stairs_step_down) .none kV12 dc12 pm12 an12 cd12 ct12), sl12⟩)
    (c12 : PySem.W.codeIn K cd12 "Stairs.step_down" = true)
    (k12 : PySem.W.keepIn K (.ref f12) = true)
    (a13 : PySem.W.findIn K (.ref C_Stairs) "__init__" = some (some (.ref f13)))
    (i13 : PySem.W.isFn K (.ref f13) = true)
    (l13 : K.lookup f13 = some ⟨oc13, od13, .func (PySem.W.fnOf "__init__" "Stairs.__init__" (defArgs s_Stairs___init__) (defBody s_Stairs___init__) (defScope s_Stairs___init__) .none kV13 dc13 pm13 an13 cd13 ct13), sl13⟩)
    (c13 : PySem.W.codeIn K cd13 "Stairs.__init__" = true)
    (k13 : PySem.W.keepIn K (.ref f13) = true)
    (a14 : PySem.W.nsIn K mainGlobals "stairs_of" = some (some (.ref f14)))
    (l14 : K.lookup f14 = some ⟨oc14, od14, .func (PySem.W.fnOf "stairs_of" "stairs_of" (defArgs s_stairs_of) (defBody s_stairs_of) (defScope s_stairs_of) .none kV14 dc14 pm14 an14 cd14 ct14), sl14⟩)
    (c14 : PySem.W.codeIn K cd14 "stairs_of" = true)
    (k14 : PySem.W.keepIn K (.ref f14) = true)
    (a15 : PySem.W.nsIn K mainGlobals "fraction" = some (some (.ref f15)))
    (l15 : K.lookup f15 = some ⟨oc15, od15, .func (PySem.W.fnOf "fraction" "fraction" (defArgs s_fraction) (defBody s_fraction) (defScope s_fraction) .none kV15 dc15 pm15 an15 cd15 ct15), sl15⟩)
    (c15 : PySem.W.codeIn K cd15 "fraction" = true)
    (k15 : PySem.W.keepIn K (.ref f15) = true)
    (a16 : PySem.W.nsIn K mainGlobals "determinant" = some (some (.ref f16)))
    (l16 : K.lookup f16 = some ⟨oc16, od16, .func (PySem.W.fnOf "determinant" "determinant" (defArgs s_determinant) (defBody s_determinant) (defScope s_determinant) .none kV16 dc16 pm16 an16 cd16 ct16), sl16⟩)
    (c16 : PySem.W.codeIn K cd16 "determinant" = true)
    (k16 : PySem.W.keepIn K (.ref f16) = true)
    (a17 : PySem.W.nsIn K mainGlobals "_law_whole" = some (some (.ref f17)))
    (l17 : K.lookup f17 = some ⟨oc17, od17, .func (PySem.W.fnOf "_law_whole" "_law_whole" (defArgs s__law_whole) (defBody s__law_whole) (defScope s__law_whole) .none kV17 dc17 pm17 an17 cd17 ct17), sl17⟩)
    (c17 : PySem.W.codeIn K cd17 "_law_whole" = true)
    (k17 : PySem.W.keepIn K (.ref f17) = true)
    (a18 : PySem.W.nsIn K mainGlobals "_law_orders" = some (some (.ref f18)))
    (l18 : K.lookup f18 = some ⟨oc18, od18, .func (PySem.W.fnOf "_law_orders" "_law_orders" (defArgs s__law_orders) (defBody s__law_orders) (defScope s__law_orders) .none kV18 dc18 pm18 an18 cd18 ct18), sl18⟩)
    (c18 : PySem.W.codeIn K cd18 "_law_orders" = true)
    (k18 : PySem.W.keepIn K (.ref f18) = true)
    (a19 : PySem.W.nsIn K mainGlobals "_law_odd" = some (some (.ref f19)))
    (l19 : K.lookup f19 = some ⟨oc19, od19, .func (PySem.W.fnOf "_law_odd" "_law_odd" (defArgs s__law_odd) (defBody s__law_odd) (defScope s__law_odd) .none kV19 dc19 pm19 an19 cd19 ct19), sl19⟩)
    (c19 : PySem.W.codeIn K cd19 "_law_odd" = true)
    (k19 : PySem.W.keepIn K (.ref f19) = true)
    (a20 : PySem.W.nsIn K mainGlobals "_law_due" = some (some (.ref f20)))
    (l20 : K.lookup f20 = some ⟨oc20, od20, .func (PySem.W.fnOf "_law_due" "_law_due" (defArgs s__law_due) (defBody s__law_due) (defScope s__law_due) .none kV20 dc20 pm20 an20 cd20 ct20), sl20⟩)
    (c20 : PySem.W.codeIn K cd20 "_law_due" = true)
    (k20 : PySem.W.keepIn K (.ref f20) = true)
    (a21 : PySem.W.nsIn K mainGlobals "law" = some (some (.ref f21)))
    (l21 : K.lookup f21 = some ⟨oc21, od21, .func (PySem.W.fnOf "law" "law" (defArgs s_law) (defBody s_law) (defScope s_law) .none kV21 dc21 pm21 an21 cd21 ct21), sl21⟩)
    (c21 : PySem.W.codeIn K cd21 "law" = true)
    (k21 : PySem.W.keepIn K (.ref f21) = true)
    (a_NOUGHT : PySem.W.nsIn K mainGlobals "NOUGHT" = some (some (.ref t_NOUGHT)))
    (l_NOUGHT : K.lookup t_NOUGHT = some ⟨.type "tuple", to_NOUGHT, .seq #[.int 0 tk_NOUGHT_0, .int 1 tk_NOUGHT_1] tn_NOUGHT, ts_NOUGHT⟩)
    (z0 : PySem.W.nsIn K mainGlobals "abs" = some none)
    (z1 : PySem.W.nsIn K mainGlobals "bool" = some none)
    (z2 : PySem.W.nsIn K mainGlobals "int" = some none)
    (z3 : PySem.W.nsIn K mainGlobals "isinstance" = some none)
    (z4 : PySem.W.nsIn K mainGlobals "len" = some none)
    (z5 : PySem.W.nsIn K mainGlobals "list" = some none)
    (z6 : PySem.W.nsIn K mainGlobals "range" = some none)
    (z7 : PySem.W.nsIn K mainGlobals "tuple" = some none)
    (z8 : PySem.W.nsIn K mainGlobals "zip" = some none)
    : ∃ fd : FuncData, (∀ (s : Shared) (v : Value), BindsTo s fd ⟨[v], []⟩ [("_law_script", v)]) ∧ ∀ base : Heap, K.In base → base.Ns mainGlobals mg → FnOk l.prog w K mg base CX0 7 fa fd ["_law_script"] (spLaw K) := by
  have e := hfa.symm.trans (PySem.W.mg_of X G a21)
  cases e
  have F__law_mix := fun_mk (st := s__law_mix) l1 c1 k1
  have b__law_mix := F__law_mix.binds (ps := ["_law_cell", "_law_j"]) fun _ _ _ _ _ _ us hl => match us, hl with | [_, _], _ => rfl
  have F__law_divisor := fun_mk (st := s__law_divisor) l2 c2 k2
  have b__law_divisor := F__law_divisor.binds (ps := ["_law_one", "_law_other"]) fun _ _ _ _ _ _ us hl => match us, hl with | [_, _], _ => rfl
  have F__law_fraction := fun_mk (st := s__law_fraction) l3 c3 k3
  have b__law_fraction := F__law_fraction.binds (ps := ["_law_top", "_law_bottom"]) fun _ _ _ _ _ _ us hl => match us, hl with | [_, _], _ => rfl
  have F__law_drawn := fun_mk (st := s__law_drawn) l4 c4 k4
  have b__law_drawn := F__law_drawn.binds (ps := ["_law_cell", "_law_j"]) fun _ _ _ _ _ _ us hl => match us, hl with | [_, _], _ => rfl
  have F__law_table := fun_mk (st := s__law_table) l5 c5 k5
  have b__law_table := F__law_table.binds (ps := ["_law_cells", "_law_at"]) fun _ _ _ _ _ _ us hl => match us, hl with | [_, _], _ => rfl
  have F_greatest_divisor := fun_mk (st := s_greatest_divisor) l6 c6 k6
  have b_greatest_divisor := F_greatest_divisor.binds (ps := ["one", "other"]) fun _ _ _ _ _ _ us hl => match us, hl with | [_, _], _ => rfl
  have F_common_bottom := fun_mk (st := s_common_bottom) l7 c7 k7
  have b_common_bottom := F_common_bottom.binds (ps := ["row"]) fun _ _ _ _ _ _ us hl => match us, hl with | [_], _ => rfl
  have F_whole_row := fun_mk (st := s_whole_row) l8 c8 k8
  have b_whole_row := F_whole_row.binds (ps := ["row"]) fun _ _ _ _ _ _ us hl => match us, hl with | [_], _ => rfl
  have F_Stairs_place_of_lead := fun_mk (st := s_Stairs_place_of_lead) l9 c9 k9
  have b_Stairs_place_of_lead := F_Stairs_place_of_lead.binds (ps := ["self", "top", "column"]) fun _ _ _ _ _ _ us hl => match us, hl with | [_, _, _], _ => rfl
  have F_Stairs_exchange := fun_mk (st := s_Stairs_exchange) l10 c10 k10
  have b_Stairs_exchange := F_Stairs_exchange.binds (ps := ["self", "top", "place"]) fun _ _ _ _ _ _ us hl => match us, hl with | [_, _, _], _ => rfl
  have F_cleared_row := fun_mk (st := s_cleared_row) l11 c11 k11
  have b_cleared_row := F_cleared_row.binds (ps := ["row", "lead_row", "column", "last"]) fun _ _ _ _ _ _ us hl => match us, hl with | [_, _, _, _], _ => rfl
  have F_Stairs_step_down := fun_mk (st := s_Stairs_step_down) l12 c12 k12
  have b_Stairs_step_down := F_Stairs_step_down.binds (ps := ["self", "column"]) fun _ _ _ _ _ _ us hl => match us, hl with | [_, _], _ => rfl
  have F_Stairs___init__ := fun_mk (st := s_Stairs___init__) l13 c13 k13
  have b_Stairs___init__ := F_Stairs___init__.binds (ps := ["self", "rows"]) fun _ _ _ _ _ _ us hl => match us, hl with | [_, _], _ => rfl
  have F_stairs_of := fun_mk (st := s_stairs_of) l14 c14 k14
  have b_stairs_of := F_stairs_of.binds (ps := ["table"]) fun _ _ _ _ _ _ us hl => match us, hl with | [_], _ => rfl
  have F_fraction := fun_mk (st := s_fraction) l15 c15 k15
  have b_fraction := F_fraction.binds (ps := ["top", "bottom"]) fun _ _ _ _ _ _ us hl => match us, hl with | [_, _], _ => rfl
  have F_determinant := fun_mk (st := s_determinant) l16 c16 k16
  have b_determinant := F_determinant.binds (ps := ["table"]) fun _ _ _ _ _ _ us hl => match us, hl with | [_], _ => rfl
  have F__law_whole := fun_mk (st := s__law_whole) l17 c17 k17
  have b__law_whole := F__law_whole.binds (ps := ["_law_found"]) fun _ _ _ _ _ _ us hl => match us, hl with | [_], _ => rfl
  have F__law_orders := fun_mk (st := s__law_orders) l18 c18 k18
  have b__law_orders := F__law_orders.binds (ps := ["_law_many"]) fun _ _ _ _ _ _ us hl => match us, hl with | [_], _ => rfl
  have F__law_odd := fun_mk (st := s__law_odd) l19 c19 k19
  have b__law_odd := F__law_odd.binds (ps := ["_law_order"]) fun _ _ _ _ _ _ us hl => match us, hl with | [_], _ => rfl
  have F__law_due := fun_mk (st := s__law_due) l20 c20 k20
  have b__law_due := F__law_due.binds (ps := ["_law_table_here"]) fun _ _ _ _ _ _ us hl => match us, hl with | [_], _ => rfl
  have F_law := fun_mk (st := s_law) l21 c21 k21
  have b_law := F_law.binds (ps := ["_law_script"]) fun _ _ _ _ _ _ us hl => match us, hl with | [_], _ => rfl
  have B : Bl mg := ⟨PySem.W.mg_none_of X G z0, PySem.W.mg_none_of X G z1, PySem.W.mg_none_of X G z2, PySem.W.mg_none_of X G z3, PySem.W.mg_none_of X G z4, PySem.W.mg_none_of X G z5, PySem.W.mg_none_of X G z6, PySem.W.mg_none_of X G z7, PySem.W.mg_none_of X G z8⟩
  have K_Stairs : Klass K C_Stairs ["rows", "leads", "last"] := ⟨⟨pg_Stairs, hd_Stairs, po_Stairs, sa_Stairs⟩, fun f hf => by
    simp only [List.mem_cons, List.not_mem_nil, or_false] at hf
    rcases hf with rfl | rfl | rfl
    · exact n_Stairs_rows
    · exact n_Stairs_leads
    · exact n_Stairs_last⟩
  have C_NOUGHT : GlobC K mg "NOUGHT" c_NOUGHT := ⟨.ref t_NOUGHT, .ref t_NOUGHT, PySem.W.mg_of X G a_NOUGHT, rfl, fun H0 => Rep.tuple (xs := [V.int 0, V.int 1]) (.inr ⟨_, _, _, l_NOUGHT, rfl, rfl, by show 2 ≤ sizeLine; decide, .cons ⟨_, rfl⟩ (.cons ⟨_, rfl⟩ (.nil))⟩) (.cons (.int _) (.cons (.int _) .nil))⟩
  refine ⟨PySem.W.fnOf "law" "law" (defArgs s_law) (defBody s_law) (defScope s_law) .none kV21 dc21 pm21 an21 cd21 ct21, fun s v => .of_eq rfl, fun base _ _ => ?_⟩
  have D__law_mix : Def l.prog w K mg base 1 "_law_mix" ["_law_cell", "_law_j"] (spD K m__law_mix) := ⟨_, _, ok__law_mix B F__law_mix, PySem.W.mg_of X G a1, k1, b__law_mix⟩
  have D__law_divisor : Def l.prog w K mg base 1 "_law_divisor" ["_law_one", "_law_other"] (spD K m__law_divisor) := ⟨_, _, ok__law_divisor B F__law_divisor, PySem.W.mg_of X G a2, k2, b__law_divisor⟩
  have D__law_fraction : Def l.prog w K mg base 2 "_law_fraction" ["_law_top", "_law_bottom"] (spD K m__law_fraction) := ⟨_, _, ok__law_fraction B D__law_divisor F__law_fraction, PySem.W.mg_of X G a3, k3, b__law_fraction⟩
  have D__law_drawn : Def l.prog w K mg base 3 "_law_drawn" ["_law_cell", "_law_j"] (spD K m__law_drawn) := ⟨_, _, ok__law_drawn B D__law_mix D__law_fraction F__law_drawn, PySem.W.mg_of X G a4, k4, b__law_drawn⟩
  have D__law_table : Def l.prog w K mg base 4 "_law_table" ["_law_cells", "_law_at"] (spD K m__law_table) := ⟨_, _, ok__law_table B D__law_mix D__law_drawn F__law_table, PySem.W.mg_of X G a5, k5, b__law_table⟩
  have D_greatest_divisor : Def l.prog w K mg base 1 "greatest_divisor" ["one", "other"] (spD K m_greatest_divisor) := ⟨_, _, ok_greatest_divisor B F_greatest_divisor, PySem.W.mg_of X G a6, k6, b_greatest_divisor⟩
  have D_common_bottom : Def l.prog w K mg base 2 "common_bottom" ["row"] (spD K m_common_bottom) := ⟨_, _, ok_common_bottom B D_greatest_divisor F_common_bottom, PySem.W.mg_of X G a7, k7, b_common_bottom⟩
  have D_whole_row : Def l.prog w K mg base 3 "whole_row" ["row"] (spD K m_whole_row) := ⟨_, _, ok_whole_row B D_common_bottom F_whole_row, PySem.W.mg_of X G a8, k8, b_whole_row⟩
  have D_Stairs_place_of_lead : MDef l.prog w K mg base 1 C_Stairs "place_of_lead" ["self", "top", "column"] (spM K C_Stairs ["rows", "leads", "last"] m_Stairs_place_of_lead) := ⟨_, _, ok_Stairs_place_of_lead B K_Stairs F_Stairs_place_of_lead, ⟨a9, i9, k9⟩, b_Stairs_place_of_lead⟩
  have D_Stairs_exchange : MDef l.prog w K mg base 1 C_Stairs "exchange" ["self", "top", "place"] (spM K C_Stairs ["rows", "leads", "last"] m_Stairs_exchange) := ⟨_, _, ok_Stairs_exchange B K_Stairs F_Stairs_exchange, ⟨a10, i10, k10⟩, b_Stairs_exchange⟩
  have D_cleared_row : Def l.prog w K mg base 1 "cleared_row" ["row", "lead_row", "column", "last"] (spD K m_cleared_row) := ⟨_, _, ok_cleared_row B F_cleared_row, PySem.W.mg_of X G a11, k11, b_cleared_row⟩
  have D_Stairs_step_down : MDef l.prog w K mg base 2 C_Stairs "step_down" ["self", "column"] (spM K C_Stairs ["rows", "leads", "last"] m_Stairs_step_down) := ⟨_, _, ok_Stairs_step_down B D_Stairs_place_of_lead D_Stairs_exchange D_cleared_row K_Stairs F_Stairs_step_down, ⟨a12, i12, k12⟩, b_Stairs_step_down⟩
  have D_Stairs___init__ : KDef l.prog w K mg base 3 C_Stairs "Stairs" ["self", "rows"] (spM K C_Stairs ["rows", "leads", "last"] m_Stairs___init__) := ⟨_, _, ok_Stairs___init__ B D_Stairs_step_down K_Stairs F_Stairs___init__, ⟨mk_Stairs, a13, i13, kc_Stairs⟩, PySem.W.mg_of X G aC_Stairs, b_Stairs___init__⟩
  have D_stairs_of : Def l.prog w K mg base 5 "stairs_of" ["table"] (spO K C_Stairs ["rows", "leads", "last"] m_stairs_of) := ⟨_, _, ok_stairs_of B D_whole_row D_Stairs___init__ K_Stairs F_stairs_of, PySem.W.mg_of X G a14, k14, b_stairs_of⟩
  have D_fraction : Def l.prog w K mg base 2 "fraction" ["top", "bottom"] (spD K m_fraction) := ⟨_, _, ok_fraction B D_greatest_divisor F_fraction, PySem.W.mg_of X G a15, k15, b_fraction⟩
  have D_determinant : Def l.prog w K mg base 6 "determinant" ["table"] (spD K m_determinant) := ⟨_, _, ok_determinant B D_stairs_of D_common_bottom D_fraction C_NOUGHT K_Stairs F_determinant, PySem.W.mg_of X G a16, k16, b_determinant⟩
  have D__law_whole : Def l.prog w K mg base 1 "_law_whole" ["_law_found"] (spD K m__law_whole) := ⟨_, _, ok__law_whole B F__law_whole, PySem.W.mg_of X G a17, k17, b__law_whole⟩
  have D__law_orders : Def l.prog w K mg base 1 "_law_orders" ["_law_many"] (spD K m__law_orders) := ⟨_, _, ok__law_orders B F__law_orders, PySem.W.mg_of X G a18, k18, b__law_orders⟩
  have D__law_odd : Def l.prog w K mg base 1 "_law_odd" ["_law_order"] (spD K m__law_odd) := ⟨_, _, ok__law_odd B F__law_odd, PySem.W.mg_of X G a19, k19, b__law_odd⟩
  have D__law_due : Def l.prog w K mg base 3 "_law_due" ["_law_table_here"] (spD K m__law_due) := ⟨_, _, ok__law_due B D__law_orders D__law_odd D__law_fraction F__law_due, PySem.W.mg_of X G a20, k20, b__law_due⟩
  exact (ok_law B D__law_table D_determinant D__law_whole D__law_due F_law).imp (fun vs H Q E h => law_imp law_true h)
theorem walk {l : PySem.W.OpenLaw} {q : Program} {loose : List Str} {XP : (Str → Option Value) → Heap → Prop} {YP : World → Heap → Prop} {d : DefRec} {K : Params → PySem.W.Frag} (hn : l.most = some 63) (hdf : d.params.defaults = [])
    (hY : ∀ (w : World) (h : Heap), YP w h → (K w.params).In h)
    (F : ∀ (w : World) (mg : Str → Option Value) (fa : Addr) (h : Heap), (K w.params).In h → h.Ns mainGlobals mg → mg d.name = some (.ref fa) →
      ∃ fd : FuncData, (∀ (s : Shared) (u : Value), BindsTo s fd ⟨[u], []⟩ [("_law_script", u)]) ∧ ∀ base : Heap, (K w.params).In base → base.Ns mainGlobals mg → FnOk l.prog w (K w.params) mg base CX0 7 fa fd ["_law_script"] (spLaw (K w.params))) :
    PySem.W.WalkO q loose XP YP l.row.toRowW d [] (fun f vs => PySem.call f vs) :=
  L2.walk_of (n := 63) (k := 7) (x := "_law_script") (CX := fun _ => CX0) (sp := fun w => spLaw (K w.params)) hn (by decide) hdf ⟨rfl, by decide, by decide⟩ hY F (fun _ _ a ns hl _ hS => ⟨a, ns, rfl, hS, hl, fun _ => rfl⟩) fun _ _ _ _ _ z => z
end K05
open PySem PySem.W PyProof.Rows
set_option maxRecDepth 100000 in
set_option maxHeartbeats 0 in
theorem PySem.Challenge.cw_trialfield_k05_determinant_holds : PySem.Challenge.rw_trialfield_k05_determinant.Holds := by
  w_on; o_law; k_head; (case hw => w_witness2)
  k_fill
  refine K05.walk (l := PySem.Challenge.rw_trialfield_k05_determinant) rfl rfl (fun w h Y => PySem.W.kIn_of Y) ?F
  case F =>
    intro w mg fa h KX G hmg
    refine' K05.all_mk KX G hmg ?aC_Stairs ?pg_Stairs ?hd_Stairs ?po_Stairs ?sa_Stairs ?mk_Stairs ?kc_Stairs ?n_Stairs_rows ?n_Stairs_leads ?n_Stairs_last ?a1 ?l1 ?c1 ?k1 ?a2 ?l2 ?c2 ?k2 ?a3 ?l3 ?c3 ?k3 ?a4 ?l4 ?c4 ?k4 ?a5 ?l5 ?c5 ?k5 ?a6 ?l6 ?c6 ?k6 ?a7 ?l7 ?c7 ?k7 ?a8 ?l8 ?c8 ?k8 ?a9 ?i9 ?l9 ?c9 ?k9 ?a10 ?i10 ?l10 ?c10 ?k10 ?a11 ?l11 ?c11 ?k11 ?a12 ?i12 ?l12 ?c12 ?k12 ?a13 ?i13 ?l13 ?c13 ?k13 ?a14 ?l14 ?c14 ?k14 ?a15 ?l15 ?c15 ?k15 ?a16 ?l16 ?c16 ?k16 ?a17 ?l17 ?c17 ?k17 ?a18 ?l18 ?c18 ?k18 ?a19 ?l19 ?c19 ?k19 ?a20 ?l20 ?c20 ?k20 ?a21 ?l21 ?c21 ?k21 ?a_NOUGHT ?l_NOUGHT ?z0 ?z1 ?z2 ?z3 ?z4 ?z5 ?z6 ?z7 ?z8
    (case aC_Stairs => k_is)
    (case pg_Stairs => k_is)
    (case hd_Stairs => k_is)
    (case po_Stairs => k_is)
    (case sa_Stairs => k_is)
    (case mk_Stairs => k_is)
    (case kc_Stairs => k_is)
    (case n_Stairs_rows => k_is)
    (case n_Stairs_leads => k_is)
    (case n_Stairs_last => k_is)
    (case a1 => k_is)
    (case l1 => k_is)
    (case c1 => k_is)
    (case k1 => k_is)
    (case a2 => k_is)
    (case l2 => k_is)
    (case c2 => k_is)
    (case k2 => k_is)
    (case a3 => k_is)
    (case l3 => k_is)
    (case c3 => k_is)
    (case k3 => k_is)
    (case a4 => k_is)
    (case l4 => k_is)
    (case c4 => k_is)
    (case k4 => k_is)
    (case a5 => k_is)
    (case l5 => k_is)
    (case c5 => k_is)
    (case k5 => k_is)
    (case a6 => k_is)
    (case l6 => k_is)
    (case c6 => k_is)
    (case k6 => k_is)
    (case a7 => k_is)
    (case l7 => k_is)
    (case c7 => k_is)
    (case k7 => k_is)
    (case a8 => k_is)
    (case l8 => k_is)
    (case c8 => k_is)
    (case k8 => k_is)
    (case a9 => k_is)
    (case i9 => k_is)
    (case l9 => k_is)
    (case c9 => k_is)
    (case k9 => k_is)
    (case a10 => k_is)
    (case i10 => k_is)
    (case l10 => k_is)
    (case c10 => k_is)
    (case k10 => k_is)
    (case a11 => k_is)
    (case l11 => k_is)
    (case c11 => k_is)
    (case k11 => k_is)
    (case a12 => k_is)
    (case i12 => k_is)
    (case l12 => k_is)
    (case c12 => k_is)
    (case k12 => k_is)
    (case a13 => k_is)
    (case i13 => k_is)
    (case l13 => k_is)
    (case c13 => k_is)
    (case k13 => k_is)
    (case a14 => k_is)
    (case l14 => k_is)
    (case c14 => k_is)
    (case k14 => k_is)
    (case a15 => k_is)
    (case l15 => k_is)
    (case c15 => k_is)
    (case k15 => k_is)
    (case a16 => k_is)
    (case l16 => k_is)
    (case c16 => k_is)
    (case k16 => k_is)
    (case a17 => k_is)
    (case l17 => k_is)
    (case c17 => k_is)
    (case k17 => k_is)
    (case a18 => k_is)
    (case l18 => k_is)
    (case c18 => k_is)
    (case k18 => k_is)
    (case a19 => k_is)
    (case l19 => k_is)
    (case c19 => k_is)
    (case k19 => k_is)
    (case a20 => k_is)
    (case l20 => k_is)
    (case c20 => k_is)
    (case k20 => k_is)
    (case a21 => k_is)
    (case l21 => k_is)
    (case c21 => k_is)
    (case k21 => k_is)
    (case a_NOUGHT => k_is)
    (case l_NOUGHT => k_is)
    (case z0 => k_is)
    (case z1 => k_is)
    (case z2 => k_is)
    (case z3 => k_is)
    (case z4 => k_is)
    (case z5 => k_is)
    (case z6 => k_is)
    (case z7 => k_is)
    (case z8 => k_is)
