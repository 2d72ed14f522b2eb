import PyProof.Rows.All
import Wide.All
import OpenK.AllK
import Wide.FinOn
import Lean
import PyProof.EqAt
import PyProof.EqKinds
import PyProof.TupleCall
import PySem.Challenge.RW_trialfield_k06_whole_determinants
set_option Elab.async false
set_option linter.all false
set_option maxRecDepth 100000
set_option maxHeartbeats 4000000
namespace L2
open PySem PySem.Spec PyProof.Rows
abbrev Key:=Sum Int Str
def keyIs:Key->Value->Bool
  | .inl k,v=>Value.isInt k v
  | .inr x,v=>Value.isStrOf x v
def keyH(w:World):Key->Int
  | .inl k=>hashInt k
  | .inr x=>hashStr w x
theorem keyIs_shape:∀ {k:Key} {v:Value},keyIs k v=true->(∃i t,k=Sum.inl i/\v=Value.int i t)\/(∃x t,k=Sum.inr x/\v=Value.str x t)
  | .inl i,v,h=>by
    obtain ⟨t,e⟩:=Value.isInt_shape (k:=i) (v:=v) h
    exact .inl ⟨i,t,rfl,e⟩
  | .inr x,v,h=>by
    obtain ⟨t,e⟩:=Value.isStrOf_shape (x:=x) (v:=v) h
    exact .inr ⟨x,t,rfl,e⟩
theorem key_ll(a b:Int):decide ((Sum.inl a:Key)=Sum.inl b)=(a==b):=by
  by_cases e:a=b
  . subst e;simp
  . have h:¬(Sum.inl a:Key)=Sum.inl b:=fun q=>e (Sum.inl.inj q)
    rw [decide_eq_false h]
    exact (beq_eq_false_iff_ne.mpr e).symm
theorem key_rr(a b:Str):decide ((Sum.inr a:Key)=Sum.inr b)=decide (a=b):=by
  by_cases e:a=b
  . subst e;simp
  . have h:¬(Sum.inr a:Key)=Sum.inr b:=fun q=>e (Sum.inr.inj q)
    rw [decide_eq_false h,decide_eq_false e]
theorem key_lr(a:Int)(b:Str):decide ((Sum.inl a:Key)=Sum.inr b)=false:=decide_eq_false (fun q=>nomatch q)
theorem key_rl(a:Str)(b:Int):decide ((Sum.inr a:Key)=Sum.inl b)=false:=decide_eq_false (fun q=>nomatch q)
def mixKind(prog:Program)(w:World):PySem.KeyKind prog w Key where
  is:=keyIs
  hash:=keyH w
  inj:=fun v a b ha hb=>by
    rcases keyIs_shape ha with ⟨i,t,rfl,rfl⟩ | ⟨x,t,rfl,rfl⟩
    . rcases keyIs_shape hb with ⟨j,u,rfl,e⟩ | ⟨y,u,rfl,e⟩
      . injection e with e1 _;rw [e1]
      . exact nomatch e
    . rcases keyIs_shape hb with ⟨j,u,rfl,e⟩ | ⟨y,u,rfl,e⟩
      . exact nomatch e
      . injection e with e1 _;rw [e1]
  byValue:=fun k v h=>by
    rcases keyIs_shape h with ⟨i,t,rfl,rfl⟩ | ⟨x,t,rfl,rfl⟩ <;> rfl
  pyHash:=fun hv h=>by
    rcases keyIs_shape hv with ⟨i,t,rfl,rfl⟩ | ⟨x,t,rfl,rfl⟩
    . exact wpAny_pyHash_int h
    . exact wpAny_pyHash_str h
  eqBool:=fun hu hv h=>by
    rcases keyIs_shape hu with ⟨i,t,rfl,rfl⟩ | ⟨x,t,rfl,rfl⟩
    . rcases keyIs_shape hv with ⟨j,u,rfl,rfl⟩ | ⟨y,u,rfl,rfl⟩
      . rw [key_ll] at h;exact wpAny_eqBool_int h
      . rw [key_lr] at h;exact SeqAt.EqAt.int_str i t y u _ _ _ _ h
    . rcases keyIs_shape hv with ⟨j,u,rfl,rfl⟩ | ⟨y,u,rfl,rfl⟩
      . rw [key_rl] at h;exact SeqAt.EqAt.str_int x t j u _ _ _ _ h
      . rw [key_rr] at h;exact wpAny_eqBool_str h
  «strs» := fun k x t v h => by
    rcases keyIs_shape h with ⟨i,u,rfl,e⟩ | ⟨y,u,rfl,e⟩
    . exact nomatch e
    . injection e with e1 _
      subst e1
      cases v <;> rfl
end L2
namespace L2
open PySem PySem.Spec PyProof.Rows
inductive V where
  | non | bl (b:Bool) | int (i:Int) | str (x:Str) | byt (b:Array UInt8) | flt (b:UInt64) | ref (a:Addr) | ty (n:String)
  deriving DecidableEq
def RelV:V->Value->Prop
  | .non,u=>u=Value.none
  | .bl b,u=>u=Value.bool b
  | .int i,u=>∃t,u=Value.int i t
  | .str x,u=>∃t,u=Value.str x t
  | .byt b,u=>∃t,u=Value.bytes b t
  | .flt b,u=>∃t,u=Value.float b t
  | .ref a,u=>u=Value.ref a
  | .ty n,u=>u=Value.type n
abbrev Vals:List V->List Value->Prop:=Paired RelV
theorem Vals.length{xs:List V}{us:List Value}(r:Vals xs us):xs.length=us.length:=Paired.length r
theorem Vals.get:∀ {xs:List V} {us:List Value} {i:Nat} {x:V},Vals xs us->xs[i]? = some x->∃u,us[i]? = some u/\RelV x u
  | _,_,_,_, .nil,e=>by simp at e
  | _,_,0,_, .cons r _,e=>by simp at e;subst e;exact ⟨_,rfl,r⟩
  | _,_,i+1,x, .cons _ t,e=>by
    obtain ⟨u,h1,h2⟩:=Vals.get (i:=i) (x:=x) t (by simpa using e)
    exact ⟨u,by simpa using h1,h2⟩
theorem Vals.set{x:V}{u:Value}(r:RelV x u):∀ {xs:List V} {us:List Value} (i:Nat),Vals xs us->Vals (xs.set i x) (us.set i u)
  | _,_,_, .nil=> .nil
  | _,_,0, .cons _ t=> .cons r t
  | _,_,i+1, .cons q t=> .cons q (Vals.set r i t)
theorem Vals.append:∀ {xs ys:List V} {us ws:List Value},Vals xs us->Vals ys ws->Vals (xs++ys) (us++ws)
  | _,_,_,_, .nil,s=>s
  | _,_,_,_, .cons r t,s=> .cons r (Vals.append t s)
theorem Vals.take:∀ {xs:List V} {us:List Value} (n:Nat),Vals xs us->Vals (xs.take n) (us.take n)
  | _,_,0,_=> .nil
  | _,_,_+1, .nil=> .nil
  | _,_,n+1, .cons r t=> .cons r (Vals.take n t)
theorem Vals.drop:∀ {xs:List V} {us:List Value} (n:Nat),Vals xs us->Vals (xs.drop n) (us.drop n)
  | _,_,0,r=>r
  | _,_,_+1, .nil=> .nil
  | _,_,n+1, .cons _ t=>Vals.drop n t
theorem Vals.none_of:∀ {xs:List V} {us:List Value} {i:Nat},Vals xs us->xs[i]? = none->us[i]? = none:=fun {xs us i} r e=>by
  have h1:=r.length
  have h2:xs.length<=i:=List.getElem?_eq_none_iff.mp e
  exact List.getElem?_eq_none_iff.mpr (by omega)
def RelO:Option V->Option Value->Prop
  | some v,some u=>RelV v u
  | none,none=>True
  | _,_=>False
def KV{κ:Type}:List (κ×V)->List (κ×Value)->Prop:=Paired fun (p:κ×V) (q:κ×Value)=>p.1=q.1/\RelV p.2 q.2
def kV:Key->V
  | .inl i=> .int i
  | .inr x=> .str x
inductive HO where
    | lst (xs:List V)
    | tup (xs:List V)
    | dK (kvs:List (Key×V)) | dT (kvs:List (List Key×V))
    | set (S:Int->Bool) (n:Nat)
    | ins (C dx:Addr) (fs:List (Str×V))
    | own (x:Addr)
    | xd (fs:List (Str×V))
    | met (f x:Addr)
    | rng (lo hi:Int)
    | frz (o:Obj) (u:HO)
    | tbl (ps:Array Value)
    | ext (φ:Heap->Prop)
abbrev Hp:=Addr->Option HO
def upd(H:Hp)(a:Addr)(o:HO):Hp:=fun b=>if b=a then some o else H b
theorem upd_same{H:Hp}{a:Addr}{o:HO}:upd H a o a=some o:=by unfold upd;rw [if_pos rfl]
theorem upd_ne{H:Hp}{a b:Addr}{o:HO}(h:b≠a):upd H a o b=H b:=by unfold upd;rw [if_neg h]
theorem ne_of_none{H:Hp}{a b:Addr}{o:HO}(h:H a=some o)(h':H b=none):a≠b:=by
  intro e;subst e;rw [h] at h';cases h'
section
variable (P:Program) (w:World)
def ObjOk(H:Hp)(h:Heap)(a:Addr):HO->Prop
  | .lst xs=>xs.length<=sizeLine/\∃(its:List Value) (n:Nat),Vals xs its/\h.get? a=some {cls:= .type "list",data:= .seq its.toArray n}
  | .tup xs=>xs.length<=sizeLine/\∃its:List Value,Vals xs its/\IsTup h a its.toArray
  | .dK kvs=>kvs.length<=sizeLine/\(a==sysModules)=false/\∃vs,KV kvs vs/\h.DictOf (mixKind P w) a vs
  | .dT kvs => kvs.length <= sizeLine /\ (a == sysModules) = false /\ ∃ xs : List (List Key × Addr × Value),
      Paired (fun (p:List Key×V) (q:List Key×Addr×Value)=>p.1=q.1/\H q.2.1=some (.tup (p.1.map kV))/\RelV p.2 q.2.2) kvs xs /\
      ∃o es ep,h.get? a=some o/\o.ExactDict/\o.data = .dict es ep/\es.toList=xs.map (entryOfKey (tupleKind (mixKind P w)))/\(xs.map (·.1)).Nodup
  | .set S n=>h.SetOf (intKind P w) a S n
  | .ins C dx fs => H dx = some (.own a) /\ fs.length <= 1000 /\ dx ≠ a /\ h.get? a = some (PySem.W.instObj C dx) /\
      ∃mA,h.Ns1 dx mA/\(∀f,RelO (fs.lookup f) (mA f))/\PySem.Within mA (fs.map (·.1))
  | .own _=>∃o,h.get? a=some o
  | .xd fs=>∃mA,h.Ns1 a mA/\∀f,RelO (fs.lookup f) (mA f)
  | .rng lo hi=>∃t u v,h.get? a=some {cls:= .type "range",data:= .fields #[.int lo t, .int hi u, .int 1 v]}
  | .frz o u=>h.get? a=some o/\ObjOk H h a u
  | .tbl ps=>h.get? a=some {cls:= .none,data:= .fields ps}
  | .met f x=>h.get? a=some (PySem.W.methodObj (.ref f) (.ref x))
  | .ext φ=>φ h/\(∃o,h.get? a=some o)/\∀h1 h2:Heap,φ h1->(∀o,h1.get? a=some o->h2.get? a=some o)->φ h2
def HOk(H:Hp)(h:Heap):Prop:=∀a o,H a=some o->ObjOk P w H h a o
end
section
variable {P:Program} {w:World} {H H':Hp} {h h':Heap} {a:Addr} {o:HO}
theorem ObjOk.lt(x:ObjOk P w H h a o):a<h.objs.size:=by
  cases o with
  | lst xs=>obtain ⟨_,_,_,_,e⟩:=x;exact Heap.lt_size e
  | tup xs=>obtain ⟨_,_,_,p⟩:=x;exact p.lt
  | dK kvs=>obtain ⟨_,_,_,_,o,_,_,e,_⟩:=x;exact Heap.lt_size e
  | dT kvs=>obtain ⟨_,_,_,_,o,_,_,e,_⟩:=x;exact Heap.lt_size e
  | set S n=>obtain ⟨o,_,_,_,e,_⟩:=x;exact Heap.lt_size e
  | ins C dx fs=>obtain ⟨_,_,_,e,_⟩:=x;exact Heap.lt_size e
  | own y=>obtain ⟨_,e⟩:=x;exact Heap.lt_size e
  | xd fs=>obtain ⟨_,⟨_,_,_,e,_⟩,_⟩:=x;exact Heap.lt_size e
  | rng lo hi=>obtain ⟨_,_,_,e⟩:=x;exact Heap.lt_size e
  | frz ob u=>obtain ⟨e,_⟩:=x;exact Heap.lt_size e
  | tbl ps=>exact Heap.lt_size (show h.get? a=some _ from x)
  | met f y=>exact Heap.lt_size (show h.get? a=some _ from x)
  | ext φ=>obtain ⟨_,⟨_,e⟩,_⟩:=x;exact Heap.lt_size e
theorem Paired.mapP{α β:Type}{F G:α->β->Prop}:∀ {l₁:List α} {l₂:List β},Paired F l₁ l₂->(∀a b,F a b->G a b)->Paired G l₁ l₂
  | _,_, .nil,_=> .nil
  | _,_, .cons r t,f=> .cons (f _ _ r) (Paired.mapP t f)
theorem ObjOk.stay (x : ObjOk P w H h a o) (k : ∀ b u, (b = a \/ H b = some (.own a)) -> h.get? b = some u -> h'.get? b = some u)
    (ho:∀b,H b=some (.own a)->H' b=some (.own a)) (ht:∀b xs,H b=some (.tup xs)->H' b=some (.tup xs)):ObjOk P w H' h' a o:=by
  induction o with
  | lst xs=>obtain ⟨z,its,n,r,e⟩:=x;exact ⟨z,its,n,r,k _ _ (.inl rfl) e⟩
  | tup xs=>obtain ⟨z,its,r,ob,e,c⟩:=x;exact ⟨z,its,r,ob,k _ _ (.inl rfl) e,c⟩
  | dK kvs=>obtain ⟨z,y,vs,r,ob,es,ep,e,c⟩:=x;exact ⟨z,y,vs,r,ob,es,ep,k _ _ (.inl rfl) e,c⟩
  | dT kvs=>
    obtain ⟨z,y,xs,r,ob,es,ep,e,c⟩:=x
    exact ⟨z,y,xs,Paired.mapP r fun p q z=>⟨z.1,ht _ _ z.2.1,z.2.2⟩,ob,es,ep,k _ _ (.inl rfl) e,c⟩
  | set S n=>obtain ⟨ob,es,ep,t,e,c⟩:=x;exact ⟨ob,es,ep,t,k _ _ (.inl rfl) e,c⟩
  | ins C dx fs=>
    obtain ⟨d,z,ne,e,mA,⟨od,es,ep,e2,c⟩,r⟩:=x
    exact ⟨ho _ d,z,ne,k _ _ (.inl rfl) e,mA,⟨od,es,ep,k _ _ (.inr d) e2,c⟩,r⟩
  | own y=>obtain ⟨ob,e⟩:=x;exact ⟨ob,k _ _ (.inl rfl) e⟩
  | xd fs=>obtain ⟨mA,⟨od,es,ep,e,c⟩,r⟩:=x;exact ⟨mA,⟨od,es,ep,k _ _ (.inl rfl) e,c⟩,r⟩
  | rng lo hi=>obtain ⟨t,u,v,e⟩:=x;exact ⟨t,u,v,k _ _ (.inl rfl) e⟩
  | frz ob u ih=>obtain ⟨e,q⟩:=x;exact ⟨k _ _ (.inl rfl) e,ih q⟩
  | tbl ps=>
    have e:h.get? a=some {cls:= .none,data:= .fields ps}:=x
    show h'.get? a=some {cls:= .none,data:= .fields ps}
    exact k a _ (.inl rfl) e
  | met f y=>
    have e:h.get? a=some (PySem.W.methodObj (.ref f) (.ref y)):=x
    show h'.get? a=some (PySem.W.methodObj (.ref f) (.ref y))
    exact k a _ (.inl rfl) e
  | ext φ=>obtain ⟨p,⟨o,e⟩,st⟩:=x;exact ⟨st _ _ p fun o q=>k _ _ (.inl rfl) q,⟨o,k _ _ (.inl rfl) e⟩,st⟩
theorem HOk.lt(x:HOk P w H h)(e:H a=some o):a<h.objs.size:=(x a o e).lt
theorem HOk.fresh(x:HOk P w H h)(e:h.objs.size<=a):H a=none:=by
  cases q:H a with
  | none=>rfl
  | some u=>exact absurd (Nat.lt_of_lt_of_le (x.lt q) e) (Nat.lt_irrefl _)
theorem HOk.kept(x:HOk P w H h)(k:∀b u,h.get? b=some u->h'.get? b=some u):HOk P w H h':=fun a o e=>
  (x a o e).stay (fun b u _ q=>k b u q) (fun _ q=>q) fun _ _ q=>q
theorem HOk.laid(x:HOk P w H h)(k:∀b u,h.get? b=some u->h'.get? b=some u)(hp:h.objs.size<=a)(new:ObjOk P w (upd H a o) h' a o):HOk P w (upd H a o) h':=fun b u e=>by
  have hn:=x.fresh hp
  by_cases hb:b=a
  . subst hb;rw [upd_same] at e;cases e;exact new
  . rw [upd_ne hb] at e
    exact (x b u e).stay (fun c v _ q=>k c v q) (fun c q=>by rw [upd_ne (ne_of_none q hn)];exact q) fun c xs q=>by rw [upd_ne (ne_of_none q hn)];exact q
end
def Rd(H:Hp)(a:Addr)(u:HO):Prop:=H a=some u\/∃o,H a=some (.frz o u)
theorem Rd.of{H:Hp}{a:Addr}{u:HO}(h:H a=some u):Rd H a u:= .inl h
theorem Rd.ok{P:Program}{w:World}{H:Hp}{h:Heap}{a:Addr}{u:HO}(r:Rd H a u)(x:HOk P w H h):ObjOk P w H h a u:=by
  rcases r with r | ⟨o,r⟩
  . exact x a u r
  . obtain ⟨_,q⟩:=x a _ r
    exact q
def Mut:Option HO->Prop
  | some (.lst _)=>True
  | some (.dK _)=>True
  | some (.dT _)=>True
  | some (.set _ _)=>True
  | some (.ins _ _ _)=>True
  | some (.ext _)=>True
  | _=>False
section
variable {P:Program} {w:World} {H:Hp} {h h':Heap} {x e:Addr} {o':HO}
theorem HOk.write (ok : HOk P w H h) (mu : Mut (H x)) (he : e = x \/ H e = some (.own x)) (k : ∀ b u, b ≠ e -> h.get? b = some u -> h'.get? b = some u) (heo : ∃ u, h'.get? e = some u)
    (new:ObjOk P w (upd H x o') h' x o'):HOk P w (upd H x o') h':=fun b u q=>by
  have nown:∀c y,H c=some (.own y)->c≠x:=fun c y r z=>by subst z;rw [r] at mu;exact mu
  have ntup:∀c xs,H c=some (.tup xs)->c≠x:=fun c xs r z=>by subst z;rw [r] at mu;exact mu
  by_cases hb:b=x
  . subst hb;rw [upd_same] at q;cases q;exact new
  . rw [upd_ne hb] at q
    by_cases hbe:b=e
    . have q' : H b = some (.own x) := by
        rcases he with z | z
        . exact absurd (hbe.trans z) hb
        . rw [hbe];exact z
      rw [q] at q';cases q'
      obtain ⟨v,hv⟩:=heo
      exact ⟨v,by rw [hbe];exact hv⟩
    . refine (ok b u q).stay (fun c v hc r=>k c v ?_ r) (fun c r=>by rw [upd_ne (nown c b r)];exact r) fun c xs r=>by rw [upd_ne (ntup c xs r)];exact r
      rcases hc with rfl | hc
      . exact hbe
      . rintro rfl
        rcases he with z | z
        . exact nown c b hc z
        . rw [hc] at z;cases z;exact hb rfl
end
structure Un (fs ex:List Addr) (H H':Hp) (h h':Heap):Prop where
  keep:∀b o,h.get? b=some o->H b=none->b ∉ fs->b ∉ ex->h'.get? b=some o
  slot:∀b o,h.get? b=some o->H b=none->b ∈ fs->b ∉ ex->∃sl,h'.get? b=some {o with slots:=sl}
  free:∀b o,h.get? b=some o->H b=none->b ∉ ex->H' b=none
  there:∀b o,h.get? b=some o->b ∉ ex->∃o',h'.get? b=some o'
  tups:∀b xs,H b=some (.tup xs)->H' b=some (.tup xs)
  frzs:∀b o u,H b=some (.frz o u)->H' b=some (.frz o u)
  tbls:∀b ps,H b=some (.tbl ps)->∃more,H' b=some (.tbl (ps++more))
section
variable {fs fs' ex ex':List Addr} {H H1 H2:Hp} {h h1 h2 h':Heap} {a x e:Addr} {o:HO}
theorem Un.any(u:Un fs ex H H1 h h1){b:Addr}{ob:Obj}(q:h.get? b=some ob)(n:H b=none)(hx:b ∉ ex):∃sl,h1.get? b=some {ob with slots:=sl}:=by
  by_cases hb:b ∈ fs
  . exact u.slot b ob q n hb hx
  . exact ⟨ob.slots,u.keep b ob q n hb hx⟩
theorem Un.trans(a:Un fs ex H H1 h h1)(b:Un fs ex H1 H2 h1 h2):Un fs ex H H2 h h2 where
  keep:=fun c ob q n hc hx=>b.keep c ob (a.keep c ob q n hc hx) (a.free c ob q n hx) hc hx
  slot:=fun c ob q n hc hx=>by
    obtain ⟨sl,e1⟩:=a.slot c ob q n hc hx
    obtain ⟨sl',e2⟩:=b.slot c _ e1 (a.free c ob q n hx) hc hx
    exact ⟨sl',e2⟩
  free:=fun c ob q n hx=>by
    obtain ⟨o',e1⟩:=a.there c ob q hx
    exact b.free c o' e1 (a.free c ob q n hx) hx
  there:=fun c ob q hx=>by
    obtain ⟨o',e1⟩:=a.there c ob q hx
    exact b.there c o' e1 hx
  tups:=fun c xs q=>b.tups c xs (a.tups c xs q)
  frzs:=fun c ob xs q=>b.frzs c ob xs (a.frzs c ob xs q)
  tbls:=fun c ps q=>by
    obtain ⟨m1,e1⟩:=a.tbls c ps q
    obtain ⟨m2,e2⟩:=b.tbls c _ e1
    exact ⟨m1++m2,by rw [e2,Array.append_assoc]⟩
theorem Un.kept(k:∀b u,h.get? b=some u->h'.get? b=some u):Un fs ex H H h h' :=
  ⟨fun b ob q _ _ _=>k b ob q,fun b ob q _ _ _=>⟨ob.slots,k b ob q⟩,fun _ _ _ n _=>n,fun b ob q _=>⟨ob,k b ob q⟩,fun _ _ q=>q,fun _ _ _ q=>q,fun _ ps q=>⟨#[],by rw [q];simp⟩⟩
theorem Un.refl:Un fs ex H H h h:=Un.kept fun _ _ q=>q
theorem Un.laid(k:∀b u,h.get? b=some u->h'.get? b=some u)(hp:h.objs.size<=a)(hn:H a=none):Un fs ex H (upd H a o) h h' where
  keep:=fun b u q _ _ _=>k b u q
  slot:=fun b u q _ _ _=>⟨u.slots,k b u q⟩
  free:=fun b u q n _=>by rw [upd_ne (Nat.ne_of_lt (Nat.lt_of_lt_of_le (Heap.lt_size q) hp))];exact n
  there:=fun b u q _=>⟨u,k b u q⟩
  tups:=fun b xs q=>by rw [upd_ne (ne_of_none q hn)];exact q
  frzs:=fun b u xs q=>by rw [upd_ne (ne_of_none q hn)];exact q
  tbls:=fun b ps q=>⟨#[],by rw [upd_ne (ne_of_none q hn),q];simp⟩
theorem Un.write(mu:Mut (H x))(he:e=x\/H e=some (.own x))(k:∀b u,b≠e->h.get? b=some u->h'.get? b=some u)(heo:∃u,h'.get? e=some u):Un fs ex H (upd H x o) h h':=by
  have hx:∀b,H b=none->b≠x:=fun b n z=>by subst z;rw [n] at mu;exact mu
  have hb:∀b,H b=none->b≠e:=fun b n z=>by
    subst z
    rcases he with r | r
    . exact hx b n r
    . rw [n] at r;cases r
  have hm:∀b u,H b=some u->¬Mut (some u)->b≠x:=fun b u q nm z=>by subst z;rw [q] at mu;exact nm mu
  refine ⟨fun b u q n _ _=>k b u (hb b n) q,fun b u q n _ _=>⟨u.slots,k b u (hb b n) q⟩,fun b u q n _=>by rw [upd_ne (hx b n)];exact n,fun b u q _=> ?_,
    fun b xs q=>by rw [upd_ne (hm b _ q fun z=>z)];exact q,fun b u xs q=>by rw [upd_ne (hm b _ q fun z=>z)];exact q,fun b ps q=>⟨#[],by rw [upd_ne (hm b _ q fun z=>z),q];simp⟩⟩
  by_cases hbe:b=e
  . subst hbe;exact heo
  . exact ⟨u,k b u hbe q⟩
theorem Un.mono(u:Un fs ex H H1 h h1)(hs:∀b ∈ fs,b ∈ fs')(hx:∀b ∈ ex,b ∈ ex'):Un fs' ex' H H1 h h1:=
  ⟨fun b ob q n hb he=>u.keep b ob q n (fun z=>hb (hs b z)) fun z=>he (hx b z),fun _ _ q n _ he=>u.any q n fun z=>he (hx _ z),fun b ob q n he=>u.free b ob q n fun z=>he (hx b z),fun b ob q he=>u.there b ob q fun z=>he (hx b z),u.tups,u.frzs,u.tbls⟩
end
def trk(h:Heap)(H:Hp):List Addr:=(List.range h.objs.size).filter fun a=>(H a).isSome
def hidT(h:Heap)(H:Hp):Heap:=PySem.W.hideAll h (trk h H)
theorem hidT_size(h:Heap)(H:Hp):(hidT h H).objs.size=h.objs.size:=PySem.W.hideAll_size _ _
theorem hidT_get{h:Heap}{H:Hp}{b:Addr}{o:Obj}(e:h.get? b=some o)(n:H b=none):(hidT h H).get? b=some o:=
  PySem.W.hideAll_get _ e fun hm=>by
    have q:(H b).isSome=true:=(List.mem_filter.mp hm).2
    rw [n] at q;simp at q
theorem of_hidT{h:Heap}{H:Hp}{b:Addr}{o:Obj}(e:(hidT h H).get? b=some o):h.get? b=some o/\H b=none:=by
  have e':h.get? b=some o:=PySem.W.of_hideAll (trk h H) e
  refine ⟨e',?_⟩
  cases q:H b with
  | none=>rfl
  | some x=>
    have hm:b ∈ trk h H:=List.mem_filter.mpr ⟨List.mem_range.mpr (Heap.lt_size e'),by simp [q]⟩
    have z:(hidT h H).get? b=none:=PySem.W.hideAll_none (trk h H) hm
    rw [z] at e;cases e
def allNews(g h:Heap)(L:Addr):List (Addr×Obj):=(List.range h.objs.size).filterMap fun a=>if a=L\/(g.get? a).isSome=true then none else (h.get? a).map fun o=>(a,o)
def rest(g h:Heap)(L d:Addr):List (Addr×Obj):=(allNews g h L).filter fun p=>decide (p.1≠d)
end L2
namespace L2
open PySem PySem.Spec PyProof.Rows
structure Mod (K:PySem.W.Frag) (mg:Str->Option Value) (base:Heap):Prop where
  kin:K.In base
  glob:base.Ns mainGlobals mg
  blt:∃mb,base.Ns builtinsNs mb/\∀x:Str,x ≠ "__name__" -> mb x=bootBuiltins x
  nolimit:base.NoLimit
structure Cx where
  prog:Program
  w:World
  K:PySem.W.Frag
  mg:Str->Option Value
  base:Heap
  A:Around
  N:List Str
  s₀:Shared
  H₀:Hp
  env:Env
  outer:List Env
  stack:List Env
  ex:List Addr
  fn:Str->Bool
  calm:Bool
  pn:List (Addr×Obj)
  xe:Value->Shared->Prop
def frs(l:List Env):List Addr:=l.filterMap (·.frame)
abbrev Cx.fs (X:Cx):List Addr:=frs X.outer
def Vis(sc:Scope)(x:Str):Prop:=sc.names.lookup x=some .local\/sc.names.lookup x=some .cell\/sc.names.lookup x=some .free
def Loc(sc:Scope)(x:Str):Prop:=sc.names.lookup x=some .local\/sc.names.lookup x=some .cell
def Look(env:Env)(h:Heap)(m:Str->Option Value)(x:Str)(u:Value):Prop:=
  (env.kindOf x=some .local/\m x=some u)\/((env.kindOf x=some .cell\/env.kindOf x=some .free)/\∃c,env.cells.lookup x=some c/\h.IsCell c (some u))
structure Cx.Ok (X:Cx):Prop where
  mod:Mod X.K X.mg X.base
  kind:X.env.scope.kind = .function
  glob:X.env.globals=mainGlobals
  blt:X.env.builtins=builtinsNs
  above:X.s₀.heap.objs.size<=X.env.locals
  inj:∀x y c,X.env.cells.lookup x=some c->X.env.cells.lookup y=some c->x=y
  has:∀x,(X.env.kindOf x=some .cell\/X.env.kindOf x=some .free)->∃c,X.env.cells.lookup x=some c
  cab:∀x c,X.fn x=true->X.env.cells.lookup x=some c->X.s₀.heap.objs.size<=c
  hd:X.calm=true->X.A.handled=none
  frames:X.A.frames=some X.stack
  stk:X.stack=X.outer\/(X.stack=X.env::X.outer/\X.env.frame=some X.env.locals)
  exf:∀b ∈ X.ex,b≠X.env.locals/\∀x c,X.env.cells.lookup x=some c->c≠b
  bs:∀b o,X.base.get? b=some o->X.s₀.heap.get? b=some o/\X.H₀ b=none
  bsz:X.base.objs.size<=X.s₀.heap.objs.size
  noex:∀b o,X.base.get? b=some o->b ∉ X.ex
  exfs:∀b ∈ X.ex,b ∉ X.fs
  funs:X.s₀.heap.FunFrames X.base X.outer
  frf:∀b ∈ X.fs,X.H₀ b=none
structure Inv (X:Cx) (pins:List (Addr×Obj)) (σ:List (Option V)) (H:Hp) (s:Shared):Prop where
  ok:X.Ok
  os:s.os=X.s₀.os
  bare:AllBare s.gens
  base:Un X.fs X.ex X.H₀ H X.s₀.heap s.heap
  loc:∃m,s.heap.Ns X.env.locals m/\∀(i:Nat) (x:Str) (v:V),X.N[i]? = some x->σ[i]? = some (some v)->Vis X.env.scope x->∃u,RelV v u/\Look X.env s.heap m x u
  cell:∀x c,X.env.cells.lookup x=some c->∃v,s.heap.IsCell c v
  free:H X.env.locals=none
  freeC:∀x c,X.env.cells.lookup x=some c->H c=none
  pin:∀p ∈ X.pn++pins,s.heap.get? p.1=some p.2/\H p.1=none/\p.1≠X.env.locals/\p.1 ∉ X.fs/\∀v,p.2.data ≠ .cell v
  hok:HOk X.prog X.w H s.heap
  len:σ.length=X.N.length
section
variable {X:Cx} {pins:List (Addr×Obj)} {σ:List (Option V)} {H H':Hp} {s:Shared} {h':Heap}
theorem Cx.Ok.nofr(ok:X.Ok){b:Addr}{o:Obj}(e:X.base.get? b=some o):b ∉ X.fs:=fun hb=>by
  have:=(ok.funs.mem hb).1
  rw [e] at this;cases this
theorem Inv.bs(I:Inv X pins σ H s):∀b o,X.base.get? b=some o->s.heap.get? b=some o/\H b=none:=fun b o e=>
  ⟨I.base.keep b o (I.ok.bs b o e).1 (I.ok.bs b o e).2 (I.ok.nofr e) (I.ok.noex b o e),I.base.free b o (I.ok.bs b o e).1 (I.ok.bs b o e).2 (I.ok.noex b o e)⟩
theorem Inv.bk(I:Inv X pins σ H s):∀b o,X.base.get? b=some o->s.heap.get? b=some o:=fun b o e=>(I.bs b o e).1
theorem Inv.mod(I:Inv X pins σ H s):Mod X.K X.mg X.base:=I.ok.mod
theorem Inv.kIn(I:Inv X pins σ H s):X.K.In s.heap:=I.ok.mod.kin.keeps I.bk
theorem Inv.nolimit(I:Inv X pins σ H s):s.heap.NoLimit:=I.ok.mod.nolimit.keeps I.bk
theorem Inv.fr(I:Inv X pins σ H s):∃m,Fr X.base X.env.locals s.heap m:=
  let ⟨m,hn,_⟩:=I.loc
  ⟨m,hn,I.bk,Nat.le_trans I.ok.bsz I.ok.above⟩
theorem Inv.lt(I:Inv X pins σ H s):X.env.locals<s.heap.objs.size:=let ⟨_,hn,_⟩:=I.loc;hn.lt
theorem Inv.sz(I:Inv X pins σ H s):X.s₀.heap.objs.size<=s.heap.objs.size:=Nat.le_trans I.ok.above (Nat.le_of_lt I.lt)
theorem Inv.nofs(I:Inv X pins σ H s){a:Addr}(h:s.heap.objs.size<=a):a ∉ X.fs:=fun hb=>by
  obtain ⟨_,o,ho,_⟩:=I.ok.funs.mem hb
  exact absurd (Nat.lt_of_lt_of_le (Heap.lt_size ho) (Nat.le_trans I.sz h)) (Nat.lt_irrefl _)
theorem Inv.cne(I:Inv X pins σ H s):∀x c,X.env.cells.lookup x=some c->c≠X.env.locals:=fun x c e z=>by
  obtain ⟨v,o,ho,hd⟩:=I.cell x c e
  obtain ⟨m,⟨o',es,ep,ho',hd',_⟩,_⟩:=I.loc
  rw [z,ho'] at ho;cases ho;rw [hd'] at hd;cases hd
theorem Inv.funs(I:Inv X pins σ H s):s.heap.FunFrames X.base X.outer:=by
  have all:∀(l:List Env),(∀b ∈ frs l,b ∈ X.fs)->X.s₀.heap.FunFrames X.base l->s.heap.FunFrames X.base l:=by
    intro l
    induction l with
    | nil=>intro _ _;trivial
    | cons env r ih=>
      intro hs hl
      obtain ⟨hk,⟨L,o,hf,hn,ho,hd⟩,hr⟩:=hl
      have hL:L ∈ X.fs:=hs L (by unfold frs;rw [List.filterMap_cons,hf];exact List.mem_cons_self)
      obtain ⟨sl,e⟩:=I.base.slot L o ho (I.ok.frf L hL) hL fun z=>I.ok.exfs L z hL
      exact ⟨hk,⟨L,_,hf,hn,e,hd⟩,ih (fun b hb=>hs b (by unfold frs;rw [List.filterMap_cons,hf];exact List.mem_cons_of_mem _ hb)) hr⟩
  exact all X.outer (fun _ hb=>hb) I.ok.funs
theorem Inv.stack(I:Inv X pins σ H s):s.heap.FunFrames X.base X.stack:=by
  rcases I.ok.stk with e | ⟨e,hf⟩
  . rw [e];exact I.funs
  . rw [e]
    obtain ⟨m,hn,_⟩:=I.loc
    refine .cons (by rw [I.ok.kind];decide) hf hn ?_ I.funs
    exact Heap.get?_none_of_le (Nat.le_trans I.ok.bsz I.ok.above)
theorem Inv.stkSub(I:Inv X pins σ H s):∀b ∈ frs X.stack,b ∈ X.env.locals::X.fs:=fun b hb=>by
  rcases I.ok.stk with e | ⟨e,hf⟩
  . rw [e] at hb;exact List.mem_cons_of_mem _ hb
  . rw [e] at hb
    unfold frs at hb
    rw [List.filterMap_cons,hf] at hb
    exact hb
theorem Inv.stkFree(I:Inv X pins σ H s):∀b ∈ frs X.stack,H b=none:=fun b hb=>by
  rcases List.mem_cons.mp (I.stkSub b hb) with e | hb
  . rw [e];exact I.free
  . obtain ⟨_,o,ho,_⟩:=I.ok.funs.mem hb
    exact I.base.free b o ho (I.ok.frf b hb) fun z=>I.ok.exfs b z hb
theorem Inv.step {g' : Array GenState} {t' : Nat} {d' : Drawn} {ch : List Addr} (I : Inv X pins σ H s)
    (hch:∀b ∈ ch,(b ∈ X.ex\/X.s₀.heap.objs.size<=b)/\b≠X.env.locals/\(∀x c,X.env.cells.lookup x=some c->c≠b)/\∀p ∈ X.pn++pins,p.1≠b)
    (keep:∀b o,b≠X.env.locals->b ∉ X.fs->b ∉ ch->s.heap.get? b=some o->H b=none->h'.get? b=some o)
    (slot:∀b o,b≠X.env.locals->b ∈ X.fs->b ∉ ch->s.heap.get? b=some o->H b=none->∃sl,h'.get? b=some {o with slots:=sl}) (free:∀b o,b ∉ ch->s.heap.get? b=some o->H b=none->H' b=none)
    (there:∀b o,b ∉ ch->s.heap.get? b=some o->∃o',h'.get? b=some o')
    (tups:∀b xs,H b=some (.tup xs)->H' b=some (.tup xs)) (frzs:∀b o u,H b=some (.frz o u)->H' b=some (.frz o u)) (tbls:∀b ps,H b=some (.tbl ps)->∃more,H' b=some (.tbl (ps++more)))
    (ns:∀m,s.heap.Ns X.env.locals m->h'.Ns X.env.locals m) (hok:HOk X.prog X.w H' h') (hg:AllBare g') :
    Inv X pins σ H' {s with heap:=h',gens:=g',drawn:=d',toks:=t' }:=by
  have neL:∀b o,X.s₀.heap.get? b=some o->b≠X.env.locals:=fun b o e=>Nat.ne_of_lt (Nat.lt_of_lt_of_le (Heap.lt_size e) I.ok.above)
  have neC:∀b o,X.s₀.heap.get? b=some o->b ∉ X.ex->b ∉ ch:=fun b o e hx hb=>by
    rcases (hch b hb).1 with z | z
    . exact hx z
    . exact absurd (Nat.lt_of_lt_of_le (Heap.lt_size e) z) (Nat.lt_irrefl _)
  have cellK:∀x c,X.env.cells.lookup x=some c->∀v,s.heap.IsCell c v->h'.IsCell c v:=fun x c e v ⟨o,ho,hd⟩=>by
    have nch:c ∉ ch:=fun z=>(hch c z).2.2.1 x c e rfl
    by_cases hc:c ∈ X.fs
    . obtain ⟨sl,q⟩:=slot c o (I.cne x c e) hc nch ho (I.freeC x c e)
      exact ⟨_,q,hd⟩
    . exact ⟨o,keep c o (I.cne x c e) hc nch ho (I.freeC x c e),hd⟩
  refine ⟨I.ok,I.os,hg,⟨fun b o e n hb hx=> ?_,fun b o e n hb hx=> ?_,fun b o e n hx=> ?_,fun b o e hx=> ?_,fun b xs e=>tups b xs (I.base.tups b xs e),fun b o xs e=>frzs b o xs (I.base.frzs b o xs e),fun b ps e=> ?_⟩,?_,fun x c e=> ?_,?_,fun x c e=> ?_,fun p hp=> ?_,hok,I.len⟩
  . exact keep b o (neL b o e) hb (neC b o e hx) (I.base.keep b o e n hb hx) (I.base.free b o e n hx)
  . obtain ⟨sl,e1⟩:=I.base.slot b o e n hb hx
    obtain ⟨sl',e2⟩:=slot b _ (neL b o e) hb (neC b o e hx) e1 (I.base.free b o e n hx)
    exact ⟨sl',e2⟩
  . obtain ⟨o',e1⟩:=I.base.there b o e hx
    exact free b o' (neC b o e hx) e1 (I.base.free b o e n hx)
  . obtain ⟨o',e1⟩:=I.base.there b o e hx
    exact there b o' (neC b o e hx) e1
  . obtain ⟨m1,e1⟩:=I.base.tbls b ps e
    obtain ⟨m2,e2⟩:=tbls b _ e1
    exact ⟨m1++m2,by rw [e2,Array.append_assoc]⟩
  . obtain ⟨m,hn,hl⟩:=I.loc
    refine ⟨m,ns m hn,fun i x v e1 e2 e3=> ?_⟩
    obtain ⟨u,r,l⟩:=hl i x v e1 e2 e3
    refine ⟨u,r,?_⟩
    rcases l with l | ⟨k,c,e,z⟩
    . exact .inl l
    . exact .inr ⟨k,c,e,cellK x c e _ z⟩
  . obtain ⟨v,z⟩:=I.cell x c e
    exact ⟨v,cellK x c e v z⟩
  . obtain ⟨m,⟨o,_,_,ho,_⟩,_⟩:=I.loc
    exact free _ o (fun z=>(hch _ z).2.1 rfl) ho I.free
  . obtain ⟨v,o,ho,hd⟩:=I.cell x c e
    exact free c o (fun z=>(hch c z).2.2.1 x c e rfl) ho (I.freeC x c e)
  . obtain ⟨e,n,ne,nf,d⟩:=I.pin p hp
    have nch:p.1 ∉ ch:=fun z=>(hch p.1 z).2.2.2 p hp rfl
    exact ⟨keep p.1 p.2 ne nf nch e n,free p.1 p.2 nch e n,ne,nf,d⟩
theorem Inv.un{t':Nat}(I:Inv X pins σ H s)(u:Un X.fs [] H H' s.heap h')(hok:HOk X.prog X.w H' h'):Inv X pins σ H' {s with heap:=h',toks:=t' }:=by
  obtain ⟨m,⟨o,es,ep,ho,r⟩,_⟩:=id I.loc
  obtain ⟨sl,hL⟩:=u.any ho I.free (by simp)
  exact I.step (g':=s.gens) (d':=s.drawn) (ch:= []) (fun _ z=>nomatch z) (fun b o _ hb _ e n=>u.keep b o e n hb (by simp)) (fun b o _ hb _ e n=>u.slot b o e n hb (by simp)) (fun b o _ e n=>u.free b o e n (by simp)) (fun b o _ e=>u.there b o e (by simp)) u.tups u.frzs u.tbls (fun m' hm=>by
    obtain ⟨o',es',ep',ho',r'⟩:=hm
    rw [ho] at ho';cases ho'
    exact ⟨_,es',ep',hL,r'⟩) hok I.bare
theorem Inv.call {g' : Array GenState} {t' : Nat} {d' : Drawn} {ch : List Addr} (I : Inv X pins σ H s) (u : Un (frs X.stack) ch H H' s.heap h') (hok : HOk X.prog X.w H' h') (hg : AllBare g')
    (hch:∀b ∈ ch,(b ∈ X.ex\/X.s₀.heap.objs.size<=b)/\b≠X.env.locals/\(∀x c,X.env.cells.lookup x=some c->c≠b)/\∀p ∈ X.pn++pins,p.1≠b) :
    Inv X pins σ H' {s with heap:=h',gens:=g',drawn:=d',toks:=t' }:=by
  obtain ⟨m,⟨o,es,ep,ho,r⟩,_⟩:=id I.loc
  obtain ⟨sl,hL⟩:=u.any ho I.free fun z=>(hch _ z).2.1 rfl
  exact I.step (ch:=ch) hch (fun b o hL hb hc e n=>u.keep b o e n (fun z=>(List.mem_cons.mp (I.stkSub b z)).elim hL hb) hc) (fun b o _ _ hc e n=>u.any e n hc) (fun b o hc e n=>u.free b o e n hc) (fun b o hc e=>u.there b o e hc) u.tups u.frzs u.tbls (fun m' hm=>by
    obtain ⟨o',es',ep',ho',r'⟩:=hm
    rw [ho] at ho';cases ho'
    exact ⟨_,es',ep',hL,r'⟩) hok hg
theorem Inv.turned {t' : Nat} {it : Addr} (I : Inv X pins σ H s) (k : ∀ b o, b ≠ it -> s.heap.get? b = some o -> h'.get? b = some o) (hn : H it = none) (hL : it ≠ X.env.locals)
    (h1:it ∈ X.ex\/X.s₀.heap.objs.size<=it) (h2:∀x c,X.env.cells.lookup x=some c->c≠it) (h3:∀p ∈ X.pn++pins,p.1≠it):Inv X pins σ H {s with heap:=h',toks:=t' }:=by
  have nit:∀b u,H b=some u->b≠it:=fun b u e z=>by rw [z,hn] at e;cases e
  refine I.step (g':=s.gens) (d':=s.drawn) (ch:= [it]) (fun b hb=> ?_) (fun b o _ _ hc e _=>k b o (fun z=>hc (by simp [z])) e) (fun b o _ _ hc e _=>⟨o.slots,k b o (fun z=>hc (by simp [z])) e⟩) (fun _ _ _ _ n=>n)
    (fun b o hc e=>⟨o,k b o (fun z=>hc (by simp [z])) e⟩) (fun _ _ e=>e) (fun _ _ _ e=>e) (fun b ps e=>⟨#[],by rw [e];simp⟩) (fun m hm=> ?_) (fun b u e=> ?_) I.bare
  . have e:b=it:=by simpa using hb
    subst e
    exact ⟨h1,hL,h2,h3⟩
  . obtain ⟨o,es,ep,ho,r⟩:=hm
    exact ⟨o,es,ep,k _ o (Ne.symm hL) ho,r⟩
  . refine (I.hok b u e).stay (fun c v hc q=>k c v ?_ q) (fun _ q=>q) fun _ _ q=>q
    rcases hc with z | z
    . rw [z];exact nit b u e
    . exact nit c _ z
theorem Inv.tok(I:Inv X pins σ H s)(t:Nat):Inv X pins σ H {s with toks:=t}:=I.un (h':=s.heap) (t':=t) Un.refl I.hok
theorem Inv.kept{t':Nat}(I:Inv X pins σ H s)(k:∀b u,s.heap.get? b=some u->h'.get? b=some u):Inv X pins σ H {s with heap:=h',toks:=t' }:=I.un (Un.kept k) (I.hok.kept k)
theorem Inv.laid {a : Addr} {o : HO} {t' : Nat} (I : Inv X pins σ H s) (k : ∀ b u, s.heap.get? b = some u -> h'.get? b = some u) (hp : s.heap.objs.size <= a) (new : ObjOk X.prog X.w (upd H a o) h' a o) :
    Inv X pins σ (upd H a o) {s with heap:=h',toks:=t' }:=I.un (Un.laid k hp (I.hok.fresh hp)) (I.hok.laid k hp new)
theorem Inv.write {x e : Addr} {o : HO} {t' : Nat} (I : Inv X pins σ H s) (mu : Mut (H x)) (he : e = x \/ H e = some (.own x)) (k : ∀ b u, b ≠ e -> s.heap.get? b = some u -> h'.get? b = some u) (heo : ∃ u, h'.get? e = some u)
    (new:ObjOk X.prog X.w (upd H x o) h' x o):Inv X pins σ (upd H x o) {s with heap:=h',toks:=t' }:=I.un (Un.write mu he k heo) (I.hok.write mu he k heo new)
theorem Inv.weak{σ':List (Option V)}(I:Inv X pins σ H s)(hl:σ'.length=σ.length)(w:∀(i:Nat) v,σ'[i]? = some (some v)->σ[i]? = some (some v)):Inv X pins σ' H s:=
  ⟨I.ok,I.os,I.bare,I.base,let ⟨m,hn,hl'⟩:=I.loc;⟨m,hn,fun i x v e1 e2 e3=>hl' i x v e1 (w i v e2) e3⟩,I.cell,I.free,I.freeC,I.pin,I.hok,hl.trans I.len⟩
theorem Inv.pins_of{pins':List (Addr×Obj)}(I:Inv X pins σ H s)(h:∀p ∈ pins',s.heap.get? p.1=some p.2/\H p.1=none/\p.1≠X.env.locals/\p.1 ∉ X.fs/\∀v,p.2.data ≠ .cell v):Inv X pins' σ H s:=
  ⟨I.ok,I.os,I.bare,I.base,I.loc,I.cell,I.free,I.freeC,fun p hp=>(List.mem_append.mp hp).elim (fun z=>I.pin p (List.mem_append_left _ z)) (h p),I.hok,I.len⟩
theorem nodup_ix{N:List Str}(hN:N.Nodup){i j:Nat}{x:Str}(a:N[i]? = some x)(b:N[j]? = some x):i=j:=by
  obtain ⟨h1,e1⟩:=List.getElem?_eq_some_iff.mp a
  obtain ⟨h2,e2⟩:=List.getElem?_eq_some_iff.mp b
  exact (List.getElem_inj hN).mp (e1.trans e2.symm)
theorem store_ok2 {M : Model} {A : Around} {E : Value -> Shared -> Prop} {i : Nat} {x : Str} {v : V} {u : Value} {Q : Unit -> Shared -> Prop} (I : Inv X pins σ H s) (hN : X.N.Nodup) (hi : X.N[i]? = some x) (hx : Loc X.env.scope x) (r : RelV v u)
    (h:∀s',Inv X pins (σ.set i (some v)) H s'->(∃a,Heap.SameBut a s.heap s'.heap/\(a=X.env.locals\/X.env.cells.lookup x=some a))->Q () s') (hf:X.fn x=true\/X.env.scope.names.lookup x=some .local:=by first | exact .inl rfl | exact .inr rfl | assumption):wpAny M A (storeName X.env x u) Q E s:=by
  obtain ⟨m,hn,hl⟩:=id I.loc
  have hcls:(X.env.scope.kind == .class || (X.env.scope.kind == .module && X.env.locals != X.env.globals))=false:=by rw [I.ok.kind];rfl
  have hiσ:i<σ.length:=by rw [I.len];exact (List.getElem?_eq_some_iff.mp hi).1
  have cne:=I.cne
  have tracked:∀ {a:Addr} {h':Heap},(∃o,s.heap.get? a=some o/\H a=none)->Heap.SameBut a s.heap h'->HOk X.prog X.w H h':=fun {a h'} ha hs b ob e=>by
    obtain ⟨_,_,hfree⟩:=ha
    refine (I.hok b ob e).stay (fun c w' hc q=>(hs.2 c ?_).trans q) (fun _ q=>q) fun _ _ q=>q
    rintro rfl
    rcases hc with rfl | hc
    . rw [hfree] at e;cases e
    . rw [hfree] at hc;cases hc
  rcases hx with hk | hk
  . refine wpAny_storeName_local hk hn (fun h' hn' hs=> ?_) hcls
    obtain ⟨oL,_,_,hoL,_⟩:=id hn
    refine h _ ⟨I.ok,I.os,I.bare,⟨fun b o e n hb hx=> ?_,fun b o e n hb hx=> ?_,I.base.free,fun b o e hx=> ?_,I.base.tups,I.base.frzs,I.base.tbls⟩,⟨_,hn',fun j y v' e1 e2 e3=> ?_⟩,fun y c e=> ?_,I.free,I.freeC,fun p hp=> ?_,tracked ⟨oL,hoL,I.free⟩ hs,by simpa using I.len⟩ ⟨_,hs, .inl rfl⟩
    . exact (hs.2 b (Nat.ne_of_lt (Nat.lt_of_lt_of_le (Heap.lt_size e) I.ok.above))).trans (I.base.keep b o e n hb hx)
    . obtain ⟨sl,e1⟩:=I.base.slot b o e n hb hx
      exact ⟨sl,(hs.2 b (Nat.ne_of_lt (Nat.lt_of_lt_of_le (Heap.lt_size e) I.ok.above))).trans e1⟩
    . obtain ⟨o',e1⟩:=I.base.there b o e hx
      exact ⟨o',(hs.2 b (Nat.ne_of_lt (Nat.lt_of_lt_of_le (Heap.lt_size e) I.ok.above))).trans e1⟩
    . by_cases hj:j=i
      . subst hj
        rw [hi] at e1;cases e1
        rw [List.getElem?_set_self hiσ] at e2
        cases e2
        exact ⟨u,r, .inl ⟨hk,by simp⟩⟩
      . rw [List.getElem?_set_ne (Ne.symm hj)] at e2
        obtain ⟨u',r',q⟩:=hl j y v' e1 e2 e3
        refine ⟨u',r',?_⟩
        rcases q with ⟨k,e⟩ | ⟨k,c,e,z⟩
        . refine .inl ⟨k,?_⟩
          have:y≠x:=fun e=>hj (nodup_ix hN e1 (e ▸ hi))
          simp [this,e]
        . exact .inr ⟨k,c,e,z.sameBut hs (cne y c e)⟩
    . obtain ⟨w',z⟩:=I.cell y c e
      exact ⟨w',z.sameBut hs (cne y c e)⟩
    . obtain ⟨e,n,ne,nf,d⟩:=I.pin p hp
      exact ⟨(hs.2 p.1 ne).trans e,n,ne,nf,d⟩
  . have hfn : X.fn x = true := by
      rcases hf with z | z
      . exact z
      . rw [z] at hk;cases hk
    obtain ⟨c,hc⟩:=I.ok.has x (.inl hk)
    obtain ⟨w',z⟩:=I.cell x c hc
    refine wpAny_storeName_cell I.ok.kind hk hc z (fun h' hc' hs=> ?_)
    obtain ⟨oc,hoc,hocd⟩:=id z
    refine h {s with heap:=h' } ⟨I.ok,I.os,I.bare,⟨fun b o e n hb hx=> ?_,fun b o e n hb hx=> ?_,I.base.free,fun b o e hx=> ?_,I.base.tups,I.base.frzs,I.base.tbls⟩,⟨m,hn.sameBut hs (Ne.symm (cne x c hc)),fun j y v' e1 e2 e3=> ?_⟩,fun y c' e=> ?_,I.free,I.freeC,fun p hp=> ?_,tracked ⟨oc,hoc,I.freeC x c hc⟩ hs,by simpa using I.len⟩ ⟨c,hs, .inr hc⟩
    . exact (hs.2 b (Nat.ne_of_lt (Nat.lt_of_lt_of_le (Heap.lt_size e) (I.ok.cab x c hfn hc)))).trans (I.base.keep b o e n hb hx)
    . obtain ⟨sl,e1⟩:=I.base.slot b o e n hb hx
      exact ⟨sl,(hs.2 b (Nat.ne_of_lt (Nat.lt_of_lt_of_le (Heap.lt_size e) (I.ok.cab x c hfn hc)))).trans e1⟩
    . obtain ⟨o',e1⟩:=I.base.there b o e hx
      exact ⟨o',(hs.2 b (Nat.ne_of_lt (Nat.lt_of_lt_of_le (Heap.lt_size e) (I.ok.cab x c hfn hc)))).trans e1⟩
    . by_cases hj:j=i
      . subst hj
        rw [hi] at e1;cases e1
        rw [List.getElem?_set_self hiσ] at e2
        cases e2
        exact ⟨u,r, .inr ⟨.inl hk,c,hc,hc'⟩⟩
      . rw [List.getElem?_set_ne (Ne.symm hj)] at e2
        obtain ⟨u',r',q⟩:=hl j y v' e1 e2 e3
        refine ⟨u',r',?_⟩
        rcases q with q | ⟨k,c',e,z'⟩
        . exact .inl q
        . refine .inr ⟨k,c',e,z'.sameBut hs ?_⟩
          rintro rfl
          exact hj (nodup_ix hN e1 (I.ok.inj _ _ _ e hc ▸ hi))
    . by_cases hcc:c'=c
      . subst hcc;exact ⟨_,hc'⟩
      . obtain ⟨w2,z2⟩:=I.cell y c' e
        exact ⟨w2,z2.sameBut hs hcc⟩
    . obtain ⟨e,n,ne,nf,d⟩:=I.pin p hp
      refine ⟨(hs.2 p.1 ?_).trans e,n,ne,nf,d⟩
      intro q
      rw [q,hoc] at e
      have q':oc=p.2:=Option.some.inj e
      exact d w' (by rw [<-q'];exact hocd)
theorem store_ok {M : Model} {A : Around} {E : Value -> Shared -> Prop} {i : Nat} {x : Str} {v : V} {u : Value} {Q : Unit -> Shared -> Prop} (I : Inv X pins σ H s) (hN : X.N.Nodup) (hi : X.N[i]? = some x) (hx : Loc X.env.scope x) (r : RelV v u)
    (h:∀s',Inv X pins (σ.set i (some v)) H s'->Q () s') (hf:X.fn x=true\/X.env.scope.names.lookup x=some .local:=by first | exact .inl rfl | exact .inr rfl | assumption):wpAny M A (storeName X.env x u) Q E s:=
  store_ok2 I hN hi hx r (fun s' I' _=>h s' I') hf
theorem Inv.call' {s' : Shared} {ch : List Addr} (I : Inv X pins σ H s) (ho : s'.os = s.os) (u : Un (frs X.stack) ch H H' s.heap s'.heap) (hok : HOk X.prog X.w H' s'.heap) (hg : AllBare s'.gens)
    (hch:∀b ∈ ch,(b ∈ X.ex\/X.s₀.heap.objs.size<=b)/\b≠X.env.locals/\(∀x c,X.env.cells.lookup x=some c->c≠b)/\∀p ∈ X.pn++pins,p.1≠b):Inv X pins σ H' s':=by
  obtain ⟨h',g',d',t',o'⟩:=s'
  have e:o'=s.os:=ho
  subst e
  exact I.call (g':=g') (t':=t') (d':=d') u hok hg hch
end
abbrev XK:=Value->Option Addr->Hp->Prop
abbrev St:=List (Option V)
abbrev VK:=V->Hp->Prop
abbrev TE:=St->Hp->VK->Prop
abbrev TT:=St->Hp->(Bool->Hp->Prop)->Prop
abbrev TA:=St->Hp->(List V->Hp->Prop)->Prop
structure Ends where
  nx:St->Hp->Prop
  rt:VK
  bk:St->Hp->Prop:=fun _ _=>False
  ct:St->Hp->Prop:=fun _ _=>False
abbrev TS:=Ends->St->Hp->Prop
def EP(X:Cx)(pins:List (Addr×Obj))(σ:St)(Q:VK)(u:Value)(s':Shared):Prop:=∃v H',Inv X pins σ H' s'/\RelV v u/\Q v H'
def TP(X:Cx)(pins:List (Addr×Obj))(σ:St)(Q:Bool->Hp->Prop)(b:Bool)(s':Shared):Prop:=∃H',Inv X pins σ H' s'/\Q b H'
def AP(X:Cx)(pins:List (Addr×Obj))(σ:St)(Q:List V->Hp->Prop)(us:List Value)(s':Shared):Prop:=∃vs H',Inv X pins σ H' s'/\Vals vs us/\Q vs H'
def SP(X:Cx)(pins:List (Addr×Obj))(D:Ends)(f:Flow)(s':Shared):Prop:=
  match f with
  | .next=>∃σ' H',Inv X pins σ' H' s'/\D.nx σ' H'
  | .brk=>∃σ' H',Inv X pins σ' H' s'/\D.bk σ' H'
  | .cont=>∃σ' H',Inv X pins σ' H' s'/\D.ct σ' H'
  | .ret u=>∃v σ' H',Inv X pins σ' H' s'/\RelV v u/\D.rt v H'
def PE(X:Cx)(e:Expr)(t:TE):Prop:=
  ∀(pins:List (Addr×Obj)) (s:Shared) (σ:St) (H:Hp) (Q:VK),Inv X pins σ H s->t σ H Q->wpAny (model X.prog X.w) X.A (eval e X.env) (EP X pins σ Q) X.xe s
def PT(X:Cx)(e:Expr)(t:TT):Prop:=
  ∀(pins:List (Addr×Obj)) (s:Shared) (σ:St) (H:Hp) (Q:Bool->Hp->Prop),Inv X pins σ H s->t σ H Q->wpAny (model X.prog X.w) X.A (isTrue e X.env (eval e X.env)) (TP X pins σ Q) X.xe s
def PW(X:Cx)(e:Expr)(t:TT):Prop:=
  ∀(whole:Sem Value) (pins:List (Addr×Obj)) (s:Shared) (σ:St) (H:Hp) (Q:Bool->Hp->Prop),Inv X pins σ H s->t σ H Q->wpAny (model X.prog X.w) X.A (isTrue e X.env whole) (TP X pins σ Q) X.xe s
theorem PW.pt{X:Cx}{e:Expr}{t:TT}(h:PW X e t):PT X e t:=h _
def PA(X:Cx)(es:List Expr)(t:TA):Prop:=
  ∀(pos:Pos) (pins:List (Addr×Obj)) (s:Shared) (σ:St) (H:Hp) (Q:List V->Hp->Prop),Inv X pins σ H s->t σ H Q->wpAny (model X.prog X.w) X.A (spliced (backTo pos (starEach es X.env))) (AP X pins σ Q) X.xe s
def PS(X:Cx)(st:Stmt)(t:TS):Prop:=
  ∀(pins:List (Addr×Obj)) (s:Shared) (σ:St) (H:Hp) (D:Ends),Inv X pins σ H s->t D σ H->wpAny (model X.prog X.w) X.A (exec st X.env) (SP X pins D) X.xe s
def PSs(X:Cx)(st:List Stmt)(t:TS):Prop:=
  ∀(pins:List (Addr×Obj)) (s:Shared) (σ:St) (H:Hp) (D:Ends),Inv X pins σ H s->t D σ H->wpAny (model X.prog X.w) X.A (execs st X.env) (SP X pins D) X.xe s
theorem thn{α:Type}{t:Sem α}{Q Q':α->Shared->Prop}{M:Model}{A:Around}{E:Value->Shared->Prop}{s:Shared}(h:wpAny M A t Q E s)(hQ:∀a s,Q a s->Q' a s):wpAny M A t Q' E s:=wpAny_mono h hQ fun _ _ x=>x
end L2
namespace L2
open PySem PySem.Spec PyProof.Rows
section
variable {X:Cx}
def tVar(i:Nat):TE:=fun σ H Q=>∃v,σ[i]? = some (some v)/\Q v H
def tC(v:V):TE:=fun _ H Q=>Q v H
theorem pe_var {i:Nat} {x:Str} {pos:Pos} (hN:X.N[i]? = some x) (hv:Vis X.env.scope x) (hd:(x==("__debug__" : Str))=false:=by decide) (hcd:(x==("__classdict__" : Str))=false:=by decide):PE X (.Name x pos) (tVar i):=by
  intro pins s σ H Q I h
  obtain ⟨v,e,h⟩:=h
  obtain ⟨m,hn,hl⟩:=I.loc
  obtain ⟨u,r,l⟩:=hl i x v hN e hv
  have fin:EP X pins σ Q u s:=⟨v,H,I,r,h⟩
  rcases l with ⟨hk,hm⟩ | ⟨hk,c,hc,hcell⟩
  . exact wpAny_Name (wpAny_loadName_local I.ok.kind hk hn hm fin) hd
  . rcases hk with hk | hk
    . exact wpAny_Name (wpAny_loadName_cell I.ok.kind hk hc hcell fin) hd
    . exact wpAny_Name (wpAny_loadName_free I.ok.kind hk hc hcell fin hcd) hd
theorem pe_int{i j pos}:PE X (.Constant (.int i) j pos) (tC (.int i)):=fun _ _ _ H _ I h=>wpAny_Constant_int ⟨.int i,H,I.tok _,⟨_,rfl⟩,h⟩
theorem pe_bl{b j pos}:PE X (.Constant (.bool b) j pos) (tC (.bl b)):=fun _ _ _ H _ I h=>Constant_bool ⟨.bl b,H,I,rfl,h⟩
theorem pe_non{j pos}:PE X (.Constant .none j pos) (tC .non):=fun _ _ _ H _ I h=>Constant_none ⟨.non,H,I,rfl,h⟩
theorem pe_str{x j pos}:PE X (.Constant (.str x) j pos) (tC (.str x)):=fun _ _ _ H _ I h=>Calls.Constant_str ⟨.str x,H,I.tok _,⟨_,rfl⟩,h⟩
def Gl(X:Cx)(x:Str):Prop:=X.env.kindOf x=some .globalImplicit
theorem ld_glob {E : Value -> Shared -> Prop} {pins : List (Addr × Obj)} {s : Shared} {σ : St} {H : Hp} {x : Str} {u : Value} {pos : Pos} {Q : Value -> Shared -> Prop} (I : Inv X pins σ H s) (hg : Gl X x) (hm : X.mg x = some u) (h : Q u s)
    (hd:(x==("__debug__" : Str))=false:=by decide):wpAny (model X.prog X.w) X.A (eval (.Name x pos) X.env) Q E s:=
  Calls.Name_function_global I.ok.kind hg (Calls.loadGlobal_global (by rw [I.ok.glob];exact I.mod.glob.keeps I.bk) hm h) hd
theorem ld_blt {E : Value -> Shared -> Prop} {pins : List (Addr × Obj)} {s : Shared} {σ : St} {H : Hp} {x : Str} {u : Value} {pos : Pos} {Q : Value -> Shared -> Prop} (I : Inv X pins σ H s) (hg : Gl X x) (hm : X.mg x = none) (hv : bootBuiltins x = some u) (h : Q u s)
    (hn:x ≠ "__name__" :=by decide) (hd:(x==("__debug__" : Str))=false:=by decide):wpAny (model X.prog X.w) X.A (eval (.Name x pos) X.env) Q E s:=by
  obtain ⟨mb,h1,h2⟩:=I.mod.blt
  exact Calls.Name_function_global I.ok.kind hg (Calls.loadGlobal_builtin (by rw [I.ok.glob];exact I.mod.glob.keeps I.bk) hm (by rw [I.ok.blt];exact h1.keeps I.bk) ((h2 x hn).trans hv) h) hd
theorem pe_glob {x:Str} {v:V} {u:Value} {pos:Pos} (hg:Gl X x) (hm:X.mg x=some u) (r:RelV v u) (hd:(x==("__debug__" : Str))=false:=by decide):PE X (.Name x pos) (tC v) :=
  fun _ _ _ H _ I h=>ld_glob I hg hm ⟨v,H,I,r,h⟩ hd
variable {a b:Expr} {ta tb:TE} {pos:Pos}
def tB(t:TE):TT:=fun σ H Q=>t σ H fun x H1=>∃c,x = .bl c/\Q c H1
theorem pt_val{e:Expr}{t:TE}(h:PE X e t)(he:∀whole,isTrue e X.env whole=(do let v <-whole;standAt e.pos;holding [v] (truthy v)):=by intro _;rfl):PT X e (tB t):=by
  intro pins s σ H Q I hw
  refine isTrue_plain (thn (h pins s σ H _ I hw) fun v s1 ⟨x,H1,I1,r1,q1⟩ => ?_) (he _)
  obtain ⟨d,rfl,q⟩:=q1
  cases r1
  exact wpAny_truthy_bool ⟨H1,I1,q⟩
variable {tA tB':TT} {rest:List Expr}
def tOr(t u:TT):TT:=fun σ H Q=>t σ H fun c H1=>if c=true then Q true H1 else u σ H1 Q
def tNot(t:TT):TT:=fun σ H Q=>t σ H fun c H1=>Q (!c) H1
theorem pw_or1(ha:PT X a tA):PW X (.BoolOp .Or [a] pos) tA:=by
  intro wh pins s σ H Q I h
  refine isTrue_or (thn (ha pins s σ H Q I h) fun c s1 e=> ?_)
  cases c with
  | false=>exact isTrue_or_nil e
  | true=>exact e
theorem pw_or(ha:PT X a tA)(hb:PW X (.BoolOp .Or (b::rest) pos) tB'):PW X (.BoolOp .Or (a::b::rest) pos) (tOr tA tB'):=by
  intro wh pins s σ H Q I h
  refine isTrue_or (thn (ha pins s σ H _ I h) fun c s1 ⟨H1,I1,q1⟩ => ?_)
  cases c with
  | true=>exact ⟨H1,I1,q1⟩
  | false=>exact hb wh pins s1 σ H1 Q I1 q1
theorem pt_not(ha:PT X a tA):PT X (.UnaryOp .Not a pos) (tNot tA):=by
  intro pins s σ H Q I h
  exact isTrue_not (ha pins s σ H (fun c H1=>Q (!c) H1) I h)
end
end L2
namespace L2
open PySem PySem.Spec PyProof.Rows
def SqL(K:PySem.W.Frag)(H:Hp)(a:Addr)(xs:List V):Prop:=
  Rd H a (.lst xs) \/
    ∃(o:Obj) (its:Array Value) (n:Nat),K.lookup a=some o/\o.cls = .type "list" /\ o.dict=none/\o.data = .seq its n/\its.size<=sizeLine/\Vals xs its.toList
def SqT(K:PySem.W.Frag)(H:Hp)(a:Addr)(xs:List V):Prop:=
  Rd H a (.tup xs) \/
    ∃(o:Obj) (its:Array Value) (n:Nat),K.lookup a=some o/\o.cls = .type "tuple" /\ o.data = .seq its n/\its.size<=sizeLine/\Vals xs its.toList
def absV:Value->Option V
  | .none=>some .non
  | .bool b=>some (.bl b)
  | .int i _=>some (.int i)
  | .str x _=>some (.str x)
  | .bytes b _=>some (.byt b)
  | .float b _=>some (.flt b)
  | .ref a=>some (.ref a)
  | .type n=>some (.ty n)
  | _=>none
theorem RelV.abs{x:V}{u:Value}(r:RelV x u):absV u=some x:=by
  cases x with
  | non=>cases r;rfl
  | bl _=>cases r;rfl
  | int _=>obtain ⟨t,rfl⟩:=r;rfl
  | str _=>obtain ⟨t,rfl⟩:=r;rfl
  | byt _=>obtain ⟨t,rfl⟩:=r;rfl
  | flt _=>obtain ⟨t,rfl⟩:=r;rfl
  | ref _=>cases r;rfl
  | ty _=>cases r;rfl
theorem RelV.inj{x y:V}{u:Value}(r:RelV x u)(q:RelV y u):x=y:=Option.some.inj (r.abs.symm.trans q.abs)
theorem Vals.inj:∀ {xs ys:List V} {us:List Value},Vals xs us->Vals ys us->xs=ys
  | _,_,_, .nil, .nil=>rfl
  | _,_,_, .cons r t, .cons r' t'=>by rw [r.inj r',Vals.inj t t']
section
variable {X:Cx} {pins:List (Addr×Obj)} {σ:St} {H:Hp} {s:Shared} {a:Addr} {xs ys:List V}
theorem SqL.of{K:PySem.W.Frag}(h:H a=some (.lst xs)):SqL K H a xs:= .inl (.inl h)
theorem SqT.of{K:PySem.W.Frag}(h:H a=some (.tup xs)):SqT K H a xs:= .inl (.inl h)
theorem Inv.list(I:Inv X pins σ H s)(h:SqL X.K H a xs):∃its:List Value,Vals xs its/\PlainL s.heap a its.toArray/\xs.length<=sizeLine:=by
  rcases h with h | ⟨o,its,n,hk,hc,hd,hs,hz,r⟩
  . obtain ⟨z,its,n,r,e⟩:=h.ok I.hok
    exact ⟨its,r,⟨_,n,e,rfl,rfl,rfl⟩,z⟩
  . refine ⟨its.toList,r,⟨o,n,I.kIn a o hk,hc,hd,by simpa using hs⟩,?_⟩
    have e:=r.length
    simp only [Array.length_toList] at e
    omega
theorem Inv.tuple(I:Inv X pins σ H s)(h:SqT X.K H a xs):∃its:List Value,Vals xs its/\IsTup s.heap a its.toArray/\xs.length<=sizeLine:=by
  rcases h with h | ⟨o,its,n,hk,hc,hs,hz,r⟩
  . obtain ⟨z,its,r,p⟩:=h.ok I.hok
    exact ⟨its,r,p,z⟩
  . refine ⟨its.toList,r,⟨o,I.kIn a o hk,hc,n,by simpa using hs⟩,?_⟩
    have e:=r.length
    simp only [Array.length_toList] at e
    omega
theorem Inv.list_inj(I:Inv X pins σ H s)(h:SqL X.K H a xs)(h':SqL X.K H a ys):xs=ys:=by
  obtain ⟨its,r,⟨o,n,e,_,_,d⟩,_⟩:=I.list h
  obtain ⟨its',r',⟨o',n',e',_,_,d'⟩,_⟩:=I.list h'
  rw [e] at e';cases e'
  rw [d] at d'
  injection d' with d1 _
  have:its=its':=by simpa using congrArg Array.toList d1
  subst this
  exact r.inj r'
end
abbrev Cx.wish (X:Cx) (E:Value->Shared->Prop):Cx:={ X with xe:=E}
abbrev Cx.nox (X:Cx):Cx:=X.wish fun _ _=>False
theorem Cx.Ok.wish{X:Cx}(ok:X.Ok)(E:Value->Shared->Prop):(X.wish E).Ok:=
  ⟨ok.mod,ok.kind,ok.glob,ok.blt,ok.above,ok.inj,ok.has,ok.cab,ok.hd,ok.frames,ok.stk,ok.exf,ok.bs,ok.bsz,ok.noex,ok.exfs,ok.funs,ok.frf⟩
theorem Cx.Ok.unwish{X:Cx}{E:Value->Shared->Prop}(ok:(X.wish E).Ok):X.Ok:=
  ⟨ok.mod,ok.kind,ok.glob,ok.blt,ok.above,ok.inj,ok.has,ok.cab,ok.hd,ok.frames,ok.stk,ok.exf,ok.bs,ok.bsz,ok.noex,ok.exfs,ok.funs,ok.frf⟩
section
variable {X:Cx} {pins:List (Addr×Obj)} {σ:St} {H:Hp} {s:Shared} {E:Value->Shared->Prop}
theorem Inv.wish(I:Inv X pins σ H s)(E:Value->Shared->Prop):Inv (X.wish E) pins σ H s:=⟨I.ok.wish E,I.os,I.bare,I.base,I.loc,I.cell,I.free,I.freeC,I.pin,I.hok,I.len⟩
theorem Inv.unwish(I:Inv (X.wish E) pins σ H s):Inv X pins σ H s:=⟨I.ok.unwish,I.os,I.bare,I.base,I.loc,I.cell,I.free,I.freeC,I.pin,I.hok,I.len⟩
theorem SP.unwish{D:Ends}{f:Flow}{s':Shared}(h:SP (X.wish E) pins D f s'):SP X pins D f s':=by
  cases f with
  | next=>obtain ⟨σ',H',I,q⟩:=h;exact ⟨σ',H',I.unwish,q⟩
  | brk=>obtain ⟨σ',H',I,q⟩:=h;exact ⟨σ',H',I.unwish,q⟩
  | cont=>obtain ⟨σ',H',I,q⟩:=h;exact ⟨σ',H',I.unwish,q⟩
  | ret u=>obtain ⟨v,σ',H',I,r,q⟩:=h;exact ⟨v,σ',H',I.unwish,r,q⟩
theorem PE.nox{e:Expr}{t:TE}(h:PE X.nox e t):PE X e t:=fun pins s σ H Q I hw=>
  wpAny_mono (h pins s σ H Q (I.wish _) hw) (fun _ _ ⟨v,H',I',r,q⟩=>⟨v,H',I'.unwish,r,q⟩) fun _ _ z=>False.elim z
theorem PT.nox{e:Expr}{t:TT}(h:PT X.nox e t):PT X e t:=fun pins s σ H Q I hw=>
  wpAny_mono (h pins s σ H Q (I.wish _) hw) (fun _ _ ⟨H',I',q⟩=>⟨H',I'.unwish,q⟩) fun _ _ z=>False.elim z
theorem PSs.nox{st:List Stmt}{t:TS}(h:PSs X.nox st t):PSs X st t:=fun pins s σ H D I hw=>
  wpAny_mono (h pins s σ H D (I.wish _) hw) (fun _ _ q=>q.unwish) fun _ _ z=>False.elim z
end
section
variable {X:Cx} {st:Stmt} {rest:List Stmt} {t u:TS} {e:Expr} {te:TE} {pos:Pos}
def tNext:TS:=fun D σ H=>D.nx σ H
def tSeq(t u:TS):TS:=fun D σ H=>t { D with nx:=u D} σ H
theorem pss_nil:PSs X [] tNext:=fun _ _ σ H _ I h=>wpAny_execs_nil ⟨σ,H,I,h⟩
theorem pss_cons(h1:PS X st t)(h2:PSs X rest u):PSs X (st::rest) (tSeq t u):=by
  intro pins s σ H D I h
  refine wpAny_execs_cons (thn (h1 pins s σ H { D with nx:=u D} I h) fun f s1 q=> ?_)
  cases f with
  | next=>
    obtain ⟨σ',H',I',q⟩:=q
    exact h2 pins s1 σ' H' D I' q
  | ret v=>exact q
  | brk=>exact q
  | cont=>exact q
theorem pss_one(h1:PS X st t):PSs X [st] t:=by
  intro pins s σ H D I h
  refine wpAny_execs_cons (thn (h1 pins s σ H D I h) fun f s1 q=> ?_)
  cases f with
  | next=>exact wpAny_execs_nil q
  | ret v=>exact q
  | brk=>exact q
  | cont=>exact q
theorem Inv.quiet{pins:List (Addr×Obj)}{σ:St}{H:Hp}{s:Shared}(I:Inv X pins σ H s):interactive X.env=false:=by simp [interactive,I.ok.kind]
def tDrop(te:TE):TS:=fun D σ H=>te σ H fun _ H1=>D.nx σ H1
theorem ps_expr(he:PE X e te)(hs:swapsWith e none pos.line X.env=pure false:=by rfl):PS X (.Expr e pos) (tDrop te):=by
  intro pins s σ H D I h
  exact wpAny_Expr_any (thn (he pins s σ H _ I h) fun v s1 ⟨x,H1,I1,r1,q1⟩=>⟨σ,H1,I1,q1⟩) I.quiet hs
def tRet(te:TE):TS:=fun D σ H=>te σ H D.rt
theorem ps_ret(he:PE X e te):PS X (.Return (some e) pos) (tRet te):=by
  intro pins s σ H D I h
  exact wpAny_Return_some (thn (he pins s σ H _ I h) fun v s1 ⟨x,H1,I1,r1,q1⟩=>⟨x,σ,H1,I1,r1,q1⟩)
def tRetN:TS:=fun D _ H=>D.rt .non H
theorem ps_retN:PS X (.Return none pos) tRetN:=fun _ _ σ H _ I h=>wpAny_Return_none ⟨.non,σ,H,I,rfl,h⟩
def tIfS(c:TT)(t u:TS):TS:=fun D σ H=>c σ H fun b H1=>if b=true then t D σ H1 else u D σ H1
theorem ps_if{c:Expr}{a b:List Stmt}{tc:TT}(hc:PT X c tc)(ha:PSs X a t)(hb:PSs X b u):PS X (.If c a b pos) (tIfS tc t u):=by
  intro pins s σ H D I h
  refine wpAny_If (thn (hc pins s σ H _ I h) fun d s1 ⟨H1,I1,q1⟩ => ?_)
  cases d with
  | true=>exact ha pins s1 σ H1 D I1 q1
  | false=>exact hb pins s1 σ H1 D I1 q1
end
abbrev TG:=V->St->Hp->(St->Hp->Prop)->Prop
abbrev TGs:=List V->St->Hp->(St->Hp->Prop)->Prop
def PG(X:Cx)(target:Expr)(t:TG):Prop:=
  ∀(pins:List (Addr×Obj)) (s:Shared) (σ:St) (H:Hp) (v:V) (u:Value) (Q:St->Hp->Prop),Inv X pins σ H s->RelV v u->t v σ H Q ->
    wpAny (model X.prog X.w) X.A (assign target X.env u) (fun _ s'=>∃σ' H',Inv X pins σ' H' s'/\Q σ' H') X.xe s
def PGs(X:Cx)(ts:List Expr)(t:TGs):Prop:=
  ∀(pins:List (Addr×Obj)) (s:Shared) (σ:St) (H:Hp) (vs:List V) (us:List Value) (Q:St->Hp->Prop),Inv X pins σ H s->Vals vs us->t vs σ H Q ->
    wpAny (model X.prog X.w) X.A (assignInOrder ((assignEach ts X.env).map (·.2)) us) (fun _ s'=>∃σ' H',Inv X pins σ' H' s'/\Q σ' H') X.xe s
abbrev TSet:=V->V->V->Hp->(Hp->Prop)->Prop
def PSet(X:Cx)(t:TSet):Prop:=
  ∀(pins:List (Addr×Obj)) (s:Shared) (σ:St) (H:Hp) (o i v:V) (ov iv u:Value) (Q:Hp->Prop),Inv X pins σ H s->RelV o ov->RelV i iv->RelV v u->t o i v H Q ->
    wpAny (model X.prog X.w) X.A (setItem ov iv u) (fun _ s'=>∃H',Inv X pins σ H' s'/\Q H') X.xe s
section
variable {X:Cx} {pos:Pos}
def gName(i:Nat):TG:=fun v σ H Q=>Q (σ.set i (some v)) H
theorem pg_name{i:Nat}{x:Str}(hN:X.N.Nodup)(hi:X.N[i]? = some x)(hx:Loc X.env.scope x)(hf:X.fn x=true\/X.env.scope.names.lookup x=some .local:=by first | exact .inl rfl | exact .inr rfl | assumption):PG X (.Name x pos) (gName i):=by
  intro pins s σ H v u Q I r h
  exact wpAny_assign_Name (store_ok I hN hi hx r (fun s' I'=>⟨_,H,I',h⟩) hf)
def gNil:TGs:=fun vs σ H Q=>vs = []/\Q σ H
def gCons(t:TG)(u:TGs):TGs:=fun vs σ H Q=>∃v r,vs=v::r/\t v σ H fun σ' H'=>u r σ' H' Q
theorem pgs_nil:PGs X [] gNil:=by
  intro pins s σ H vs us Q I r h
  obtain ⟨e,h⟩:=h
  subst e
  cases r
  exact assignInOrder_nil ⟨σ,H,I,h⟩
theorem pgs_cons {e : Expr} {es : List Expr} {t : TG} {u : TGs} (h1 : PG X e t) (h2 : PGs X es u)
    (hs:(assignEach (e::es) X.env).map (·.2)=assign e X.env::(assignEach es X.env).map (·.2):=by rfl):PGs X (e::es) (gCons t u):=by
  intro pins s σ H vs us Q I r h
  obtain ⟨v,vr,e1,h⟩:=h
  subst e1
  cases r with
  | cons r rr=>
    rw [hs]
    refine assignInOrder_cons (thn (h1 pins s σ H _ _ _ I r h) fun _ s1 ⟨σ1,H1,I1,q1⟩ => ?_)
    exact h2 pins s1 σ1 H1 _ _ Q I1 rr q1
def gTup(K:PySem.W.Frag)(n:Nat)(t:TGs):TG:=fun v σ H Q=>∃a xs,v = .ref a/\SqT K H a xs/\xs.length=n/\t xs σ H Q
theorem pg_tup {es : List Expr} {k : Nat} {t : TGs} {n : Nat} (hc : X.calm = true) (h : PGs X es t)
    (hn:(assignEach es X.env).length=n:=by rfl) (hst:(assignEach es X.env).findIdx? (·.1)=none:=by rfl):PG X (.Tuple es k pos) (gTup X.K n t):=by
  intro pins s σ H v u Q I r hw
  obtain ⟨a,xs,e1,hq,hl,hw⟩:=hw
  subst e1
  cases r
  obtain ⟨its,rv,ht,hz⟩:=I.tuple hq
  refine assign_Tuple_tuple (I.ok.hd hc) ht (by simp [hn, <-hl,rv.length]) hst fun h' hx=> ?_
  have I1:Inv X pins σ H {s with heap:=h' }:=I.kept (t':=s.toks) fun b o e=>hx b o (Nat.ne_of_lt (Heap.lt_size e)) e
  exact h pins _ σ H xs _ Q I1 (by simpa using rv) hw
def gSub(to ti:TE)(t:TSet):TG:=fun v σ H Q=>to σ H fun o H1=>ti σ H1 fun i H2=>t o i v H2 fun H3=>Q σ H3
theorem pg_sub {o i : Expr} {to ti : TE} {t : TSet} (ho : PE X o to) (hi : PE X i ti) (hs : PSet X t)
    (ha:∀v,assign (.Subscript o i pos) X.env v=(do
      let ov <-holding [v] (eval o X.env)
      let iv <-holding [v,ov] (eval i X.env)
      standAt pos
      holding [v,ov,iv] (setItem ov iv v)
      release [v,ov,iv] []):=by intro _;rfl):PG X (.Subscript o i pos) (gSub to ti t):=by
  intro pins s σ H v u Q I r h
  rw [ha]
  refine wpAny_bind (wpAny_holding (thn (ho pins s σ H _ I h) fun ov s1 ⟨x,H1,I1,r1,q1⟩ => ?_))
  refine wpAny_bind (wpAny_holding (thn (hi pins s1 σ H1 _ I1 q1) fun iv s2 ⟨y,H2,I2,r2,q2⟩ => ?_))
  refine wpAny_bind (wpAny_standAt (wpAny_bind (wpAny_holding (thn (hs pins s2 σ H2 x y v ov iv u _ I2 r1 r2 r q2) fun _ s3 ⟨H3,I3,q3⟩ => ?_))))
  exact wpAny_release ⟨σ,H3,I3,q3⟩
def tAsg(te:TE)(g:TG):TS:=fun D σ H=>te σ H fun x H1=>g x σ H1 D.nx
theorem ps_asg {tg e : Expr} {te : TE} {g : TG} (he : PE X e te) (hg : PG X tg g) (hs : swapsWithSole [tg] e pos.line X.env = pure false := by rfl) (hw : swappedStores [tg] e X.env = pure none := by rfl)
    (h1:(assignEach [tg] X.env).map (·.2) = [assign tg X.env]:=by rfl):PS X (.Assign [tg] e pos) (tAsg te g):=by
  intro pins s σ H D I h
  refine wpAny_Assign_stores (thn (he pins s σ H _ I h) fun v s1 ⟨x,H1,I1,r1,q1⟩ => ?_) hs hw
  rw [h1]
  exact thn (hg pins s1 σ H1 x v _ I1 r1 q1) fun _ s2 q=>q
theorem ps_set {i : Nat} {x : Str} {e : Expr} {te : TE} {pos' : Pos} (hN : X.N.Nodup) (hi : X.N[i]? = some x) (hx : Loc X.env.scope x) (he : PE X e te) (hs : swapsWith e (some (.Name x pos')) pos.line X.env = pure false := by rfl) (hf : X.fn x = true \/ X.env.scope.names.lookup x = some .local := by first | exact .inl rfl | exact .inr rfl | assumption) :
    PS X (.Assign [.Name x pos'] e pos) (tAsg te (gName i)):=by
  intro pins s σ H D I h
  refine wpAny_Assign_Name (thn (he pins s σ H _ I h) fun v s1 ⟨y,H1,I1,r1,q1⟩ => ?_) hs
  exact store_ok I1 hN hi hx r1 (fun s2 I2=>⟨_,H1,I2,q1⟩) hf
def tPar(i j:Nat)(ta:TA):TS:=fun D σ H=>ta σ H fun vs H1=>∃v w,vs = [v,w]/\D.nx ((σ.set i (some v)).set j (some w)) H1
theorem ps_par {i j : Nat} {x y : Str} {a b : Expr} {ta : TA} {px py pt : Pos} {kt k2 pt2} (hc : X.calm = true) (hN : X.N.Nodup) (hi : X.N[i]? = some x) (hj : X.N[j]? = some y) (hij : i ≠ j)
    (hx:X.env.scope.names.lookup x=some .local) (hy:X.env.scope.names.lookup y=some .local) (ha:PA X [a,b] ta)
    (hw:swappedStores [.Tuple [.Name x px, .Name y py] kt pt] (.Tuple [a,b] k2 pt2) X.env=pure (some [x,y]))
    (hs:swapsWithSole [.Tuple [.Name x px, .Name y py] kt pt] (.Tuple [a,b] k2 pt2) pos.line X.env=pure false:=by rfl) :
    PS X (.Assign [.Tuple [.Name x px, .Name y py] kt pt] (.Tuple [a,b] k2 pt2) pos) (tPar i j ta):=by
  intro pins s σ H D I h
  rw [exec_Assign_arm]
  refine wpAny_bind (wpAny_standAt ?_)
  rw [hs]
  refine wpAny_bind (wpAny_pure ?_)
  rw [if_neg (by decide)]
  refine wpAny_bind (Tuple_ (thn (ha _ pins s σ H _ I h) fun us s1 ⟨vs,H1,I1,r1,q1⟩ => ?_))
  obtain ⟨v,w,e1,q1⟩:=q1
  subst e1
  obtain ⟨u1,u2,rfl,rv,rw'⟩:∃u1 u2,us = [u1,u2]/\RelV v u1/\RelV w u2:=by
    cases r1 with
    | cons p q=>
      cases q with
      | cons p' q' =>
        cases q'
        exact ⟨_,_,rfl,p,p'⟩
  refine wpAny_newObj_type ?_ (by show 2<=sizeLine;decide)
  have I2:Inv X pins σ H1 {s1 with heap:=s1.heap.push {cls:= .type "tuple",data:= .seq [u1,u2].toArray} }:=I1.kept (t':=s1.toks) fun b o e=>Heap.get?_push_of_some _ e
  rw [hw]
  refine wpAny_bind (wpAny_pure ?_)
  show wpAny (model X.prog X.w) X.A (do rule "assign.swapped-stores";let items <-unpackItems (.ref s1.heap.objs.size) 2 none;assignInOrder [fun v=>bindName X.env y v,fun v=>bindName X.env x v] items.reverse;pure Flow.next) _ _ _
  refine wpAny_bind (wpAny_rule (wpAny_bind (unpackItems_tuple (items:= #[u1,u2]) (I.ok.hd hc) (IsTup.new s1.heap _) fun h' hx' => ?_)))
  have I3:=I2.kept (h':=h') (t':=s1.toks) fun b o e=>hx' b o (Nat.ne_of_lt (Heap.lt_size e)) e
  show wpAny _ _ (assignInOrder [fun v=>bindName X.env y v,fun v=>bindName X.env x v] [u2,u1] >>= fun _=>pure Flow.next) _ _ _
  refine wpAny_bind (assignInOrder_cons (wpAny_bindName (store_ok I3 hN hj (.inl hy) rw' (fun s2 I4=> ?_) (.inr hy))))
  refine assignInOrder_cons (wpAny_bindName (store_ok I4 hN hi (.inl hx) rv (fun s3 I5=>assignInOrder_nil (wpAny_pure ?_)) (.inr hx)))
  rw [List.set_comm _ _ (Ne.symm hij)] at I5
  exact ⟨_,H1,I5,q1⟩
end
section
variable {X:Cx} {pos:Pos}
def tWhile(c:TT)(tb:TS):TS:=fun D σ H=>∃W:Nat->St->Hp->Prop,(∃m,W m σ H)/\∀m σ H,W m σ H ->
  c σ H fun b H1=>if b=true then ∃N:St->Hp->Prop,(∀σ' H',N σ' H'->∃m',m'<m/\W m' σ' H')/\tb { D with nx:=N,ct:=N,bk:=D.nx} σ H1 else D.nx σ H1
theorem ps_while{c:Expr}{body:List Stmt}{tc:TT}{tb:TS}(hp:PassesOwn (model X.prog X.w) X.A X.env X.xe)(hc:PT X c tc)(hb:PSs X body tb):PS X (.While c body [] pos) (tWhile tc tb):=by
  intro pins s σ H D I h
  obtain ⟨W,⟨m0,w0⟩,turn⟩:=h
  refine wpAny_While (codeAny_whileLoop (fun n s'=>∃σ' H',Inv X pins σ' H' s'/\W n σ' H') ?_ m0 ⟨σ,H,I,w0⟩)
  rintro n s1 ⟨σ1,H1,I1,w1⟩
  refine wpAny_passesOwn hp (thn (hc pins s1 σ1 H1 _ I1 (turn n σ1 H1 w1)) fun b s2 ⟨H2,I2,q2⟩ => ?_)
  cases b with
  | true=>
    obtain ⟨N,hN,q2⟩:=q2
    rw [if_pos rfl]
    refine wpAny_passesOwn hp (thn (hb pins s2 σ1 H2 _ I2 q2) fun f s3 q3=> ?_)
    cases f with
    | next=>
      obtain ⟨σ3,H3,I3,n3⟩:=q3
      obtain ⟨m',hm,w3⟩:=hN σ3 H3 n3
      exact ⟨m',hm,σ3,H3,I3,w3⟩
    | cont=>
      obtain ⟨σ3,H3,I3,n3⟩:=q3
      obtain ⟨m',hm,w3⟩:=hN σ3 H3 n3
      exact ⟨m',hm,σ3,H3,I3,w3⟩
    | brk=>exact q3
    | ret v=>exact q3
  | false=>
    rw [if_neg Bool.false_ne_true]
    exact wpAny_execs_nil ⟨σ1,H2,I2,q2⟩
end
structure It where
  go:Nat->Hp->Prop
  yld:Nat->Hp->V->Hp->Prop
  stop:Nat->Hp->Prop
def FpOk(X:Cx)(pins:List (Addr×Obj))(H:Hp)(b:Addr):Prop:=
  H b=none/\b≠X.env.locals/\b ∉ X.fs/\(b ∈ X.ex\/X.s₀.heap.objs.size<=b)/\(∀x c,X.env.cells.lookup x=some c->c≠b)/\∀p ∈ X.pn++pins,p.1≠b
theorem Inv.fpOk{X:Cx}{pins:List (Addr×Obj)}{σ:St}{H H':Hp}{s:Shared}{b:Addr}(I:Inv X pins σ H s)(hb:s.heap.objs.size<=b)(hn:H' b=none):FpOk X pins H' b:=by
  refine ⟨hn,Nat.ne_of_gt (Nat.lt_of_lt_of_le I.lt hb),I.nofs hb, .inr (Nat.le_trans I.sz hb),fun x c e z=> ?_,fun p hp z=> ?_⟩
  . obtain ⟨v,q⟩:=I.cell x c e
    exact absurd (Nat.lt_of_lt_of_le q.lt (by rw [z];exact hb)) (Nat.lt_irrefl _)
  . exact absurd (Nat.lt_of_lt_of_le (Heap.lt_size (I.pin p hp).1) (by rw [z];exact hb)) (Nat.lt_irrefl _)
structure Turn (P:Program) (w:World) (K:PySem.W.Frag) (tg:Expr) (J:It) (fp:List Addr) (it:Addr) (tn:Nat->Heap->Prop):Prop where
  mem:it ∈ fp
  obj:∀i h,tn i h->∀b ∈ fp,∃o,h.get? b=some o/\∀v,o.data ≠ .cell v
  keep:∀i h h',tn i h->(∀b ∈ fp,∀o,h.get? b=some o->h'.get? b=some o)->tn i h'
  item:∀(X:Cx),X.prog=P->X.w=w->X.K=K->X.calm=true->∀(i:Nat) (pins:List (Addr×Obj)) (s:Shared) (σ:St) (H:Hp) (E:Value->Shared->Prop),Inv X pins σ H s->(∀b ∈ fp,FpOk X pins H b)->tn i s.heap->J.go i H ->
    wpAny (model P w) X.A (pyNext (.ref it)) (fun r s1=>∃u,r=some u /\
      wpAny (model P w) X.A (letOwnedTupleGo tg (.ref it) u) (fun _ s2=>∃x H',Inv X pins σ H' s2/\RelV x u/\J.yld i H x H'/\tn (i+1) s2.heap/\∀b ∈ fp,H' b=none) E s1) E s
  done:∀(X:Cx),X.prog=P->X.w=w->X.K=K->X.calm=true->∀(i:Nat) (pins:List (Addr×Obj)) (s:Shared) (σ:St) (H:Hp) (E:Value->Shared->Prop),Inv X pins σ H s->(∀b ∈ fp,FpOk X pins H b)->tn i s.heap->J.stop i H ->
    wpAny (model P w) X.A (pyNext (.ref it)) (fun r s1=>r=none/\Inv X pins σ H s1) E s
  self:∀(A:Around) (i:Nat) (s:Shared) (Q:Value->Shared->Prop) (E:Value->Shared->Prop),tn i s.heap->Q (.ref it) s->wpAny (model P w) A (pyIter (.ref it)) Q E s
abbrev TI:=St->Hp->(It->Hp->Prop)->Prop
def PIE(X:Cx)(pins:List (Addr×Obj))(σ:St)(tg:Expr)(R:It->Hp->Prop)(itv:Value)(s2:Shared):Prop:=
  ∃(it:Addr) (fp:List Addr) (tn:Nat->Heap->Prop) (J:It) (H':Hp),itv = .ref it/\Inv X pins σ H' s2/\Turn X.prog X.w X.K tg J fp it tn/\tn 0 s2.heap/\(∀b ∈ fp,FpOk X pins H' b)/\R J H'
def PI(X:Cx)(tg iter:Expr)(wi:TI):Prop:=
  ∀(pins:List (Addr×Obj)) (s:Shared) (σ:St) (H:Hp) (R:It->Hp->Prop),Inv X pins σ H s->wi σ H R ->
    wpAny (model X.prog X.w) X.A (eval iter X.env) (fun v s1=>wpAny (model X.prog X.w) X.A (pyIter v) (PIE X pins σ tg R) X.xe s1) X.xe s
theorem go_of {M : Model} {A : Around} {E : Value -> Shared -> Prop} {s : Shared} {tg : Expr} {it : Addr} {u : Value} {o : Obj} {n : String} {vs : Array Value} {Q : Unit -> Shared -> Prop} (ho : s.heap.get? it = some o) (hc : o.cls = .type n) (hd : o.data = .fields vs)
    (hn : ["enumerate","zip","dict_itemiterator","dict_reverseitemiterator","odict_iterator","itertools.zip_longest","itertools.pairwise"].contains n=false) (hQ:Q () s):wpAny M A (letOwnedTupleGo tg (.ref it) u) Q E s:=by
  unfold letOwnedTupleGo
  cases tg <;> first
    | exact wpAny_pure hQ
    | (cases u <;> first
        | exact wpAny_pure hQ
        | (refine wpAny_bind (wpAny_load ho ?_)
           rw [hc,hd]
           show wpAny M A (if (["enumerate","zip","dict_itemiterator","dict_reverseitemiterator","odict_iterator","itertools.zip_longest","itertools.pairwise"].contains n && vs[0]? ==some (rawInt _))=true then _ else _) Q E s
           rw [if_neg (by intro h;rw [hn,Bool.false_and] at h;cases h)]
           exact wpAny_pure hQ))
def Itl(K:PySem.W.Frag)(a:Addr):It:=
  ⟨fun i H=>∃xs x,SqL K H a xs/\xs[i]? = some x,fun i H x H'=>H'=H/\∀xs,SqL K H a xs->xs[i]? = some x,fun i H=>∃xs,SqL K H a xs/\xs.length<=i⟩
def Itr(lo:Int)(n:Nat):It:=⟨fun i _=>i<n,fun i H x H'=>H'=H/\x = .int (lo+i),fun i _=>n<=i⟩
theorem turn_list{P:Program}{w:World}{K:PySem.W.Frag}{tg:Expr}(a it:Addr):Turn P w K tg (Itl K a) [it] it (fun i h=>h.IsListIter it a i) where
  mem:=by simp
  obj:=fun i h st b hb=>by
    have e:b=it:=by simpa using hb
    subst e
    obtain ⟨o,e,c,d⟩:=st
    exact ⟨o,e,fun v z=>by rw [d] at z;cases z⟩
  keep:=fun i h h' st k=>st.at fun o e=>k it (by simp) o e
  item:=by
    intro X hP hw hK hc i pins s σ H E I hf st hg
    subst hP hw hK
    obtain ⟨xs,x,hq,hx⟩:=hg
    obtain ⟨its,rv,p,hz⟩:=I.list hq
    obtain ⟨u,hu,ru⟩:=rv.get hx
    obtain ⟨f0,f1,f2,f3,f4,f5⟩:=hf it (by simp)
    refine wpAny_pyNext_list_item st p.isList (x:=u) (by simpa using hu) fun h' st' sb=> ?_
    have I1:Inv X pins σ H {s with heap:=h' }:=I.turned (t':=s.toks) (fun b o hb e=>(sb.2 b hb).trans e) f0 f1 f3 f4 f5
    obtain ⟨o,e,c,d⟩:=id st'
    exact ⟨u,rfl,go_of (s:={s with heap:=h' }) e c d (by decide) ⟨x,H,I1,ru,⟨rfl,fun ys hy=>by rw [I.list_inj hy hq];exact hx⟩,st',fun b hb=>(hf b hb).1⟩⟩
  done:=by
    intro X hP hw hK hc i pins s σ H E I hf st hg
    subst hP hw hK
    obtain ⟨xs,hq,hx⟩:=hg
    obtain ⟨its,rv,p,hz⟩:=I.list hq
    obtain ⟨f0,f1,f2,f3,f4,f5⟩:=hf it (by simp)
    have hl:=rv.length
    exact wpAny_pyNext_list_end (I.ok.hd hc) st p.isList (by simp;omega) fun h' eb=>⟨rfl,I.turned (t':=s.toks) (fun b o hb e=>eb b o hb e) f0 f1 f3 f4 f5⟩
  self:=fun _ _ _ _ _ st h=>wpAny_pyIter_listiter st h
theorem turn_range{P:Program}{w:World}{K:PySem.W.Frag}{tg:Expr}(it:Addr)(lo:Int)(n:Nat):Turn P w K tg (Itr lo n) [it] it (fun i h=>IsRangeIter h it (lo+(i:Nat)*1) ((n:Int) - (i:Nat)) 1) where
  mem:=by simp
  obj:=fun i h st b hb=>by
    have e:b=it:=by simpa using hb
    subst e
    exact ⟨_,st,fun v z=>by
      have z':Data.fields _=Data.cell v:=z
      cases z'⟩
  keep:=fun i h h' st k=>k it (by simp) _ st
  item:=by
    intro X hP hw hK hc i pins s σ H E I hf st hg
    subst hP hw hK
    obtain ⟨f0,f1,f2,f3,f4,f5⟩:=hf it (by simp)
    have W:=Walks.range (prog:=X.prog) (w:=X.w) (I.ok.hd hc) it lo 1 n
    refine W.item i s _ _ hg st fun v h' tk hv st' kk=> ?_
    obtain ⟨t,rfl⟩:=hv
    have I1:Inv X pins σ H {s with heap:=h',toks:=tk}:=I.turned (fun b o hb e=>kk b o (by simpa using hb) e) f0 f1 f3 f4 f5
    refine ⟨_,rfl,go_of (s:={s with heap:=h',toks:=tk}) (n:= "range_iterator") st' rfl rfl (by decide) ⟨.int (lo+i),H,I1,⟨t,?_⟩,⟨rfl,rfl⟩,st',fun b hb=>(hf b hb).1⟩⟩
    rw [Int.mul_one]
  done:=by
    intro X hP hw hK hc i pins s σ H E I hf st hg
    subst hP hw hK
    obtain ⟨f0,f1,f2,f3,f4,f5⟩:=hf it (by simp)
    exact wpAny_pyNext_range_end (I.ok.hd hc) st (by have:n<=i:=hg;omega) fun h' eb=>⟨rfl,I.turned (t':=s.toks) (fun b o hb e=>eb b o hb e) f0 f1 f3 f4 f5⟩
  self:=fun _ _ _ _ _ st h=>wpAny_pyIter_rangeiter st h
end L2
namespace L2
open PySem PySem.Spec PyProof.Rows
section
variable {X:Cx} {tg:Expr}
def iList(K:PySem.W.Frag)(tl:TE):TI:=fun σ H R=>tl σ H fun x H1=>∃a,x = .ref a/\(∃xs,SqL K H1 a xs)/\R (Itl K a) H1
theorem pi_list{l:Expr}{tl:TE}(hl:PE X l tl):PI X tg l (iList X.K tl):=by
  intro pins s σ H R I h
  refine thn (hl pins s σ H _ I h) fun v s1 ⟨x,H1,I1,r1,q1⟩ => ?_
  obtain ⟨a,e,⟨xs,hq⟩,q⟩:=q1
  subst e
  cases r1
  obtain ⟨its,rv,p,hz⟩:=I1.list hq
  refine wpAny_pyIter_list p.isList ?_
  refine ⟨s1.heap.objs.size,[s1.heap.objs.size],_,_,H1,rfl,I1.kept (t':=s1.toks) fun b o e=>Heap.get?_push_of_some _ e,turn_list a _,⟨_,Heap.get?_push_size _ rfl,rfl,rfl⟩,fun b hb=> ?_,q⟩
  have e:b=s1.heap.objs.size:=by simpa using hb
  subst e
  exact I1.fpOk (Nat.le_refl _) (I1.hok.fresh (Nat.le_refl _))
theorem range_it {pins : List (Addr × Obj)} {σ : St} {H : Hp} {s : Shared} {R : It -> Hp -> Prop} {E : Value -> Shared -> Prop} {lo hi : Int} {t u v : Tok} {tk : Nat} (I : Inv X pins σ H s) (h1 : -(2 ^ 62) <= lo) (h2 : lo < 2 ^ 62) (h3 : -(2 ^ 62) <= hi) (h4 : hi < 2 ^ 62)
    (q:R (Itr lo (hi - lo).toNat) H):wpAny (model X.prog X.w) X.A (pyIter (.ref s.heap.objs.size)) (PIE X pins σ tg R) E {s with heap:=s.heap.push {cls:= .type "range",data:= .fields #[.int lo t, .int hi u, .int 1 v]},toks:=tk}:=by
  refine wpAny_pyIter_range (IsRange.new ..) (small_one h1 h2 h3 h4) ?_
  have I1:Inv X pins σ H {s with heap:=s.heap.push {cls:= .type "range",data:= .fields #[.int lo t, .int hi u, .int 1 v]},toks:=tk}:=I.kept fun b o e=>Heap.get?_push_of_some _ e
  refine ⟨(s.heap.push {cls:= .type "range",data:= .fields #[.int lo t, .int hi u, .int 1 v]}).objs.size,[(s.heap.push {cls:= .type "range",data:= .fields #[.int lo t, .int hi u, .int 1 v]}).objs.size],_,_,H,rfl,
    I1.kept (t':=tk) fun b o e=>Heap.get?_push_of_some _ e,turn_range _ lo (hi - lo).toNat,?_,fun b hb=> ?_,q⟩
  . have e1:lo+((0:Nat):Int)*1=lo:=by simp
    have e2:(((hi - lo).toNat:Nat):Int) - ((0:Nat):Int)=Builtin.Range.rangeSize lo hi 1:=by rw [rangeSize_one];split <;> omega
    show IsRangeIter _ _ (lo+((0:Nat):Int)*1) ((((hi - lo).toNat:Nat):Int) - ((0:Nat):Int)) 1
    rw [e1,e2]
    exact Heap.get?_push_size _ rfl
  . have e:b=(s.heap.push {cls:= .type "range",data:= .fields #[.int lo t, .int hi u, .int 1 v]}).objs.size:=by simpa using hb
    subst e
    exact I1.fpOk (Nat.le_refl _) (I1.hok.fresh (Nat.le_refl _))
def iRng1(ta:TA):TI:=fun σ H R=>ta σ H fun vs H1=>∃j:Int,vs = [.int j] /\ -(2 ^ 62)<=j/\j<2 ^ 62/\R (Itr 0 j.toNat) H1
def iRng2(ta:TA):TI:=fun σ H R=>ta σ H fun vs H1=>∃i j:Int,vs = [.int i, .int j]/\(-(2 ^ 62)<=i/\i<2 ^ 62 /\ -(2 ^ 62)<=j/\j<2 ^ 62)/\R (Itr i (j - i).toNat) H1
theorem pi_range1 {a:Expr} {ta:TA} {p pos:Pos} (hg:Gl X "range") (hm:X.mg "range" = none) (ha:PA X [a] ta) (hs:starEach [a] X.env = [(false,eval a X.env)]:=by rfl):PI X tg (.Call (.Name "range" p) [a] [] pos) (iRng1 ta):=by
  intro pins s σ H R I h
  refine Call_ (ld_blt I hg hm boot_range (PyProof.Rows.callWith_type1 (thn (ha pos pins s σ H _ I h) fun us s1 ⟨vs,H1,I1,r1,q1⟩ => ?_) hs rfl))
  obtain ⟨j,e,q1,q2,q⟩:=q1
  subst e
  cases r1 with
  | cons r rr=>
    cases rr
    obtain ⟨t,rfl⟩:=r
    exact call_range_1 (range_it I1 (by omega) (by omega) q1 q2 (by simpa using q))
theorem pi_range2 {a b : Expr} {ta : TA} {p pos : Pos} (hg : Gl X "range") (hm : X.mg "range" = none) (ha : PA X [a, b] ta) (hs : starEach [a, b] X.env = [(false, eval a X.env), (false, eval b X.env)] := by rfl) (hs2 : starEach [b] X.env = [(false, eval b X.env)] := by rfl) :
    PI X tg (.Call (.Name "range" p) [a,b] [] pos) (iRng2 ta):=by
  intro pins s σ H R I h
  refine Call_ (ld_blt I hg hm boot_range (PyProof.Rows.callWith_type1 (thn (ha pos pins s σ H _ I h) fun us s1 ⟨vs,H1,I1,r1,q1⟩ => ?_) (by rw [hs,hs2]) (by rw [hs2];rfl)))
  obtain ⟨i,j,e,⟨q1,q2,q3,q4⟩,q⟩:=q1
  subst e
  cases r1 with
  | cons r rr=>
    cases rr with
    | cons r' rr=>
      cases rr
      obtain ⟨t,rfl⟩:=r
      obtain ⟨t',rfl⟩:=r'
      exact call_range_2 (range_it I1 q1 q2 q3 q4 q)
def tFor(wi:TI)(g:TG)(tb:TS):TS:=fun D σ H=>wi σ H fun J H1=>∃W:Nat->Nat->St->Hp->Prop,(∃m,W 0 m σ H1)/\∀i m σ H,W i m σ H ->
  (J.stop i H/\D.nx σ H)\/(J.go i H/\∃N:St->Hp->Prop,(∀σ' H',N σ' H'->∃m',m'<m/\W (i+1) m' σ' H')/\∀x H',J.yld i H x H'->g x σ H' fun σ2 H2=>tb { D with nx:=N,ct:=N,bk:=D.nx} σ2 H2)
def pinsAt(fp:List Addr)(h:Heap):List (Addr×Obj):=fp.filterMap fun b=>(h.get? b).map fun o=>(b,o)
theorem mem_pinsAt{fp:List Addr}{h:Heap}{b:Addr}{o:Obj}(hb:b ∈ fp)(e:h.get? b=some o):(b,o) ∈ pinsAt fp h:=List.mem_filterMap.mpr ⟨b,hb,by rw [e];rfl⟩
theorem of_pinsAt{fp:List Addr}{h:Heap}{p:Addr×Obj}(hp:p ∈ pinsAt fp h):p.1 ∈ fp/\h.get? p.1=some p.2:=by
  obtain ⟨b,hb,e⟩:=List.mem_filterMap.mp hp
  cases q:h.get? b with
  | none=>rw [q] at e;cases e
  | some o=>
    rw [q] at e
    have e':(b,o)=p:=Option.some.inj e
    subst e'
    exact ⟨hb,q⟩
theorem Inv.pinned{pins:List (Addr×Obj)}{σ:St}{H:Hp}{s:Shared}{fp:List Addr}(I:Inv X pins σ H s)(hf:∀b ∈ fp,FpOk X pins H b)(ho:∀b ∈ fp,∃o,s.heap.get? b=some o/\∀v,o.data ≠ .cell v):Inv X (pins++pinsAt fp s.heap) σ H s:=
  I.pins_of fun p hp=>(List.mem_append.mp hp).elim (fun z=>I.pin p (List.mem_append_right _ z)) fun z=>by
    obtain ⟨hb,e⟩:=of_pinsAt z
    obtain ⟨f0,f1,f2,_⟩:=hf p.1 hb
    obtain ⟨o,e',d⟩:=ho p.1 hb
    rw [e] at e';cases e'
    exact ⟨e,f0,f1,f2,d⟩
theorem Inv.unpinned{pins pl:List (Addr×Obj)}{σ:St}{H:Hp}{s:Shared}(I:Inv X (pins++pl) σ H s):Inv X pins σ H s:=I.pins_of fun p hp=>I.pin p (List.mem_append_right _ (List.mem_append_left _ hp))
theorem ps_for {iter : Expr} {body : List Stmt} {wi : TI} {g : TG} {tb : TS} {pos : Pos} (hp : PassesOwn (model X.prog X.w) X.A X.env X.xe) (hc : X.calm = true) (hi : PI X tg iter wi) (hg : PG X tg g) (hb : PSs X body tb)
    (hs:∀x,foldedSetIterable iter X.env x=pure x:=by intro _;rfl):PS X (.For tg iter body [] pos) (tFor wi g tb):=by
  intro pins s σ H D I h
  refine wpAny_For (thn (hi pins s σ H _ I h) fun v s1 h1=>thn h1 fun itv s2 h2=> ?_) hs
  obtain ⟨it,fp,tn,J,H2,e,I2,T,st2,f2,W,⟨m0,w0⟩,turn⟩:=h2
  subst e
  have stat:∀ {H':Hp},(∀b ∈ fp,H' b=none)->∀b ∈ fp,FpOk X pins H' b:=fun hn b hb=>⟨hn b hb,(f2 b hb).2⟩
  refine codeAny_forLoop_any (fun n s'=>∃i σ' H',Inv X pins σ' H' s'/\tn i s'.heap/\(∀b ∈ fp,H' b=none)/\W i n σ' H') ?_ m0 ⟨0,σ,H2,I2,st2,fun b hb=>(f2 b hb).1,w0⟩
  rintro n s3 ⟨i,σ3,H3,I3,st3,fr3,w3⟩
  rcases turn i n σ3 H3 w3 with ⟨stop,qn⟩ | ⟨go,N,hN,step⟩
  . refine wpAny_passesOwn hp (thn (T.done X rfl rfl rfl hc i pins s3 σ3 H3 X.xe I3 (stat fr3) st3 stop) fun r s4 ⟨hr,I4⟩ => ?_)
    subst hr
    exact wpAny_execs_nil ⟨σ3,H3,I4,qn⟩
  . refine wpAny_passesOwn hp (thn (T.item X rfl rfl rfl hc i pins s3 σ3 H3 X.xe I3 (stat fr3) st3 go) fun r s4 ⟨u,hr,h4⟩ => ?_)
    subst hr
    refine wpAny_passesOwn hp (thn h4 fun _ s5 ⟨x,H5,I5,r5,y5,st5,fr5⟩ => ?_)
    have I5':=I5.pinned (stat fr5) (T.obj _ _ st5)
    refine wpAny_passesOwn hp (thn (hg _ s5 σ3 H5 x u _ I5' r5 (step x H5 y5)) fun _ s6 ⟨σ6,H6,I6,q6⟩ => ?_)
    refine wpAny_passesOwn hp (thn (hb _ s6 σ6 H6 _ I6 q6) fun f s7 q7=> ?_)
    have again:∀ {σ7:St} {H7:Hp},Inv X (pins++pinsAt fp s5.heap) σ7 H7 s7->N σ7 H7->∃m,m<n/\∃i σ' H',Inv X pins σ' H' s7/\tn i s7.heap/\(∀b ∈ fp,H' b=none)/\W i m σ' H':=fun {σ7 H7} I7 n7=>by
      obtain ⟨m',hm,w7⟩:=hN σ7 H7 n7
      refine ⟨m',hm,i+1,σ7,H7,I7.unpinned,T.keep _ _ _ st5 fun b hb o e=>(I7.pin (b,o) (List.mem_append_right _ (List.mem_append_right _ (mem_pinsAt hb e)))).1,fun b hb=> ?_,w7⟩
      obtain ⟨o,e,d⟩:=T.obj _ _ st5 b hb
      exact (I7.pin (b,o) (List.mem_append_right _ (List.mem_append_right _ (mem_pinsAt hb e)))).2.1
    cases f with
    | next=>obtain ⟨σ7,H7,I7,n7⟩:=q7;exact again I7 n7
    | cont=>obtain ⟨σ7,H7,I7,n7⟩:=q7;exact again I7 n7
    | brk=>obtain ⟨σ7,H7,I7,q7⟩:=q7;exact ⟨σ7,H7,I7.unpinned,q7⟩
    | ret v=>obtain ⟨x7,σ7,H7,I7,r7,q7⟩:=q7;exact ⟨x7,σ7,H7,I7.unpinned,r7,q7⟩
end
end L2
namespace L2
open PySem PySem.Spec PyProof.Rows
abbrev R2:=V->V->Hp->VK->Prop
def OpR(X:Cx)(f:Value->Value->Sem Value)(r:R2):Prop:=
  ∀(pins:List (Addr×Obj)) (s:Shared) (σ:St) (H:Hp) (x y:V) (v u:Value) (Q:VK),Inv X pins σ H s->RelV x v->RelV y u->r x y H Q ->
    wpAny (model X.prog X.w) X.A (f v u) (EP X pins σ Q) X.xe s
def UnR(X:Cx)(f:Value->Sem Value)(r:V->Hp->VK->Prop):Prop:=
  ∀(pins:List (Addr×Obj)) (s:Shared) (σ:St) (H:Hp) (x:V) (v:Value) (Q:VK),Inv X pins σ H s->RelV x v->r x H Q ->
    wpAny (model X.prog X.w) X.A (f v) (EP X pins σ Q) X.xe s
def CallR(X:Cx)(f:Value)(r:List V->Hp->VK->Prop):Prop:=
  ∀(pins:List (Addr×Obj)) (s:Shared) (σ:St) (H:Hp) (xs:List V) (us:List Value) (Q:VK),Inv X pins σ H s->Vals xs us->r xs H Q ->
    wpAny (model X.prog X.w) X.A (call f us) (EP X pins σ Q) X.xe s
def tOp(r:R2)(ta tb:TE):TE:=fun σ H Q=>ta σ H fun x H1=>tb σ H1 fun y H2=>r x y H2 Q
def tUn(r:V->Hp->VK->Prop)(ta:TE):TE:=fun σ H Q=>ta σ H fun x H1=>r x H1 Q
def rI(C:Int->Int->Prop)(g:Int->Int->V):R2:=fun x y H Q=>∃i j,x = .int i/\y = .int j/\C i j/\Q (g i j) H
def rI0(g:Int->Int->V):R2:=fun x y H Q=>∃i j,x = .int i/\y = .int j/\Q (g i j) H
def rU(g:Int->V):V->Hp->VK->Prop:=fun x H Q=>∃i,x = .int i/\Q (g i) H
section
variable {X:Cx} {a b c:Expr} {ta tb tc:TE} {pos:Pos}
theorem binT (ha : PE X a ta) (hb : PE X b tb) {pins : List (Addr × Obj)} {s : Shared} {σ : St} {H : Hp} {R : V -> V -> Hp -> Prop} (I : Inv X pins σ H s)
    (h:ta σ H fun x H1=>tb σ H1 fun y H2=>R x y H2) {Q:Value->Shared->Prop} {f:Value->Value->Sem Value}
    (hf:∀v u s2 x y H2,Inv X pins σ H2 s2->RelV x v->RelV y u->R x y H2->wpAny (model X.prog X.w) X.A (f v u) Q X.xe s2) :
    wpAny (model X.prog X.w) X.A (eval a X.env) (fun v s₁=>wpAny (model X.prog X.w) X.A (eval b X.env) (fun u s₂=>wpAny (model X.prog X.w) X.A (f v u) Q X.xe s₂) X.xe s₁) X.xe s:=by
  refine thn (ha pins s σ H _ I h) fun v s1 ⟨x,H1,I1,r1,q1⟩ => ?_
  refine thn (hb pins s1 σ H1 _ I1 q1) fun u s2 ⟨y,H2,I2,r2,q2⟩ => ?_
  exact hf v u s2 x y H2 I2 r1 r2 q2
theorem pe_op{op:Operator}{r:R2}(ho:OpR X (binaryOp op) r)(ha:PE X a ta)(hb:PE X b tb):PE X (.BinOp a op b pos) (tOp r ta tb):=by
  intro pins s σ H Q I h
  exact wpAny_BinOp (binT ha hb I h fun v u s2 x y H2 I2 rx ry q=>ho pins s2 σ H2 x y v u Q I2 rx ry q)
theorem pe_un{op:UnaryOp}{r:V->Hp->VK->Prop}(ho:UnR X (unaryOp op) r)(ha:PE X a ta):PE X (.UnaryOp op a pos) (tUn r ta):=by
  intro pins s σ H Q I h
  exact UnaryOp_ (thn (ha pins s σ H _ I h) fun v s1 ⟨x,H1,I1,r1,q1⟩=>ho pins s1 σ H1 x v Q I1 r1 q1)
theorem opI {f : Value -> Value -> Sem Value} {C : Int -> Int -> Prop} {g : Int -> Int -> Int}
    (rule:∀(i j:Int) (t u:Tok) (s:Shared) (Q:Value->Shared->Prop) (E:Value->Shared->Prop),C i j->Q (.int (g i j) s.toks) {s with toks:=s.toks+1}->wpAny (model X.prog X.w) X.A (f (.int i t) (.int j u)) Q E s) :
    OpR X f (rI C fun i j=> .int (g i j)):=by
  intro pins s σ H x y v u Q I rx ry h
  obtain ⟨i,j,rfl,rfl,hc,q⟩:=h
  obtain ⟨t,rfl⟩:=rx
  obtain ⟨t',rfl⟩:=ry
  exact rule i j t t' s _ _ hc ⟨.int (g i j),H,I.tok _,⟨_,rfl⟩,q⟩
theorem opI0 {f : Value -> Value -> Sem Value} {g : Int -> Int -> Int}
    (rule:∀(i j:Int) (t u:Tok) (s:Shared) (Q:Value->Shared->Prop) (E:Value->Shared->Prop),Q (.int (g i j) s.toks) {s with toks:=s.toks+1}->wpAny (model X.prog X.w) X.A (f (.int i t) (.int j u)) Q E s) :
    OpR X f (rI0 fun i j=> .int (g i j)):=by
  intro pins s σ H x y v u Q I rx ry h
  obtain ⟨i,j,rfl,rfl,q⟩:=h
  obtain ⟨t,rfl⟩:=rx
  obtain ⟨t',rfl⟩:=ry
  exact rule i j t t' s _ _ ⟨.int (g i j),H,I.tok _,⟨_,rfl⟩,q⟩
theorem opB0 {f : Value -> Value -> Sem Value} {g : Int -> Int -> Bool}
    (rule:∀(i j:Int) (t u:Tok) (s:Shared) (Q:Value->Shared->Prop) (E:Value->Shared->Prop),Q (.bool (g i j)) s->wpAny (model X.prog X.w) X.A (f (.int i t) (.int j u)) Q E s) :
    OpR X f (rI0 fun i j=> .bl (g i j)):=by
  intro pins s σ H x y v u Q I rx ry h
  obtain ⟨i,j,rfl,rfl,q⟩:=h
  obtain ⟨t,rfl⟩:=rx
  obtain ⟨t',rfl⟩:=ry
  exact rule i j t t' s _ _ ⟨.bl (g i j),H,I,rfl,q⟩
def CPow(i j:Int):Prop:=0<=j/\j<=1000000/\i.natAbs<2 ^ 64
def CMul(i j:Int):Prop:=(-(2 ^ 64)<i/\i<2 ^ 64)\/(-(2 ^ 64)<j/\j<2 ^ 64)
theorem CMul.ok{i j:Int}(h:CMul i j):IntMulOk i j:=by
  rcases h with ⟨h1,h2⟩ | ⟨h1,h2⟩
  . exact .of_left (intBits_le_64 h1 h2)
  . exact .of_right (intBits_le_64 h1 h2)
theorem two_pow_nn(k:Nat):(0:Int)<=2 ^ k:=by
  rw [two_pow_cast]
  exact Int.natCast_nonneg _
theorem op_add:OpR X (binaryOp .Add) (rI0 fun i j=> .int (i+j)):=opI0 fun _ _ _ _ _ _ _ q=>add_int q
theorem op_sub:OpR X (binaryOp .Sub) (rI0 fun i j=> .int (i - j)):=opI0 fun _ _ _ _ _ _ _ q=>sub_int q
theorem op_modN:OpR X (binaryOp .Mod) (rI (fun _ j=>j≠0) fun i j=> .int (i.fmod j)):=opI fun _ _ _ _ _ _ _ hc q=>mod_int' hc q
theorem op_pow:OpR X (binaryOp .Pow) (rI CPow fun i j=> .int (i ^ j.toNat)):=opI fun _ _ _ _ _ _ _ hc q=>pow_int_small hc.1 hc.2.1 hc.2.2 q
theorem op_shr:OpR X (binaryOp .RShift) (rI (fun _ j=>0<=j) fun i j=> .int (i / 2 ^ j.toNat)):=opI fun i j _ _ _ _ _ hc q=>
  rshift_int hc (by rw [Int.fdiv_eq_ediv_of_nonneg i (two_pow_nn _)];exact q)
theorem unI {f : Value -> Sem Value} {g : Int -> Int}
    (rule:∀(i:Int) (t:Tok) (s:Shared) (Q:Value->Shared->Prop) (E:Value->Shared->Prop),Q (.int (g i) s.toks) {s with toks:=s.toks+1}->wpAny (model X.prog X.w) X.A (f (.int i t)) Q E s) :
    UnR X f (rU fun i=> .int (g i)):=by
  intro pins s σ H x v Q I rx h
  obtain ⟨i,rfl,q⟩:=h
  obtain ⟨t,rfl⟩:=rx
  exact rule i t s _ _ ⟨.int (g i),H,I.tok _,⟨_,rfl⟩,q⟩
theorem un_neg:UnR X (unaryOp .USub) (rU fun i=> .int (-i)):=unI fun _ _ _ _ _ q=>neg_int q
end
section
variable {X:Cx} {a b c:Expr} {ta tb tc:TE} {pos:Pos}
theorem fin_bl{pins:List (Addr×Obj)}{σ:St}{H:Hp}{s:Shared}{Q:VK}{k k':Bool}(I:Inv X pins σ H s)(q:Q (.bl k) H)(e:k=k'):EP X pins σ Q (.bool k') s:=by
  subst e
  exact ⟨.bl k,H,I,rfl,q⟩
theorem op_lt:OpR X (compareOp .Lt) (rI0 fun i j=> .bl (decide (i<j))):=opB0 fun _ _ _ _ _ _ _ q=>lt_int q
theorem op_isN:OpR X (compareOp .Is) (fun x y H Q=>y = .non/\Q (.bl (decide (x = .non))) H):=by
  intro pins s σ H x y v u Q I rx ry h
  obtain ⟨rfl,q⟩:=h
  cases ry
  refine is_none_gen (fin_bl I q ?_)
  cases x <;> first
    | (cases rx;rfl)
    | (obtain ⟨t,rfl⟩:=rx;rfl)
theorem OpR.or{f:Value->Value->Sem Value}{r r':R2}(h:OpR X f r)(h':OpR X f r'):OpR X f (fun x y H Q=>r x y H Q\/r' x y H Q):=by
  intro pins s σ H x y v u Q I rx ry q
  rcases q with q | q
  . exact h pins s σ H x y v u Q I rx ry q
  . exact h' pins s σ H x y v u Q I rx ry q
theorem nomark(b:Expr){op:CmpOp}(h:op ≠ .In:=by decide)(h2:op ≠ .NotIn:=by decide):behindInMarks op b=false:=by
  have e1:(op==CmpOp.In)=false:=by cases op <;> first | rfl | exact absurd rfl h
  have e2:(op==CmpOp.NotIn)=false:=by cases op <;> first | rfl | exact absurd rfl h2
  cases b <;> simp [behindInMarks,e1,e2]
theorem pe_cmpR{op:CmpOp}{r:R2}(ho:OpR X (compareOp op) r)(ha:PE X a ta)(hb:PE X b tb)(hm:behindInMarks op b=false):PE X (.Compare a [op] [b] pos) (tOp r ta tb):=by
  intro pins s σ H Q I h
  exact wpAny_Compare1 (binT ha hb I h fun v u s2 x y H2 I2 rx ry q=>ho pins s2 σ H2 x y v u Q I2 rx ry q) hm
def tTest(t:TE):TT:=fun σ H Q=>t σ H fun x H'=>∃k,x = .bl k/\Q k H'
theorem pt_cmpR{op:CmpOp}{r:R2}(ho:OpR X (compareOp op) r)(ha:PE X a ta)(hb:PE X b tb)(hm:behindInMarks op b=false):PT X (.Compare a [op] [b] pos) (tTest (tOp r ta tb)):=by
  intro pins s σ H Q I h
  refine wpAny_isTrue_Compare1 (thn (ha pins s σ H _ I h) fun v s1 ⟨x,H1,I1,r1,q1⟩=>thn (hb pins s1 σ H1 _ I1 q1) fun u s2 ⟨y,H2,I2,r2,q2⟩ =>
    thn (ho pins s2 σ H2 x y v u _ I2 r1 r2 q2) fun c s3 ⟨z,H3,I3,r3,k,e,q3⟩ => ?_) hm
  subst e
  cases r3
  exact wpAny_truthy_bool ⟨H3,I3,q3⟩
theorem line63:(sizeLine:Nat)<2 ^ 63:=by rw [sizeLine_eq];decide
theorem op_add_str:OpR X (binaryOp .Add) (fun x y H Q=>∃i j,x = .str i/\y = .str j/\i.length+j.length<=sizeLine/\Q (.str (i++j)) H):=by
  intro pins s σ H x y v u Q I rx ry h
  obtain ⟨i,j,rfl,rfl,hz,q⟩:=h
  obtain ⟨t,rfl⟩:=rx
  obtain ⟨t',rfl⟩:=ry
  exact add_str (fun t' tk=>⟨.str (i++j),H,I.tok _,⟨_,rfl⟩,q⟩) hz
theorem vals1{x:V}{us:List Value}(r:Vals [x] us):∃u,us = [u]/\RelV x u:=by
  cases r with
  | cons r1 r2=>cases r2;exact ⟨_,rfl,r1⟩
theorem vals2{x y:V}{us:List Value}(r:Vals [x,y] us):∃u w',us = [u,w']/\RelV x u/\RelV y w':=by
  cases r with
  | cons r1 r2=>
    cases r2 with
    | cons r3 r4=>cases r4;exact ⟨_,_,rfl,r1,r3⟩
theorem call_abs:CallR X (.builtin "abs") (fun xs H Q=>∃i,xs = [.int i]/\Q (.int (if i<0 then -i else i)) H):=by
  intro pins s σ H xs us Q I r h
  obtain ⟨i,rfl,q⟩:=h
  obtain ⟨u,rfl,t,rfl⟩:=vals1 r
  exact call_abs_int fun u tk=>⟨.int (if i<0 then -i else i),H,I.tok _,⟨_,rfl⟩,q⟩
theorem call_max2(hc:X.calm=true):CallR X (.builtin "max") (fun xs H Q=>∃i j,xs = [.int i, .int j]/\Q (.int (if j>i then j else i)) H):=by
  intro pins s σ H xs us Q I r h
  obtain ⟨i,j,rfl,q⟩:=h
  obtain ⟨u,w',rfl,⟨t,rfl⟩,⟨t',rfl⟩⟩:=vals2 r
  refine max_two_ints (I.ok.hd hc) fun h' tk k=>⟨_,H,I.kept k,?_,q⟩
  by_cases hj:j>i
  . rw [if_pos hj,if_pos hj];exact ⟨_,rfl⟩
  . rw [if_neg hj,if_neg hj];exact ⟨_,rfl⟩
theorem call_int1:CallR X (.type "int") (fun xs H Q=>(∃i,xs = [.int i]/\Q (.int i) H)\/∃k,xs = [.bl k]/\Q (.int (if k then 1 else 0)) H):=by
  intro pins s σ H xs us Q I r h
  rcases h with ⟨i,rfl,q⟩ | ⟨k,rfl,q⟩
  . obtain ⟨u,rfl,t,rfl⟩:=vals1 r
    exact call_int_int ⟨.int i,H,I,⟨_,rfl⟩,q⟩
  . obtain ⟨u,rfl,r1⟩:=vals1 r
    cases r1
    exact call_int_bool ⟨.int (if k then 1 else 0),H,I.tok _,⟨_,rfl⟩,q⟩
end
end L2
namespace L2
open PySem PySem.Spec PyProof.Rows
structure ObjM (h:Heap) (x dx C:Addr) (mA:Str->Option Value):Prop where
  obj:h.get? x=some (PySem.W.instObj C dx)
  ns:h.Ns1 dx mA
  ne:dx≠x
theorem lookIn_ns{h:Heap}{dx:Addr}{mA:Str->Option Value}(n:h.Ns1 dx mA):∃od,h.get? dx=some od/\∀name,PySem.W.lookIn name od=some (mA name):=by
  obtain ⟨o,es,ep,ho,hd,hk,_,hm⟩:=n
  refine ⟨o,ho,fun name=> ?_⟩
  have e:=hm name
  unfold nsFind findBy at e
  rw [<-Array.find?_toList] at e
  unfold PySem.W.lookIn
  rw [hd]
  dsimp only
  split
  . rename_i y q
    rw [q] at e
    exact congrArg some e
  . rename_i q
    rw [q] at e
    have a:es.toList.any (·.refKey)=false:=by
      rw [List.any_eq_false]
      intro y hy
      obtain ⟨z,t,hkey⟩:=hk y (Array.mem_toList_iff.mp hy)
      simp [DictEntry.refKey,hkey]
    have a':¬es.toList.any (·.refKey)=true:=by rw [a];exact Bool.false_ne_true
    rw [if_neg a']
    exact congrArg some e
theorem ObjM.look{h:Heap}{x dx C:Addr}{mA:Str->Option Value}(I:ObjM h x dx C mA):∃od,PySem.W.InstAt h x (PySem.W.instObj C dx) C (some od)/\∀name,PySem.W.lookIn name od=some (mA name) :=
  let ⟨od,ho,hl⟩:=lookIn_ns I.ns
  ⟨od,⟨I.obj,rfl,rfl,ho⟩,hl⟩
section
variable {prog:Program} {w:World} {A:Around} {E:Value->Shared->Prop} {s:Shared} {K:PySem.W.Frag} {x dx C f:Addr} {mA:Str->Option Value} {name:Str} {v:Value}
theorem get_map {expr : Bool} {Q : Value -> Shared -> Prop} (X : K.In s.heap) (I : ObjM s.heap x dx C mA) (hg : PySem.W.plainGet K C name = true) (hh : PySem.W.hasDictIn K C = true)
    (ha:PySem.W.findIn K (.ref C) name=some none) (hv:mA name=some v) (hv':PySem.W.handedIn v=true) (h:Q v {s with toks:=s.toks+1}) :
    wpAny (model prog w) A (getAttr (.ref x) name expr) Q E s:=by
  obtain ⟨od,J,hl⟩:=I.look
  exact PySem.W.get_value X J (PySem.W.plainGet_of hg).1 (PySem.W.findObj_own hh ha rfl (by rw [hl,hv])) hv' h
theorem get_meth {pl : Sem Bool} {Q : Value × List Value -> Shared -> Prop} (X : K.In s.heap) (I : ObjM s.heap x dx C mA) (hg : PySem.W.plainGet K C name = true)
    (hf:PySem.W.findIn K (.ref C) name=some (some (.ref f))) (ht:PySem.W.isFn K (.ref f)=true) (hv:mA name=none) (h:Q (.ref f,[.ref x]) s) :
    wpAny (model prog w) A (getMethod (.ref x) name pl) Q E s:=by
  obtain ⟨od,J,hl⟩:=I.look
  exact PySem.W.method_fn X J (PySem.W.plainGet_of hg).1 (PySem.W.plainGet_of hg).2 hf (beq_iff_eq.mp ht) (by show (PySem.W.lookIn name od).map (·.isSome)=some false;rw [hl,hv];rfl) h
theorem set_map {ns : List Str} {Q : Unit -> Shared -> Prop} (X : K.In s.heap) (I : ObjM s.heap x dx C mA)
    (hs:PySem.W.findIn K (.ref C) "__setattr__" = some (some (.builtin "object.__setattr__"))) (hp:PySem.W.plainOver K C=true) (ht:PySem.W.takerIn K C name=some none) (hh:PySem.W.hasDictIn K C=true)
    (hw:PySem.Within mA ns) (hsz:ns.length<=sizeLine)
    (h:∀h',ObjM h' x dx C (fun y=>if y=name then some v else mA y)->Heap.SameBut dx s.heap h'->Q () {s with heap:=h',toks:=s.toks+2}) :
    wpAny (model prog w) A (setAttr (.ref x) name v) Q E s:=by
  obtain ⟨od,J,hl⟩:=I.look
  refine PySem.W.set_plain X J hs (PySem.W.osa_open (s:={s with toks:=s.toks+1}) (r:=none) X J hp ht fun b=> ?_)
  obtain ⟨cd,hc,hd'⟩:=PySem.W.any_some hh
  have hx:s.heap.get? x=some ⟨.ref C,some dx, .plain, #[]⟩:=I.obj
  refine wpAny_bind (wpAny_pure (wpAny_bind (wpAny_bind (wpAny_loadPart hx (wpAny_bind (PySem.W.Looks.here (s:={s with toks:=s.toks+1}) (PySem.W.looks_clsIn X hc) ?_))))))
  rw [hd']
  refine wpAny_pure (a:=some dx) (wpAny_bind (wpAny_pure (wpAny_bind ?_)))
  refine wpAny_nsSet1 (s:={s with toks:=s.toks+1}) I.ns fun h' hn2 hs2=> ?_
  obtain ⟨oD,esD,epD,hoD,hdD,hcD⟩:=hn2.count (PySem.Within.cons name v hw)
  refine wpAny_bind (wpAny_lookBehind hoD (by rw [hdD];exact pastItsLine_dict (Nat.le_trans hcD (by rw [List.length_cons];omega))) ?_)
  exact wpAny_pure (h _ ⟨(hs2.2 _ (Ne.symm I.ne)).trans I.obj,hn2,I.ne⟩ hs2)
theorem make_map {R : Result -> Shared -> Prop} {vs : List Value} {kw : List (Str × Value)} (X : K.In s.heap) (hm : PySem.W.makesIn K C = true)
    (hi:PySem.W.findIn K (.ref C) "__init__" = some (some (.ref f))) (hf:PySem.W.typeIn K (.ref f)=some (.type "function"))
    (h:codeAny (model prog w) (A.under (.builtin "type.__call__" ⟨.ref C::vs,kw⟩)) (.call (.ref f) ⟨.ref (s.heap.objs.size+1)::vs,kw⟩) (PySem.W.InitBack (s.heap.objs.size+1) R)
      {s with heap:=(s.heap.push PySem.W.emptyDict).push (PySem.W.instObj C s.heap.objs.size)}) :
    codeAny (model prog w) A (.call (.ref C) ⟨vs,kw⟩) R s:=by
  obtain ⟨hh,g,d,t,os⟩:=s
  exact PySem.W.make_core (PySem.W.makes_of X hm) (PySem.W.looks_findIn X hi) (fun self=>PySem.W.bind_fn X self hf) (.inl rfl) h
end
def putF(f:Str)(v:V):List (Str×V)->List (Str×V)
  | []=> [(f,v)]
  | (g,x)::r=>if g=f then (g,v)::r else (g,x)::putF f v r
theorem lookup_putF(f g:Str)(v:V):∀fs:List (Str×V),(putF f v fs).lookup g=if g=f then some v else fs.lookup g
  | []=>by
    show List.lookup g [(f,v)]=_
    by_cases h:g=f
    . have hb:(g==f)=true:=beq_iff_eq.mpr h
      simp only [List.lookup,hb,if_pos h]
    . have hb:(g==f)=false:=beq_eq_false_iff_ne.mpr h
      simp only [List.lookup,hb,if_neg h]
  | (k,x)::r=>by
    have ih:=lookup_putF f g v r
    rw [show putF f v ((k,x)::r)=(if k=f then (k,v)::r else (k,x)::putF f v r) from rfl]
    by_cases hk:k=f
    . rw [if_pos hk]
      by_cases h:g=k
      . have hb:(g==k)=true:=beq_iff_eq.mpr h
        simp only [List.lookup,hb,if_pos (h.trans hk)]
      . have hb:(g==k)=false:=beq_eq_false_iff_ne.mpr h
        simp only [List.lookup,hb,if_neg (fun e:g=f=>h (e.trans hk.symm))]
    . rw [if_neg hk]
      by_cases h:g=k
      . have hb:(g==k)=true:=beq_iff_eq.mpr h
        simp only [List.lookup,hb,if_neg (fun e:g=f=>hk (h.symm.trans e))]
      . have hb:(g==k)=false:=beq_eq_false_iff_ne.mpr h
        simp only [List.lookup,hb]
        exact ih
theorem keys_putF(f:Str)(v:V):∀fs:List (Str×V),f ∈ (putF f v fs).map (·.1)/\∀g,g ∈ fs.map (·.1)->g ∈ (putF f v fs).map (·.1)
  | []=>⟨by simp [putF],fun g h=>by simp at h⟩
  | (k,x)::r=>by
    obtain ⟨i1,i2⟩:=keys_putF f v r
    rw [show putF f v ((k,x)::r)=(if k=f then (k,v)::r else (k,x)::putF f v r) from rfl]
    by_cases hk:k=f
    . rw [if_pos hk]
      subst hk
      exact ⟨by simp,fun g h=>by simpa using h⟩
    . rw [if_neg hk]
      refine ⟨?_,fun g h=> ?_⟩
      . rw [List.map_cons]
        exact List.mem_cons_of_mem _ i1
      . rw [List.map_cons] at h ⊢
        rcases List.mem_cons.mp h with e | e
        . exact List.mem_cons.mpr (.inl e)
        . exact List.mem_cons_of_mem _ (i2 g e)
theorem length_putF(f:Str)(v:V):∀fs:List (Str×V),(putF f v fs).length<=fs.length+1
  | []=>by simp [putF]
  | (k,x)::r=>by
    have ih:=length_putF f v r
    rw [show putF f v ((k,x)::r)=(if k=f then (k,v)::r else (k,x)::putF f v r) from rfl]
    by_cases hk:k=f
    . rw [if_pos hk,List.length_cons,List.length_cons];omega
    . rw [if_neg hk,List.length_cons,List.length_cons];omega
theorem RelO.some_of{v:V}{o:Option Value}(r:RelO (some v) o):∃u,o=some u/\RelV v u:=by
  cases o with
  | none=>exact (show False from r).elim
  | some u=>exact ⟨u,rfl,r⟩
theorem RelO.none_of{o:Option Value}(r:RelO none o):o=none:=by
  cases o with
  | none=>rfl
  | some u=>exact (show False from r).elim
theorem handed_of{v:V}{u:Value}(r:RelV v u):PySem.W.handedIn u=true:=by
  cases v with
  | non=>cases (show u=Value.none from r);rfl
  | bl b=>cases (show u=Value.bool b from r);rfl
  | int i=>obtain ⟨t,e⟩:=(show ∃t,u=Value.int i t from r);cases e;rfl
  | str x=>obtain ⟨t,e⟩:=(show ∃t,u=Value.str x t from r);cases e;rfl
  | byt b=>obtain ⟨t,e⟩:=(show ∃t,u=Value.bytes b t from r);cases e;rfl
  | flt b=>obtain ⟨t,e⟩:=(show ∃t,u=Value.float b t from r);cases e;rfl
  | ref a=>cases (show u=Value.ref a from r);rfl
  | ty n=>cases (show u=Value.type n from r);rfl
section
variable {P:Program} {w:World} {H H':Hp} {h h':Heap} {a C dx:Addr} {fs fs':List (Str×V)}
theorem ins_get(hok:HOk P w H h)(e:H a=some (.ins C dx fs)):∃mA,ObjM h a dx C mA/\(∀f,RelO (fs.lookup f) (mA f))/\PySem.Within mA (fs.map (·.1))/\fs.length<=1000/\H dx=some (.own a):=by
  obtain ⟨d,z,ne,ob,mA,n,r,q⟩:=(show ObjOk P w H h a (.ins C dx fs) from hok a _ e)
  exact ⟨mA,⟨ob,n,ne⟩,r,q,z,d⟩
end
structure Cls (K:PySem.W.Frag) (C:Addr):Prop where
  pg:PySem.W.plainGet K C Str.empty=true
  hd:PySem.W.hasDictIn K C=true
  po:PySem.W.plainOver K C=true
  sa:PySem.W.findIn K (.ref C) "__setattr__" = some (some (.builtin "object.__setattr__"))
theorem Cls.get{K:PySem.W.Frag}{C:Addr}(c:Cls K C)(f:Str):PySem.W.plainGet K C f=true:=c.pg
def NoAttr(K:PySem.W.Frag)(C:Addr)(f:Str):Prop:=PySem.W.findIn K (.ref C) f=some none
theorem NoAttr.taker{K:PySem.W.Frag}{C:Addr}{f:Str}(n:NoAttr K C f):PySem.W.takerIn K C f=some none:=by
  unfold PySem.W.takerIn
  rw [show PySem.W.findIn K (.ref C) f=some none from n]
  rfl
structure Con (K:PySem.W.Frag) (C:Addr) (f:Str) (v:V) (u:Value):Prop where
  at_:PySem.W.findIn K (.ref C) f=some (some u)
  rel:RelV v u
  get:PySem.W.specialIn K u "__get__" = some none
  cp:PySem.W.copiedNames.contains f=false
structure Meth (K:PySem.W.Frag) (C:Addr) (m:Str) (f:Addr):Prop where
  at_:PySem.W.findIn K (.ref C) m=some (some (.ref f))
  fn:PySem.W.isFn K (.ref f)=true
  kp:PySem.W.keepIn K (.ref f)=true
section
variable {X:Cx} {pins:List (Addr×Obj)} {σ:St} {H:Hp} {s:Shared} {a C dx:Addr} {fs:List (Str×V)} {f:Str} {v:V} {A:Around} {E:Value->Shared->Prop}
theorem getattr_ok {b : Bool} {Q : Value -> Shared -> Prop} (I : Inv X pins σ H s) (e : H a = some (.ins C dx fs)) (c : Cls X.K C) (n : NoAttr X.K C f) (l : fs.lookup f = some v)
    (h:∀u s',Inv X pins σ H s'->RelV v u->Q u s'):wpAny (model X.prog X.w) A (getAttr (.ref a) f b) Q E s:=by
  obtain ⟨mA,O,r,_,_,_⟩:=ins_get I.hok e
  obtain ⟨u,hu,ru⟩:=RelO.some_of (v:=v) (o:=mA f) (by rw [<-l];exact r f)
  exact get_map I.kIn O (c.get f) c.hd n hu (handed_of ru) (h u _ (I.tok _) ru)
theorem getmeth_ok {m : Str} {g : Addr} {pl : Sem Bool} {Q : Value × List Value -> Shared -> Prop} (I : Inv X pins σ H s) (e : H a = some (.ins C dx fs)) (c : Cls X.K C) (k : Meth X.K C m g) (l : fs.lookup m = none)
    (h:Q (.ref g,[.ref a]) s):wpAny (model X.prog X.w) A (getMethod (.ref a) m pl) Q E s:=by
  obtain ⟨mA,O,r,_,_,_⟩:=ins_get I.hok e
  have hn:mA m=none:=RelO.none_of (by rw [<-l];exact r m)
  exact get_meth I.kIn O (c.get m) k.at_ k.fn hn h
theorem setattr_ok {y : V} {u : Value} {Q : Unit -> Shared -> Prop} (I : Inv X pins σ H s) (e : H a = some (.ins C dx fs)) (c : Cls X.K C) (n : NoAttr X.K C f) (hl : fs.length < 1000) (ry : RelV y u)
    (h:∀s',Inv X pins σ (upd H a (.ins C dx (putF f y fs))) s'->Q () s'):wpAny (model X.prog X.w) A (setAttr (.ref a) f u) Q E s:=by
  obtain ⟨mA,O,r,wi,_,ho⟩:=ins_get I.hok e
  have hz:(fs.map (·.1)).length<=sizeLine:=by rw [List.length_map,sizeLine_eq];omega
  refine set_map I.kIn O c.sa c.po n.taker c.hd wi hz fun h' O' sb=>h _ ?_
  have hd:∃o,h'.get? dx=some o:=let ⟨o,_,_,e',_⟩:=O'.ns;⟨o,e'⟩
  refine I.write (x:=a) (e:=dx) (by rw [e];exact True.intro) (.inr ho) (fun b q hb z=>(sb.2 b hb).trans z) hd ?_
  refine ⟨by rw [upd_ne O.ne];exact ho,?_,O.ne,O'.obj,_,O'.ns,fun g=> ?_,fun g hg=> ?_⟩
  . have:=length_putF f y fs;omega
  . show RelO ((putF f y fs).lookup g) (if g=f then some u else mA g)
    rw [lookup_putF]
    by_cases q:g=f
    . rw [if_pos q,if_pos q];exact ry
    . rw [if_neg q,if_neg q];exact r g
  . by_cases q:g=f
    . rw [q];exact (keys_putF f y fs).1
    . refine (keys_putF f y fs).2 g (wi g fun z=>hg ?_)
      show (if g=f then some u else mA g)=none
      rw [if_neg q];exact z
theorem Inv.made (I : Inv X pins σ H s) : Inv X pins σ (upd (upd H s.heap.objs.size (.own (s.heap.objs.size + 1))) (s.heap.objs.size + 1) (.ins C s.heap.objs.size []))
    {s with heap:=(s.heap.push PySem.W.emptyDict).push (PySem.W.instObj C s.heap.objs.size)}:=by
  have e1:(s.heap.push PySem.W.emptyDict).get? s.heap.objs.size=some PySem.W.emptyDict:=Heap.get?_push_size s.heap rfl
  have e2:((s.heap.push PySem.W.emptyDict).push (PySem.W.instObj C s.heap.objs.size)).get? (s.heap.objs.size+1)=some (PySem.W.instObj C s.heap.objs.size):=by
    have:=Heap.get?_push_size (s.heap.push PySem.W.emptyDict) (o:=PySem.W.instObj C s.heap.objs.size) rfl
    rwa [Heap.size_push] at this
  have e3:(s.heap.push PySem.W.emptyDict).Ns s.heap.objs.size (fun _=>none):=⟨PySem.W.emptyDict, #[],_,e1,rfl,(fun e he=>absurd he (by simp)),fun _=>rfl⟩
  have I1:=I.laid (a:=s.heap.objs.size) (o:= .own (s.heap.objs.size+1)) (h':=s.heap.push PySem.W.emptyDict) (t':=s.toks) (fun b u q=>Heap.get?_push_of_some _ q) (Nat.le_refl _) ⟨_,e1⟩
  refine I1.laid (a:=s.heap.objs.size+1) (o:= .ins C s.heap.objs.size []) (t':=s.toks) (fun b u q=>Heap.get?_push_of_some _ q) (Nat.le_of_eq (Heap.size_push _ _)) ?_
  have ne:s.heap.objs.size≠s.heap.objs.size+1:=Nat.ne_of_lt (Nat.lt_succ_self _)
  refine ⟨by rw [upd_ne ne,upd_same],Nat.zero_le _,ne,e2,fun _=>none,(Heap.Ns1.of_empty e3).at fun o q=>Heap.get?_push_of_some _ q,fun _=>True.intro,fun y hy=>absurd rfl hy⟩
theorem attr_of {prog : Program} {w : World} {env : Env} {e : Expr} {f : Str} {pos : Pos} {s : Shared} {Q : Value -> Shared -> Prop} (hb : attributeBase e f env (eval e env) = eval e env)
    (h:wpAny (model prog w) A (eval e env) (fun o s₁=>wpAny (model prog w) A (getAttr o f true) Q E s₁) E s):wpAny (model prog w) A (eval (.Attribute e f pos) env) Q E s:=
  Attribute_any_ h (by rw [arm_eval_Attribute,hb])
end
def tFld(K:PySem.W.Frag)(ta:TE)(f:Str):TE:=fun σ H Q=>ta σ H fun x H1=>∃a C dx fs v,x = .ref a/\H1 a=some (.ins C dx fs)/\Cls K C/\NoAttr K C f/\fs.lookup f=some v/\Q v H1
def sFld(K:PySem.W.Frag)(ta tv:TE)(f:Str):TS:=fun D σ H=>tv σ H fun y H1=>ta σ H1 fun x H2=>∃a C dx fs,x = .ref a/\H2 a=some (.ins C dx fs)/\Cls K C/\NoAttr K C f/\fs.length<1000 /\
  D.nx σ (upd H2 a (.ins C dx (putF f y fs)))
section
variable {X:Cx} {o e value:Expr} {f:Str} {pos pos' tpos:Pos} {ta tv:TE}
theorem pe_fld(he:PE X e ta)(hb:attributeBase e f X.env (eval e X.env)=eval e X.env):PE X (.Attribute e f pos) (tFld X.K ta f):=by
  intro pins s σ H Q I h
  refine attr_of hb (thn (he pins s σ H _ I h) fun u s1 ⟨x,H1,I1,rx,a,C,dx,fs,v,ex,ea,c,n,l,q⟩ => ?_)
  subst ex
  obtain rfl:u=Value.ref a:=rx
  exact getattr_ok I1 ea c n l fun u' s2 I2 ru=>⟨v,H1,I2,ru,q⟩
theorem ps_fld(ha:PE X o ta)(hv:PE X value tv)(hs:swapsWith value (some (.Attribute o f pos')) pos.line X.env=pure false):PS X (.Assign [.Attribute o f pos'] value pos) (sFld X.K ta tv f):=by
  intro pins s σ H D I h
  refine plainObj_wpAny_Assign_Attribute (thn (hv pins s σ H _ I h) fun u s1 ⟨y,H1,I1,ry,q⟩=>thn (ha pins s1 σ H1 _ I1 q) fun ov s2 ⟨x,H2,I2,rx,a,C,dx,fs,ex,ea,c,n,l,q2⟩ => ?_) hs
  subst ex
  obtain rfl:ov=Value.ref a:=rx
  exact setattr_ok I2 ea c n l ry fun s3 I3=>⟨σ,_,I3,q2⟩
end
section
variable {X:Cx} {pins:List (Addr×Obj)} {σ:St} {H:Hp} {s:Shared} {A:Around} {E:Value->Shared->Prop} {Q:Value->Shared->Prop} {c:Value} {b:Bool}
inductive TyOf (K:PySem.W.Frag) (H:Hp):V->Value->Prop where
  | non:TyOf K H .non (.type "NoneType")
  | bl (x:Bool):TyOf K H (.bl x) (.type "bool")
  | int (i:Int):TyOf K H (.int i) (.type "int")
  | str (x:Str):TyOf K H (.str x) (.type "str")
  | flt (x:UInt64):TyOf K H (.flt x) (.type "float")
  | lst {a:Addr} {xs:List V} (e:H a=some (.lst xs)):TyOf K H (.ref a) (.type "list")
  | frz {a:Addr} {o:Obj} {xs:List V} (e:H a=some (.frz o (.lst xs))):TyOf K H (.ref a) (.type "list")
  | tup {a:Addr} {xs:List V} (e:H a=some (.tup xs)):TyOf K H (.ref a) (.type "tuple")
  | dK {a:Addr} {kvs:List (Key×V)} (e:H a=some (.dK kvs)):TyOf K H (.ref a) (.type "dict")
  | dT {a:Addr} {kvs:List (List Key×V)} (e:H a=some (.dT kvs)):TyOf K H (.ref a) (.type "dict")
  | ins {a C dx : Addr} {fs : List (Str × V)} (e : H a = some (.ins C dx fs)) (cl : Cls K C) (ha : PySem.W.findIn K (.ref C) "__class__" = some (some (.builtin "object.__class__")))
      (hn:PySem.W.specialIn K (.builtin "object.__class__") "__get__" = some (some (.builtin "getset_descriptor.__get__"))) (htk:PySem.W.takesIn K (.builtin "object.__class__")=some true)
      (hm:PySem.W.mroIn K C (.type "object")=some true):TyOf K H (.ref a) (.ref C)
end
end L2
namespace L2
open PySem PySem.Spec PyProof.Rows
structure Room (k:Nat) (A:Around):Prop where
  hd:A.handled=none
  dp:A.depth+3*k+5<recursionLimit
  un:A.units+16*k+200<cLine
theorem Room.mono{j k:Nat}{A:Around}(r:Room k A)(h:j<=k):Room j A:=⟨r.hd,by have:=r.dp;omega,by have:=r.un;omega⟩
theorem Room.deeper{k:Nat}{A:Around}(r:Room (k+1) A)(env:Env):Room k (A.deeper env) :=
  ⟨r.hd,by have:=r.dp;show A.depth+1+3*k+5<_;omega,by have:=r.un;show A.units+3+16*k+200<_;omega⟩
theorem Room.in1{k:Nat}{A:Around}(r:Room (k+1) A):Room k A.in1:=
  ⟨r.hd,by have:=r.dp;show A.depth+3*k+5<_;omega,by have:=r.un;show A.units+1+16*k+200<_;omega⟩
theorem make_depth{A:Around}{C:Addr}{us:List Value}{kw:List (Str×Value)}:(A.under (.builtin "type.__call__" ⟨.ref C::us,kw⟩)).depth=A.depth+1:=by
  first | rfl | simp [Around.under,Code.weight,Code.isCreation,Code.isGuard,Code.isCaller,Code.frames,Code.isFrame,guardIds]
theorem make_units{A:Around}{C:Addr}{us:List Value}{kw:List (Str×Value)}:(A.under (.builtin "type.__call__" ⟨.ref C::us,kw⟩)).units=A.units+1:=by
  first | rfl | simp [Around.under,Code.cUnits,Code.frames,Code.isFrame]
theorem Room.make{k:Nat}{A:Around}(r:Room (k+1) A)(C:Addr)(us:List Value)(kw:List (Str×Value)):Room k (A.under (.builtin "type.__call__" ⟨.ref C::us,kw⟩)) :=
  ⟨r.hd,by have:=r.dp;rw [make_depth];omega,by have:=r.un;rw [make_units];omega⟩
theorem Room.depth{k:Nat}{A:Around}(r:Room k A):A.depth<recursionLimit:=by have:=r.dp;omega
theorem Room.units{k:Nat}{A:Around}(r:Room k A):A.units+64<cLine:=by have:=r.un;omega
def tNil:TA:=fun _ H Q=>Q [] H
def tCons(ta:TE)(tr:TA):TA:=fun σ H Q=>ta σ H fun x H1=>tr σ H1 fun xs H2=>Q (x::xs) H2
section
variable {X:Cx} {e:Expr} {es:List Expr} {te:TE} {t:TA} {pos:Pos}
theorem pa_nil:PA X [] tNil:=fun _ _ _ _ H Q I h=>Calls.spliced_nil ⟨[],H,I, .nil,h⟩
theorem pa_cons(ha:PE X e te)(hr:PA X es t)(hs:starEach (e::es) X.env=(false,eval e X.env)::starEach es X.env:=by rfl):PA X (e::es) (tCons te t):=by
  intro pos pins s σ H Q I h
  rw [hs]
  show wpAny _ _ (spliced ((false,eval e X.env)::backTo pos (starEach es X.env))) _ _ s
  refine Calls.spliced_cons (thn (ha pins s σ H _ I h) fun u s1 ⟨x,H1,I1,r1,q1⟩ => ?_)
  exact thn (hr pos pins s1 σ H1 _ I1 q1) fun us s2 ⟨xs,H2,I2,r2,q2⟩=>⟨x::xs,H2,I2, .cons r1 r2,q2⟩
def tTup(t:TA):TE:=fun σ H Q=>t σ H fun xs H1=>xs.length<=sizeLine/\∀p,H1 p=none->Q (.ref p) (upd H1 p (.tup xs))
def tLst(t:TA):TE:=fun σ H Q=>t σ H fun xs H1=>xs.length<=sizeLine/\∀p,H1 p=none->Q (.ref p) (upd H1 p (.lst xs))
theorem pe_tup{x1}(h:PA X es t):PE X (.Tuple es x1 pos) (tTup t):=by
  intro pins s σ H Q I hq
  refine wpAny_Tuple_spliced (thn (h pos pins s σ H _ I hq) fun us s1 ⟨xs,H1,I1,r,z,q⟩=>⟨by rw [<-r.length];exact z,?_⟩)
  have hf:H1 s1.heap.objs.size=none:=I1.hok.fresh (Nat.le_refl _)
  refine ⟨.ref s1.heap.objs.size,upd H1 s1.heap.objs.size (.tup xs),I1.laid (t':=s1.toks) (fun b u e=>Heap.get?_push_of_some _ e) (Nat.le_refl _) ?_,rfl,q _ hf⟩
  exact ⟨z,us,r,⟨_,Heap.get?_push_size _ rfl,rfl,_,rfl⟩⟩
theorem pe_lst(h:PA X es t):PE X (.List es pos) (tLst t):=by
  intro pins s σ H Q I hq
  refine wpAny_List_spliced (thn (h pos pins s σ H _ I hq) fun us s1 ⟨xs,H1,I1,r,z,q⟩=>⟨by rw [<-r.length];exact z,?_⟩)
  have hf:H1 s1.heap.objs.size=none:=I1.hok.fresh (Nat.le_refl _)
  refine ⟨.ref s1.heap.objs.size,upd H1 s1.heap.objs.size (.lst xs),I1.laid (t':=s1.toks) (fun b u e=>Heap.get?_push_of_some _ e) (Nat.le_refl _) ?_,rfl,q _ hf⟩
  exact ⟨z,us,0,r,Heap.get?_push_size _ rfl⟩
end
abbrev Sp:=List V->Hp->VK->XK->Prop
abbrev CXT:=List Env->Hp->Shared->XK->Value->Shared->Prop
structure Env0 (P:Program) (w:World) (K:PySem.W.Frag) (mg:Str->Option Value) (base:Heap) (A:Around) (outer:List Env) (s:Shared) (H:Hp):Prop where
  frames:A.frames=some outer
  mod:Mod K mg base
  bs:∀b o,base.get? b=some o->s.heap.get? b=some o/\H b=none
  bsz:base.objs.size<=s.heap.objs.size
  funs:s.heap.FunFrames base outer
  frf:∀b ∈ frs outer,H b=none
  hok:HOk P w H s.heap
  bare:AllBare s.gens
def CE(outer:List Env)(P:Program)(w:World)(H:Hp)(s:Shared)(Q:VK)(u:Value)(s':Shared):Prop:=
  ∃v H',s'.os=s.os/\AllBare s'.gens/\Un (frs outer) [] H H' s.heap s'.heap/\HOk P w H' s'.heap/\RelV v u/\Q v H'
def CR(CX:CXT)(outer:List Env)(P:Program)(w:World)(H:Hp)(s:Shared)(Q:VK)(E:XK)(r:Result)(s':Shared):Prop:=
  match r with
  | .ok (.ret u)=>CE outer P w H s Q u s'
  | .ok _=>False
  | .error e=>CX outer H s E e s'
structure FnOk (P:Program) (w:World) (K:PySem.W.Frag) (mg:Str->Option Value) (base:Heap) (CX:CXT) (k:Nat) (f:Addr) (fd:FuncData) (ps:List Str) (sp:Sp):Prop where
  len:∀vs H Q E,sp vs H Q E->vs.length=ps.length
  run:∀(A:Around) (outer:List Env) (s:Shared) (H:Hp) (args:Args) (us:List Value) (vs:List V) (Q:VK) (E:XK),Room k A->Env0 P w K mg base A outer s H->BindsTo s fd args (ps.zip us)->Vals vs us->sp vs H Q E ->
    codeAny (model P w) A (.call (.ref f) args) (CR CX outer P w H s Q E) s
theorem FnOk.mono {P : Program} {w : World} {K : PySem.W.Frag} {mg : Str -> Option Value} {base : Heap} {CX : CXT} {j k : Nat} {f : Addr} {fd : FuncData} {ps : List Str} {sp : Sp} (F : FnOk P w K mg base CX j f fd ps sp) (h : j <= k) :
    FnOk P w K mg base CX k f fd ps sp:=⟨F.len,fun A outer s H args us vs Q E hr=>F.run A outer s H args us vs Q E (hr.mono h)⟩
theorem FnOk.imp {P : Program} {w : World} {K : PySem.W.Frag} {mg : Str -> Option Value} {base : Heap} {CX : CXT} {k : Nat} {f : Addr} {fd : FuncData} {ps : List Str} {sp sp' : Sp} (F : FnOk P w K mg base CX k f fd ps sp)
    (h:∀vs H Q E,sp' vs H Q E->sp vs H Q E):FnOk P w K mg base CX k f fd ps sp' :=
  ⟨fun vs H Q E q=>F.len vs H Q E (h _ _ _ _ q),fun A outer s H args us vs Q E hr he hb hv hs=>F.run A outer s H args us vs Q E hr he hb hv (h _ _ _ _ hs)⟩
theorem Env0.make {P : Program} {w : World} {K : PySem.W.Frag} {mg : Str -> Option Value} {base : Heap} {A : Around} {outer : List Env} {s : Shared} {H : Hp} (e : Env0 P w K mg base A outer s H) (C : Addr) (us : List Value) (kw : List (Str × Value)) :
    Env0 P w K mg base (A.under (.builtin "type.__call__" ⟨.ref C::us,kw⟩)) outer s H:=⟨by first | exact e.frames | (simpa [Around.under,Code.envs,Code.isFrame,pushEnvs] using e.frames),e.mod,e.bs,e.bsz,e.funs,e.frf,e.hok,e.bare⟩
theorem Env0.in1 {P : Program} {w : World} {K : PySem.W.Frag} {mg : Str -> Option Value} {base : Heap} {A : Around} {outer : List Env} {s : Shared} {H : Hp} (e : Env0 P w K mg base A outer s H) :
    Env0 P w K mg base A.in1 outer s H:=⟨e.frames,e.mod,e.bs,e.bsz,e.funs,e.frf,e.hok,e.bare⟩
section
variable {X:Cx} {pins:List (Addr×Obj)} {σ:St} {H:Hp} {s s':Shared}
theorem Inv.env0(I:Inv X pins σ H s):Env0 X.prog X.w X.K X.mg X.base X.A X.stack s H:=
  ⟨I.ok.frames,I.ok.mod,I.bs,Nat.le_trans I.ok.bsz I.sz,I.stack,I.stkFree,I.hok,I.bare⟩
theorem Inv.after{Q:VK}{u:Value}(I:Inv X pins σ H s)(h:CE X.stack X.prog X.w H s Q u s'):EP X pins σ Q u s':=by
  obtain ⟨v,H',os,bare,un,hok,r,q⟩:=h
  obtain ⟨hh,g,d,t,os'⟩:=s'
  obtain rfl:os'=s.os:=os
  exact ⟨v,H',I.call (h':=hh) (g':=g) (d':=d) (t':=t) (ch:= []) un hok bare (fun b z=>absurd z (by simp)),r,q⟩
end
def tCall(sp:Sp)(dvs:List V)(E:XK)(t:TA):TE:=fun σ H Q=>t σ H fun vs H1=>sp (vs++dvs) H1 Q E
def tMeth(C:Addr)(m:Str)(sp:Sp)(dvs:List V)(E:XK)(ta:TE)(t:TA):TE:=fun σ H Q=>ta σ H fun x H1=>∃a dx fs,x = .ref a/\H1 a=some (.ins C dx fs)/\fs.lookup m=none /\
  t σ H1 fun vs H2=>sp (x::(vs++dvs)) H2 Q E
def tMake(C:Addr)(sp:Sp)(dvs:List V)(E:XK)(t:TA):TE:=fun σ H Q=>t σ H fun vs H1=>∀x dx,H1 x=none->H1 dx=none->dx≠x ->
  sp (.ref x::(vs++dvs)) (upd (upd H1 dx (.own x)) x (.ins C dx [])) (fun v H2=>v = .non/\Q (.ref x) H2) E
def Binds(K:PySem.W.Frag)(fd:FuncData)(ps:List Str)(ds:List Value):Prop:=
  ∀(s:Shared) (us:List Value),K.In s.heap->(us++ds).length=ps.length->BindsTo s fd ⟨us,[]⟩ (ps.zip (us++ds))
theorem Binds.all{K:PySem.W.Frag}{fd:FuncData}{ps:List Str}(h:∀us:List Value,us.length=ps.length->bindArgs fd ⟨us,[]⟩=pure (ps.zip us)):Binds K fd ps []:=fun s us _ hl=>by
  rw [List.append_nil] at hl ⊢
  exact .of_eq (h us hl)
def Passes(CX:CXT)(X:Cx)(E:XK):Prop:=∀(pins:List (Addr×Obj)) (σ:St) (H:Hp) (s:Shared) (e:Value) (s':Shared),Inv X pins σ H s->CX X.stack H s E e s'->X.xe e s'
section
variable {X:Cx} {CX:CXT} {k:Nat} {f C:Addr} {fd:FuncData} {ps:List Str} {sp:Sp} {dvs:List V} {ds:List Value} {E:XK} {x m:Str} {p pos apos:Pos} {e o:Expr} {es:List Expr} {ta:TE} {t:TA}
theorem run_fn {pins : List (Addr × Obj)} {σ : St} {H : Hp} {s : Shared} {Q : VK} {us : List Value} {vs : List V} (F : FnOk X.prog X.w X.K X.mg X.base CX k f fd ps sp) (hr : Room k X.A) (hb : Binds X.K fd ps ds) (hd : Vals dvs ds) (hx : Passes CX X E)
    (I:Inv X pins σ H s) (r:Vals vs us) (h:sp (vs++dvs) H Q E):wpAny (model X.prog X.w) X.A (call (.ref f) us) (EP X pins σ Q) X.xe s:=by
  have r2:Vals (vs++dvs) (us++ds):=r.append hd
  have hl:(us++ds).length=ps.length:=by rw [<-r2.length];exact F.len _ _ _ _ h
  refine wpAny_call (codeAny_mono (F.run X.A X.stack s H ⟨us,[]⟩ (us++ds) (vs++dvs) Q E hr I.env0 (hb s us I.kIn hl) r2 h) fun r s' hq=> ?_)
  cases r with
  | error e=>exact hx pins σ H s e s' I hq
  | ok fl=>
    cases fl with
    | ret u=>exact I.after hq
    | next=>exact False.elim hq
    | brk=>exact False.elim hq
    | cont=>exact False.elim hq
theorem pe_call (F : FnOk X.prog X.w X.K X.mg X.base CX k f fd ps sp) (hr : Room k X.A) (hg : Gl X x) (hm : X.mg x = some (.ref f)) (hk : PySem.W.keepIn X.K (.ref f) = true) (hb : Binds X.K fd ps ds) (hd : Vals dvs ds) (hx : Passes CX X E)
    (ha:PA X (e::es) t) (hdb:(x==("__debug__" : Str))=false:=by decide) (he:starEach (e::es) X.env=(false,eval e X.env)::starEach es X.env:=by rfl) (hpl:(backTo pos (starEach es X.env)).any (·.1)=false:=by rfl) :
    PE X (.Call (.Name x p) (e::es) [] pos) (tCall sp dvs E t):=by
  intro pins s σ H Q I h
  refine wpAny_Call_Name_kw (ld_glob I hg hm ?_ hdb)
  refine PySem.W.callWith_K (h₀:=X.base) I.ok.mod.kin hk (thn (ha pos pins s σ H _ I h) fun us s1 ⟨vs,H1,I1,r,q⟩=>⟨I1.kIn,?_⟩) he hpl
  exact run_fn F hr hb hd hx I1 r q
theorem pe_meth {pl : Sem Bool} (he : PE X o ta) (c : Cls X.K C) (hm : Meth X.K C m f) (F : FnOk X.prog X.w X.K X.mg X.base CX k f fd ps sp) (hr : Room k X.A) (hb : Binds X.K fd ps ds) (hd : Vals dvs ds) (hx : Passes CX X E) (ha : PA X (e :: es) t)
    (hst:starEach (e::es) X.env=(false,eval e X.env)::starEach es X.env:=by rfl) (hpl:(backTo pos (starEach es X.env)).any (·.1)=false:=by rfl)
    (ht:eval (.Call (.Attribute o m apos) (e::es) [] pos) X.env=(do
      let ov <-eval o X.env
      standAt apos.atName
      let (f,first) <-holding [ov] (getMethod ov m pl)
      callWith pos f first (backTo pos (starEach (e::es) X.env)) (backToKw pos (keywordEach [] X.env))):=by rfl) :
    PE X (.Call (.Attribute o m apos) (e::es) [] pos) (tMeth C m sp dvs E ta t):=by
  intro pins s σ H Q I h
  refine PySem.W.methodCall_KW (pl:=pl) (thn (he pins s σ H _ I h) fun u s1 ⟨x,H1,I1,rx,a,dx,fs,ex,ea,l,q⟩ => ?_) ht
  subst ex
  obtain rfl:u=Value.ref a:=rx
  refine getmeth_ok I1 ea c hm l ?_
  refine PySem.W.callWith_K (first:= [.ref a]) (h₀:=X.base) I.ok.mod.kin hm.kp (thn (ha pos pins s1 σ H1 _ I1 q) fun us s2 ⟨vs,H2,I2,r,q2⟩=>⟨I2.kIn,?_⟩) hst hpl
  exact run_fn (us:= .ref a::us) (vs:= .ref a::vs) F hr hb hd hx I2 (.cons rfl r) q2
structure Mk (K:PySem.W.Frag) (C f:Addr):Prop where
  makes:PySem.W.makesIn K C=true
  init:PySem.W.findIn K (.ref C) "__init__" = some (some (.ref f))
  fn:PySem.W.isFn K (.ref f)=true
  kp:PySem.W.keepIn K (.ref C)=true
theorem run_make {pins : List (Addr × Obj)} {σ : St} {H : Hp} {s : Shared} {Q : VK} {us : List Value} {vs : List V} (M : Mk X.K C f) (F : FnOk X.prog X.w X.K X.mg X.base CX k f fd ps sp) (hr : Room (k + 1) X.A) (hb : Binds X.K fd ps ds) (hd : Vals dvs ds)
    (hx:Passes CX X E) (I:Inv X pins σ H s) (r:Vals vs us)
    (h:∀x dx,H x=none->H dx=none->dx≠x->sp (.ref x::(vs++dvs)) (upd (upd H dx (.own x)) x (.ins C dx [])) (fun v H2=>v = .non/\Q (.ref x) H2) E) :
    wpAny (model X.prog X.w) X.A (call (.ref C) us) (EP X pins σ Q) X.xe s:=by
  have hq:=h (s.heap.objs.size+1) s.heap.objs.size (I.hok.fresh (Nat.le_succ _)) (I.hok.fresh (Nat.le_refl _)) (Nat.ne_of_lt (Nat.lt_succ_self _))
  have I2:=Inv.made (C:=C) I
  have r2:Vals (V.ref (s.heap.objs.size+1)::(vs++dvs)) (Value.ref (s.heap.objs.size+1)::(us++ds)):= .cons rfl (r.append hd)
  have hl:(Value.ref (s.heap.objs.size+1)::us++ds).length=ps.length:=by
    have e:=r2.length
    rw [F.len _ _ _ _ hq] at e
    exact e.symm
  refine wpAny_call (make_map (f:=f) I.kIn M.makes M.init (beq_iff_eq.mp M.fn) (codeAny_mono (F.run _ X.stack _ _ ⟨Value.ref (s.heap.objs.size+1)::us,[]⟩ (Value.ref (s.heap.objs.size+1)::(us++ds)) _ _ E (hr.make C us [])
    (I2.env0.make C us []) (hb _ (Value.ref (s.heap.objs.size+1)::us) I2.kIn hl) r2 hq) fun r s' hq' => ?_))
  cases r with
  | error e=>exact hx pins σ _ _ e s' I2 hq'
  | ok fl=>
    cases fl with
    | ret u=>
      obtain ⟨v,H',I3,rv,ev,q3⟩:=I2.after hq'
      subst ev
      exact ⟨rv,⟨V.ref (s.heap.objs.size+1),H',I3,rfl,q3⟩⟩
    | next=>exact False.elim hq'
    | brk=>exact False.elim hq'
    | cont=>exact False.elim hq'
theorem pe_make (M : Mk X.K C f) (F : FnOk X.prog X.w X.K X.mg X.base CX k f fd ps sp) (hr : Room (k + 1) X.A) (hg : Gl X x) (hm : X.mg x = some (.ref C)) (hb : Binds X.K fd ps ds) (hd : Vals dvs ds) (hx : Passes CX X E)
    (ha:PA X (e::es) t) (hdb:(x==("__debug__" : Str))=false:=by decide) (he:starEach (e::es) X.env=(false,eval e X.env)::starEach es X.env:=by rfl) (hpl:(backTo pos (starEach es X.env)).any (·.1)=false:=by rfl) :
    PE X (.Call (.Name x p) (e::es) [] pos) (tMake C sp dvs E t):=by
  intro pins s σ H Q I h
  refine wpAny_Call_Name_kw (ld_glob I hg hm ?_ hdb)
  refine PySem.W.callWith_K (h₀:=X.base) I.ok.mod.kin M.kp (thn (ha pos pins s σ H _ I h) fun us s1 ⟨vs,H1,I1,r,q⟩=>⟨I1.kIn,?_⟩) he hpl
  exact run_make M F hr hb hd hx I1 r q
end
section
variable {X:Cx} {CX:CXT} {k:Nat} {f C:Addr} {fd:FuncData} {ps ks:List Str} {sp:Sp} {E:XK} {x m:Str} {p pos apos kpos:Pos} {e o:Expr} {es:List Expr} {kws:List Keyword} {te ta:TE} {t tk:TA} {nm:Option Str}
structure KBinds (K:PySem.W.Frag) (fd:FuncData) (ps ks:List Str) (g:List Value->List Value->List Value) (gV:List V->List V->List V):Prop where
  to:∀(s:Shared) (us ws:List Value),K.In s.heap->(g us ws).length=ps.length->BindsTo s fd ⟨us,ks.zip ws⟩ (ps.zip (g us ws))
  rel:∀ {vs:List V} {us:List Value} {zs:List V} {ws:List Value},Vals vs us->Vals zs ws->Vals (gV vs zs) (g us ws)
variable {g:List Value->List Value->List Value} {gV:List V->List V->List V}
end
structure FnScope (N P:List Str) (sc:Scope):Prop where
  kind:sc.kind = .function
  co:sc.isCoroutine=false
  gen:sc.isGenerator=false
  nd:N.Nodup
  pre:N.take P.length=P
  par:∀x ∈ P,sc.names.lookup x=some .local\/sc.names.lookup x=some .cell
  nofree:∀y ∈ sc.names,y.2 ≠ .free
theorem bindL_out{kindOf:Str->Option NameKind}{x:Str}:∀ {binds:List (Str×Value)} {m:Str->Option Value},(∀v,(x,v) ∉ binds)->bindL kindOf binds m x=m x
  | [],_,_=>rfl
  | (n,v)::r,m,h=>by
    unfold bindL
    rw [bindL_out fun w hw=>h w (List.mem_cons_of_mem _ hw)]
    split
    . have:x≠n:=by rintro rfl;exact h v List.mem_cons_self
      simp [this]
    . rfl
theorem bindC_out{kindOf:Str->Option NameKind}{x:Str}:∀ {binds:List (Str×Value)} {m:Str->Option Value},(∀v,(x,v) ∉ binds)->bindC kindOf binds m x=m x
  | [],_,_=>rfl
  | (n,v)::r,m,h=>by
    unfold bindC
    rw [bindC_out fun w hw=>h w (List.mem_cons_of_mem _ hw)]
    split
    . rfl
    . have:x≠n:=by rintro rfl;exact h v List.mem_cons_self
      simp [this]
theorem bindL_get {kindOf : Str -> Option NameKind} {x : Str} {v : Value} : ∀ {P : List Str} {vs : List Value} {i : Nat} {m : Str -> Option Value}, P.Nodup -> P[i]? = some x -> vs[i]? = some v -> kindOf x = some .local ->
    bindL kindOf (P.zip vs) m x=some v
  | [],_,_,_,_,h,_,_=>by simp at h
  | _::_,[],_,_,_,_,h,_=>by simp at h
  | p::P,w::vs,0,m,nd,h1,h2,hk=>by
    simp at h1 h2;subst h1;subst h2
    show bindL kindOf ((p,w)::P.zip vs) m p=_
    unfold bindL
    rw [bindL_out fun v hv=>(List.nodup_cons.mp nd).1 (List.of_mem_zip hv).1,if_pos hk]
    simp
  | p::P,w::vs,i+1,m,nd,h1,h2,hk=>by
    show bindL kindOf ((p,w)::P.zip vs) m x=_
    unfold bindL
    exact bindL_get (i:=i) (List.nodup_cons.mp nd).2 (by simpa using h1) (by simpa using h2) hk
theorem bindC_get {kindOf : Str -> Option NameKind} {x : Str} {v : Value} : ∀ {P : List Str} {vs : List Value} {i : Nat} {m : Str -> Option Value}, P.Nodup -> P[i]? = some x -> vs[i]? = some v -> kindOf x ≠ some .local ->
    bindC kindOf (P.zip vs) m x=some v
  | [],_,_,_,_,h,_,_=>by simp at h
  | _::_,[],_,_,_,_,h,_=>by simp at h
  | p::P,w::vs,0,m,nd,h1,h2,hk=>by
    simp at h1 h2;subst h1;subst h2
    show bindC kindOf ((p,w)::P.zip vs) m p=_
    unfold bindC
    rw [bindC_out fun v hv=>(List.nodup_cons.mp nd).1 (List.of_mem_zip hv).1,if_neg hk]
    simp
  | p::P,w::vs,i+1,m,nd,h1,h2,hk=>by
    show bindC kindOf ((p,w)::P.zip vs) m x=_
    unfold bindC
    exact bindC_get (i:=i) (List.nodup_cons.mp nd).2 (by simpa using h1) (by simpa using h2) hk
def start(N:List Str)(vs:List V):St:=vs.map some++List.replicate (N.length - vs.length) none
def cxOf(CX:CXT)(P:Program)(w:World)(K:PySem.W.Frag)(mg:Str->Option Value)(base:Heap)(N:List Str)(qual:Str)(scope:Scope)(f:Addr)(cd:Value)(A:Around)(outer:List Env)(s:Shared)(H:Hp)(E:XK):Cx where
  prog:=P
  w:=w
  K:=K
  mg:=mg
  base:=base
  A:=A.deeper (envOfC qual scope s.heap.objs.size f cd)
  N:=N
  s₀:=s
  H₀:=H
  env:=envOfC qual scope s.heap.objs.size f cd
  outer:=outer
  stack:=envOfC qual scope s.heap.objs.size f cd::outer
  ex:= []
  calm:=true
  fn:=fun _=>true
  pn:= []
  xe:=fun e s'=>wpAny (model P w) (A.deeper (envOfC qual scope s.heap.objs.size f cd)) (leaving (envOfC qual scope s.heap.objs.size f cd) e) (fun _ s''=>CX outer H s E e s'') (fun e' s''=>CX outer H s E e' s'') s'
theorem cell_has{sc:Scope}{n:Nat}{x:Str}(h:sc.names.lookup x=some .cell):∃c,(cellsFrom n sc.names []).lookup x=some c:=by
  have q:=PySem.W.cellsFrom_some sc.names n [] (.inl h)
  exact Option.isSome_iff_exists.mp q
theorem inv_start {CX : CXT} {P : Program} {w : World} {K : PySem.W.Frag} {mg : Str -> Option Value} {base : Heap} {N ps : List Str} {qual : Str} {scope : Scope} {f : Addr} {cd : Value} {A : Around} {outer : List Env} {s s1 : Shared} {H : Hp} {E : XK} {us : List Value} {vs : List V}
    (S:FnScope N ps scope) (hd:A.handled=none) (e0:Env0 P w K mg base A outer s H) (hl:vs.length=ps.length) (r:Vals vs us)
    (x:InCallC s s.heap.objs.size (bindL (envOfC qual scope s.heap.objs.size f cd).kindOf (ps.zip us) fun _=>none) (cellsFrom (s.heap.objs.size+1) scope.names []) (bindC (envOfC qual scope s.heap.objs.size f cd).kindOf (ps.zip us) fun _=>none) s1) :
    Inv (cxOf CX P w K mg base N qual scope f cd A outer s H E) [] (start N vs) H s1:=by
  have hpl:ps.length<=N.length:=by have:=congrArg List.length S.pre;rw [List.length_take] at this;omega
  obtain ⟨h1,tk,rfl,hk⟩:=x.done
  have noA:∀b:Addr,b ∉ (cxOf CX P w K mg base N qual scope f cd A outer s H E).ex:=fun b z=>absurd (show b ∈ ([]:List Addr) from z) (by simp)
  refine ⟨⟨e0.mod,S.kind,rfl,rfl,Nat.le_refl _,fun y z c h1 h2=> ?_,fun y hy=> ?_,fun y c _ h=> ?_,fun _=>hd,Around.frames_deeper e0.frames, .inr ⟨rfl,rfl⟩,fun b z=>absurd z (noA b),e0.bs,e0.bsz,fun b _ _=>noA b,fun b z=>absurd z (noA b),e0.funs,e0.frf⟩,
    rfl,e0.bare,Un.kept hk,⟨_,x.toInCall.ns,fun i y v h1 h2 h3=> ?_⟩,fun y c h=>⟨_,x.cell y c h⟩,e0.hok.fresh (Nat.le_refl _),fun y c h=> ?_,fun p hp=>absurd (show p ∈ ([]:List (Addr×Obj)) from hp) (by simp),e0.hok.kept hk,?_⟩
  . exact name_of_addr x.apart (PySem.mem_of_lookup h1) (PySem.mem_of_lookup h2)
  . have hy:scope.names.lookup y=some .cell\/scope.names.lookup y=some .free:=hy
    rcases hy with hy | hy
    . exact cell_has hy
    . exact absurd rfl (S.nofree _ (PySem.mem_of_lookup hy))
  . exact Nat.le_of_lt (x.above y c (PySem.mem_of_lookup h))
  . have hi : i < vs.length := by
      unfold start at h2
      by_cases hi:i<vs.length
      . exact hi
      . rw [List.getElem?_append_right (by simpa using hi)] at h2
        rw [List.getElem?_replicate] at h2
        split at h2 <;> cases h2
    have ha:vs[i]? = some v:=by
      unfold start at h2
      rw [List.getElem?_append_left (by simpa using hi),List.getElem?_map] at h2
      cases e:vs[i]? with
      | none=>rw [e] at h2;cases h2
      | some a=>rw [e] at h2;cases h2;rfl
    obtain ⟨u,hu,rv⟩:=r.get ha
    have hp:ps[i]? = some y:=by
      rw [<-S.pre,List.getElem?_take_of_lt (by omega)];exact h1
    have ndP:ps.Nodup:=by rw [<-S.pre];exact S.nd.sublist (List.take_sublist _ _)
    refine ⟨u,rv,?_⟩
    rcases S.par y (List.mem_of_getElem? hp) with k | k
    . exact .inl ⟨k,bindL_get ndP hp hu k⟩
    . obtain ⟨c,e⟩:=cell_has (n:=s.heap.objs.size+1) k
      refine .inr ⟨.inl k,c,e,?_⟩
      have q:=x.cell y c e
      rw [bindC_get ndP hp hu (by show scope.names.lookup y≠_;rw [k];decide)] at q
      exact q
  . exact e0.hok.fresh (Nat.le_of_lt (x.above y c (PySem.mem_of_lookup h)))
  . unfold start
    show _=N.length
    rw [List.length_append,List.length_map,List.length_replicate]
    omega
theorem fn_of {CX : CXT} {P : Program} {w : World} {K : PySem.W.Frag} {mg : Str -> Option Value} {base : Heap} {k : Nat} {f : Addr} {name qual : Str} {params : Arguments} {body : List Stmt} {scope : Scope} {dV kV doc pm cdv ct oc : Value} {an od : Option Addr}
    {osl:Array (Option Value)} {N ps:List Str} {sp:Sp} (lk:K.lookup f=some ⟨oc,od, .func (PySem.W.fnOf name qual params body scope dV kV doc pm an cdv ct),osl⟩) (hcd:PySem.W.codeIn K cdv qual=true) (S:FnScope N ps scope)
    (len:∀vs H Q E,sp vs H Q E->vs.length=ps.length)
    (hbody:∀(A:Around) (outer:List Env) (s:Shared) (H:Hp) (vs:List V) (Q:VK) (E:XK),Room k (A.deeper (envOfC qual scope s.heap.objs.size f cdv))->sp vs H Q E ->
      ∃t,PSs (cxOf CX P w K mg base N qual scope f cdv A outer s H E) body t/\t {nx:=fun _ H'=>Q .non H',rt:=Q} (start N vs) H) :
    FnOk P w K mg base CX (k+1) f (PySem.W.fnOf name qual params body scope dV kV doc pm an cdv ct) ps sp:=by
  refine ⟨len,fun A outer s H args us vs Q E hr e0 hb r hsp=> ?_⟩
  have hl:=len _ _ _ _ hsp
  have KX:K.In s.heap:=e0.mod.kin.keeps fun b o e=>(e0.bs b o e).1
  have lim:s.heap.NoLimit:=e0.mod.nolimit.keeps fun b o e=>(e0.bs b o e).1
  have hkind:∀y ∈ ps.zip us,scope.names.lookup y.1=some .local\/(scope.names.lookup y.1=some .cell/\((cellsFrom (s.heap.objs.size+1) scope.names []).lookup y.1).isSome=true):=fun ⟨n,v⟩ hy=>by
    rcases S.par n (List.of_mem_zip hy).1 with q | q
    . exact .inl q
    . exact .inr ⟨q,PySem.W.cellsFrom_some _ _ _ (.inl q)⟩
  refine codeAny_call_function hr.depth (KX _ _ lk) rfl S.co S.gen rfl (PySem.W.codeRec_of KX hcd) (hb _ _ _ _ ?_)
  refine wpAny_newFunctionEnv_cells S.kind hkind fun env he s1 x=> ?_
  subst he
  refine ⟨lim.keeps x.toInCall.keep,codeAny_func ?_⟩
  obtain ⟨t,ht,hq⟩:=hbody A outer s H vs Q E (hr.deeper _) hsp
  have I:Inv (cxOf CX P w K mg base N qual scope f cdv A outer s H E) [] (start N vs) H s1:=inv_start S hr.hd e0 hl r x
  refine wpAny_mono (ht [] s1 (start N vs) H _ I hq) (fun fl s' hs=> ?_) fun e s' hs=>hs
  have fin:∀ {σ':St} {H':Hp} {v:V} {u:Value},Inv (cxOf CX P w K mg base N qual scope f cdv A outer s H E) [] σ' H' s'->RelV v u->Q v H'->CE outer P w H s Q u s' :=
    fun {σ' H' v u} J rv q=>⟨v,H',J.os,J.bare,J.base,J.hok,rv,q⟩
  cases fl with
  | ret u=>
    obtain ⟨v,σ',H',J,rv,q⟩:=hs
    exact fin J rv q
  | next=>
    obtain ⟨σ',H',J,q⟩:=hs
    exact fin (v:=V.non) (u:=Value.none) J rfl q
  | brk=>
    obtain ⟨_,_,_,q⟩:=hs
    exact False.elim q
  | cont=>
    obtain ⟨_,_,_,q⟩:=hs
    exact False.elim q
end L2
namespace L2
open PySem PySem.Spec PyProof.Rows
section
variable {X:Cx} {x:Str} {p pos:Pos} {e:Expr} {es:List Expr} {t:TA} {id T:String} {r:List V->Hp->VK->Prop}
def tCB(r:List V->Hp->VK->Prop)(t:TA):TE:=fun σ H Q=>t σ H fun vs H1=>r vs H1 Q
theorem pe_callB (hc : CallR X (.builtin id) r) (hg : Gl X x) (hm : X.mg x = none) (hv : bootBuiltins x = some (.builtin id)) (ha : PA X (e :: es) t) (hn : x ≠ "__name__" := by decide) (hdb : (x == ("__debug__" : Str)) = false := by decide)
    (he:starEach (e::es) X.env=(false,eval e X.env)::starEach es X.env:=by rfl) (hpl:(backTo pos (starEach es X.env)).any (·.1)=false:=by rfl):PE X (.Call (.Name x p) (e::es) [] pos) (tCB r t):=by
  intro pins s σ H Q I h
  refine wpAny_Call_Name_kw (ld_blt I hg hm hv ?_ hn hdb)
  exact PyProof.Rows.callWith_builtin1 (thn (ha pos pins s σ H _ I h) fun us s1 ⟨vs,H1,I1,r1,q1⟩=>hc pins s1 σ H1 vs us Q I1 r1 q1) he hpl
theorem pe_callTy (hc : CallR X (.type T) r) (hg : Gl X x) (hm : X.mg x = none) (hv : bootBuiltins x = some (.type T)) (ha : PA X (e :: es) t) (hn : x ≠ "__name__" := by decide) (hdb : (x == ("__debug__" : Str)) = false := by decide)
    (he:starEach (e::es) X.env=(false,eval e X.env)::starEach es X.env:=by rfl) (hpl:(backTo pos (starEach es X.env)).any (·.1)=false:=by rfl):PE X (.Call (.Name x p) (e::es) [] pos) (tCB r t):=by
  intro pins s σ H Q I h
  refine wpAny_Call_Name_kw (ld_blt I hg hm hv ?_ hn hdb)
  exact PyProof.Rows.callWith_type1 (thn (ha pos pins s σ H _ I h) fun us s1 ⟨vs,H1,I1,r1,q1⟩=>hc pins s1 σ H1 vs us Q I1 r1 q1) he hpl
end
end L2
namespace HT
open PySem PyProof.Rows
section
open PySem.SeqAt
open PySem.AutoSeq1 (wpAny_loadPart')
open PySem.MeetsSeq PySem.MeetsSeq2 PySem.MeetsSeq3
end
section
variable {prog:Program} {w:World} {A:Around} {E:Value->Shared->Prop} {s:Shared}
theorem cat_tup {t b : Addr} {vs ws : List Value} {Q : Value -> Shared -> Prop} (ht : IsTup s.heap t vs.toArray) (hb : IsTup s.heap b ws.toArray) (hv : vs ≠ [])
    (h1:ws = []->Q (.ref t) s) (h2:ws ≠ []->Q (.ref s.heap.objs.size) {s with heap:=s.heap.push {cls:= .type "tuple",data:= .seq (vs++ws).toArray} })
    (hsz:vs.length+ws.length<=sizeLine):wpAny (model prog w) A (binaryOp .Add (.ref t) (.ref b)) Q E s:=by
  obtain ⟨⟨cls,dd,data,sl⟩,ho,hc,n,hd⟩:=id ht
  obtain ⟨⟨cls2,dd2,data2,sl2⟩,ho2,hc2,n2,hd2⟩:=id hb
  simp only at hc hd hc2 hd2
  subst hc hd hc2 hd2
  have e:vs.toArray++ws.toArray=(vs++ws).toArray:=by simp
  by_cases hw:ws = []
  . exact concat_meets ⟨_, ho, rfl⟩ ⟨_, ho2, rfl⟩ noFill_tuple_add seq_tuple_add PySem.F.slot_tuple_add PySem.F.entry_tuple_add (PySem.F.args_tuple_add_2 _ _)
      (tuple_addW1 t b vs.toArray ws.toArray n n2 dd dd2 sl sl2 (by simpa using hv) (by simp [hw])) ⟨ho,ho2,h1 hw⟩
  . refine concat_meets ⟨_, ho, rfl⟩ ⟨_, ho2, rfl⟩ noFill_tuple_add seq_tuple_add PySem.F.slot_tuple_add PySem.F.entry_tuple_add (PySem.F.args_tuple_add_2 _ _)
      (tuple_addW2 t b vs.toArray ws.toArray n n2 dd dd2 sl sl2 (by simpa using hv) (by simpa using hw) (by rw [List.size_toArray,List.size_toArray];exact hsz)) ⟨ho,ho2,?_⟩
    rw [e]
    exact h2 hw
def sIx(n d:Nat):Option Int->Nat
  | none=>d
  | some v=>if v<0 then (v+(n:Int)).toNat else min v.toNat n
theorem sIx_none(n d:Nat):sIx n d none=d:=rfl
theorem sIx_nat(n d k:Nat):sIx n d (some (k:Int))=min k n:=by
  show (if (k:Int)<0 then ((k:Int)+(n:Int)).toNat else min (k:Int).toNat n)=min k n
  rw [if_neg (by omega),Int.toNat_natCast]
theorem sIx_le(n d:Nat)(hd:d<=n)(o:Option Int):sIx n d o<=n:=by
  cases o with
  | none=>exact hd
  | some v=>
    show (if v<0 then (v+(n:Int)).toNat else min v.toNat n)<=n
    by_cases hv:v<0
    . rw [if_pos hv];omega
    . rw [if_neg hv];exact Nat.min_le_right _ _
theorem clip_eq(v:Int)(n d:Nat):(if v<0 then max (v+(n:Int)) 0 else min v (n:Int))=((sIx n d (some v):Nat):Int):=by
  show (if v<0 then max (v+(n:Int)) 0 else min v (n:Int))=(((if v<0 then (v+(n:Int)).toNat else min v.toNat n):Nat):Int)
  by_cases hv:v<0
  . simp only [if_pos hv];omega
  . simp only [if_neg hv];omega
theorem adjust_gen(lo hi:Option Int)(n:Nat):Builtin.Slice.sliceAdjust lo hi 1 (n:Int)=(((sIx n 0 lo:Nat):Int),((sIx n n hi:Nat):Int)):=by
  have h1:¬((1:Int)<0):=by omega
  unfold Builtin.Slice.sliceAdjust
  simp only [h1,if_false]
  refine Prod.ext ?_ ?_
  . cases lo with
    | none=>rfl
    | some v=>exact clip_eq v n 0
  . cases hi with
    | none=>rfl
    | some v=>exact clip_eq v n n
theorem places_gen(i j:Nat):Builtin.Slice.slicePlaces (i:Int) (j:Int) 1=j - i:=by
  unfold Builtin.Slice.slicePlaces
  have h1:(1:Int)>0:=by omega
  simp only [h1,if_true,Int.ediv_one]
  split <;> omega
theorem slicePart_{v:Value}{o:Option Int}{Q:Option Int->Shared->Prop}(p:IsPart v o)(h:Q o s):wpAny (model prog w) A (Builtin.Slice.slicePartIndex v) Q E s:=by
  cases p with
  | none=>exact slicePart_none h
  | int i t=>exact slicePart_int h
theorem sliceApplied_gen {sl : Addr} {vl vu : Value} {lo hi : Option Int} {n : Nat} {Q : Int × Int × Nat -> Shared -> Prop} (hs : s.heap.IsSliceOf sl vl vu .none) (pl : IsPart vl lo) (pu : IsPart vu hi)
    (h:Q (((sIx n 0 lo:Nat):Int),1,sIx n n hi - sIx n 0 lo) s):wpAny (model prog w) A (Builtin.Slice.sliceApplied (.ref sl) (pure (n:Int))) Q E s:=by
  obtain ⟨os,hos,hcs,hds⟩:=id hs
  unfold Builtin.Slice.sliceApplied Builtin.Slice.sliceFields
  refine wpAny_bind (wpAny_bind (wpAny_field hos hds (x:=vl) rfl (wpAny_bind (wpAny_field hos hds (x:=vu) rfl (wpAny_bind (wpAny_field hos hds (x:= .none) rfl (wpAny_pure ?_)))))))
  refine wpAny_bind (slicePart_none ?_)
  show wpAny _ _ (if ((1:Int)==0)=true then _ else _) _ _ s
  rw [if_neg (by decide)]
  refine wpAny_bind (slicePart_ pl (wpAny_bind (slicePart_ pu (wpAny_bind (wpAny_pure ?_)))))
  show wpAny _ _ (match Builtin.Slice.sliceAdjust lo hi 1 (n:Int) with | (lo,hi)=>pure (lo,(1:Int),Builtin.Slice.slicePlaces lo hi 1)) _ _ s
  rw [adjust_gen lo hi n]
  show wpAny _ _ (pure (((sIx n 0 lo:Nat):Int),(1:Int),Builtin.Slice.slicePlaces ((sIx n 0 lo:Nat):Int) ((sIx n n hi:Nat):Int) 1)) _ _ s
  rw [places_gen]
  exact wpAny_pure h
theorem pick_gen(xs:Array Value)(i k:Nat):((List.range k).filterMap fun (m:Nat)=>xs[((i:Int)+(m:Int)*1).toNat]?).toArray=((xs.toList.drop i).take k).toArray:=by
  have e:(fun (m:Nat)=>xs[((i:Int)+(m:Int)*1).toNat]?)=fun m=>xs[i+m]? :=by
    funext m
    have:((i:Int)+(m:Int)*1).toNat=i+m:=by omega
    rw [this]
  rw [e]
  have:=pick_run xs i k
  rw [List.filterMap_map] at this
  have e2:((fun x=>xs[x]?) ∘ fun x=>i+x)=fun m=>xs[i+m]? :=rfl
  rw [e2] at this
  rw [this]
theorem getItem_tuple_cut {t sl : Addr} {items : Array Value} {vl vu : Value} {lo hi : Option Int} {Q : Value -> Shared -> Prop} (ht : IsTup s.heap t items) (hs : s.heap.IsSliceOf sl vl vu .none) (pl : IsPart vl lo) (pu : IsPart vu hi)
    (hw:¬(sIx items.size 0 lo=0/\sIx items.size items.size hi=items.size))
    (h:Q (.ref s.heap.objs.size) {s with heap:=s.heap.push {cls:= .type "tuple",data:= .seq ((items.toList.drop (sIx items.size 0 lo)).take (sIx items.size items.size hi - sIx items.size 0 lo)).toArray} })
    (hsz:items.size<=sizeLine):wpAny (model prog w) A (getItem (.ref t) (.ref sl)) Q E s:=by
  have htake:sizeOk (.seq ((items.toList.drop (sIx items.size 0 lo)).take (sIx items.size items.size hi - sIx items.size 0 lo)).toArray):=by
    show ((items.toList.drop (sIx items.size 0 lo)).take (sIx items.size items.size hi - sIx items.size 0 lo)).toArray.size<=sizeLine
    rw [List.size_toArray,List.length_take,List.length_drop,Array.length_toList]
    omega
  have hj:sIx items.size items.size hi<=items.size:=sIx_le _ _ (Nat.le_refl _) hi
  obtain ⟨os,hos,hcs,hds⟩:=id hs
  have hTs:s.TypeIs (.ref sl) "slice" :=⟨os,hos,hcs⟩
  unfold getItem
  try with_reducible refine wpAny_holding ?_
  first | refine wpAny_bind (wpAny_pure ?_) | skip
  refine wpAny_bind (wpAny_sequenceKey ht.typeIs (by decide) ?_)
  refine wpAny_bind (wpAny_callSpecial?_slot (name:=Str.ofString "__getitem__") ht.typeIs PyProof.Rows.slot_tuple_getitem
    (wpAny_call_entry PyProof.Rows.slot_tuple_getitem ht.typeIs entry_tuple_getitem ?_ (args_tuple_getitem _ _)))
  show wpAny _ _ (Builtin.Tuple.tupleItemsOf (.ref t) >>= _) _ _ s
  refine wpAny_bind (tupleItemsOf_ ht ?_)
  refine wpAny_bind (wpAny_typeOf hTs ?_)
  rw [if_pos (by decide)]
  refine wpAny_bind (sliceApplied_gen hs pl pu ?_)
  have hno:¬((((sIx items.size 0 lo:Nat):Int)==0 && (1:Int)==1 && (sIx items.size items.size hi - sIx items.size 0 lo)==items.size)=true):=by
    intro q
    rw [Bool.and_eq_true,Bool.and_eq_true] at q
    have q1:((sIx items.size 0 lo:Nat):Int)=0:=eq_of_beq q.1.1
    have q2:sIx items.size items.size hi - sIx items.size 0 lo=items.size:=eq_of_beq q.2
    exact hw ⟨by omega,by omega⟩
  show wpAny _ _ (if (((sIx items.size 0 lo:Nat):Int)==0 && (1:Int)==1 && (sIx items.size items.size hi - sIx items.size 0 lo)==items.size)=true then _ else _) _ _ s
  rw [if_neg hno,pick_gen]
  first
    | exact wpAny_bind (m:=Builtin.Tuple.tupleExact _) (wpAny_newObj_type (wpAny_pure ⟨_,rfl,wpAny_pure h⟩) htake)
    | exact wpAny_bind (m:=Builtin.Tuple.tupleExact _) (wpAny_newObj_type (wpAny_bind (wpAny_pure (wpAny_pure ⟨_,rfl,wpAny_pure h⟩))) htake)
    | exact wpAny_bind (wpAny_bind (m:=Builtin.Tuple.tupleExact _) (wpAny_newObj_type (wpAny_pure (wpAny_pure ⟨_,rfl,wpAny_pure h⟩)) htake))
    | exact wpAny_bind (wpAny_bind (m:=Builtin.Tuple.tupleExact _) (wpAny_newObj_type (wpAny_pure ⟨_,rfl,wpAny_pure h⟩) htake))
end
end HT
namespace L2
open PySem PySem.Spec PyProof.Rows
abbrev TO:=St->Hp->(Option Int->Hp->Prop)->Prop
def PO(X:Cx)(e:Option Expr)(t:TO):Prop:=
  ∀(pins:List (Addr×Obj)) (s:Shared) (σ:St) (H:Hp) (Q:Option Int->Hp->Prop),Inv X pins σ H s->t σ H Q ->
    wpAny (model X.prog X.w) X.A (evalPart e X.env) (fun u s'=>∃o H',Inv X pins σ H' s'/\IsPart u o/\Q o H') X.xe s
def tNoPart:TO:=fun _ H Q=>Q none H
def tPart(t:TE):TO:=fun σ H Q=>t σ H fun x H1=>∃i,x = .int i/\Q (some i) H1
theorem intsAre_of{ns:List Int}:∀ {us:List Value},Vals (ns.map V.int) us->IntsAre us ns:=by
  induction ns with
  | nil=>intro us r;rw [List.map_nil] at r;cases r;exact .nil
  | cons n ns ih=>
    intro us r
    rw [List.map_cons] at r
    cases r with
    | cons r1 r2=>
      obtain ⟨t,e⟩:=r1
      subst e
      exact .cons n t (ih r2)
section
variable {X:Cx} {e:Expr} {te:TE} {lo hi:Option Expr} {tl th:TO} {pos p2:Pos}
theorem po_none:PO X none tNoPart:=by
  intro pins s σ H Q I h
  rw [evalPart_none]
  exact wpAny_pure ⟨none,H,I, .none,h⟩
theorem po_some(h:PE X e te):PO X (some e) (tPart te):=by
  intro pins s σ H Q I hw
  rw [evalPart_some]
  refine thn (h pins s σ H _ I hw) fun u s1 ⟨x,H1,I1,r1,q1⟩ => ?_
  obtain ⟨i,rfl,q⟩:=q1
  obtain ⟨t,rfl⟩:=r1
  exact ⟨some i,H1,I1, .int i t,q⟩
def SlR(X:Cx)(r:V->Option Int->Option Int->Hp->VK->Prop):Prop:=
  ∀(pins:List (Addr×Obj)) (s:Shared) (σ:St) (H:Hp) (x:V) (v vl vu:Value) (lo hi:Option Int) (sl:Addr) (Q:VK),Inv X pins σ H s->RelV x v->s.heap.IsSliceOf sl vl vu .none->IsPart vl lo->IsPart vu hi->r x lo hi H Q ->
    ∃T id,typeLookup (.type T) "__getitem__" = pure (some (.builtin id))/\s.TypeIs v T/\wpAny (model X.prog X.w) X.A (getItem v (.ref sl)) (EP X pins σ Q) X.xe s
theorem SlR.or{r r':V->Option Int->Option Int->Hp->VK->Prop}(h:SlR X r)(h':SlR X r'):SlR X (fun x lo hi H Q=>r x lo hi H Q\/r' x lo hi H Q):=by
  intro pins s σ H x v vl vu lo hi sl Q I rx hs pl pu q
  rcases q with q | q
  . exact h pins s σ H x v vl vu lo hi sl Q I rx hs pl pu q
  . exact h' pins s σ H x v vl vu lo hi sl Q I rx hs pl pu q
def tSl(r:V->Option Int->Option Int->Hp->VK->Prop)(te:TE)(tl th:TO):TE:=fun σ H Q=>te σ H fun x H1=>tl σ H1 fun l H2=>th σ H2 fun u H3=>r x l u H3 Q
theorem pe_slice{r:V->Option Int->Option Int->Hp->VK->Prop}(hr:SlR X r)(he:PE X e te)(hl:PO X lo tl)(hu:PO X hi th):PE X (.Subscript e (.Slice lo hi none p2) pos) (tSl r te tl th):=by
  intro pins s σ H Q I h
  refine Subscript_ (thn (he pins s σ H _ I h) fun v s1 ⟨x,H1,I1,r1,q1⟩ => ?_)
  refine wpAny_Slice (thn (hl pins s1 σ H1 _ I1 q1) fun vl s2 ⟨l,H2,I2,pl,q2⟩=>thn (hu pins s2 σ H2 _ I2 q2) fun vu s3 ⟨u,H3,I3,pu,q3⟩ => ?_)
  rw [evalPart_none]
  refine wpAny_pure ?_
  have I4:Inv X pins σ H3 {s3 with heap:=s3.heap.push {cls:= .type "slice",data:= .fields #[vl,vu, .none]} }:=I3.kept (t':=s3.toks) fun b ob q=>Heap.get?_push_of_some _ q
  obtain ⟨T,id,hT,ht,hg⟩:=hr pins {s3 with heap:=s3.heap.push {cls:= .type "slice",data:= .fields #[vl,vu, .none]} } σ H3 x v vl vu l u s3.heap.objs.size Q I4 r1 (Heap.IsSliceOf.new ..) pl pu q3
  show wpAny (model X.prog X.w) X.A (subscriptTail e (.Slice lo hi none p2) v (.ref s3.heap.objs.size)) (EP X pins σ Q) X.xe {s3 with heap:=s3.heap.push {cls:= .type "slice",data:= .fields #[vl,vu, .none]} }
  exact tail_any (ops:= [.ref s3.heap.objs.size,v]) ht hT hg (by with_unfolding_all rfl)
def cutV(xs:List V)(lo hi:Option Int):List V:=(xs.drop (HT.sIx xs.length 0 lo)).take (HT.sIx xs.length xs.length hi - HT.sIx xs.length 0 lo)
theorem cutV_length(xs:List V)(lo hi:Option Int):(cutV xs lo hi).length<=xs.length:=by
  unfold cutV
  rw [List.length_take,List.length_drop]
  omega
def rSlT(K:PySem.W.Frag):V->Option Int->Option Int->Hp->VK->Prop:=fun x lo hi H Q=>∃a xs,x = .ref a/\SqT K H a xs /\
  ¬(HT.sIx xs.length 0 lo=0/\HT.sIx xs.length xs.length hi=xs.length)/\∀p,H p=none->Q (.ref p) (upd H p (.tup (cutV xs lo hi)))
theorem sl_tup:SlR X (rSlT X.K):=by
  intro pins s σ H x v vl vu lo hi sl Q I rx hs pl pu h
  obtain ⟨a,xs,rfl,hx,hw,q⟩:=h
  cases rx
  obtain ⟨its,r,ht,hz⟩:=I.tuple hx
  have hlen:its.toArray.size=xs.length:=by rw [List.size_toArray];exact r.length.symm
  refine ⟨"tuple",_,PyProof.Rows.slot_tuple_getitem.lookup,ht.typeIs,?_⟩
  refine HT.getItem_tuple_cut ht hs pl pu (by rw [hlen];exact hw) ?_ (by rw [hlen];exact hz)
  rw [hlen]
  refine ⟨.ref s.heap.objs.size,_,I.laid (t':=s.toks) (o:= .tup (cutV xs lo hi)) (fun b ob q=>Heap.get?_push_of_some _ q) (Nat.le_refl _) ?_,rfl,q _ (I.hok.fresh (Nat.le_refl _))⟩
  exact ⟨Nat.le_trans (cutV_length xs lo hi) hz,_,(r.drop (HT.sIx xs.length 0 lo)).take (HT.sIx xs.length xs.length hi - HT.sIx xs.length 0 lo),IsTup.new _ _⟩
def rCatT(K:PySem.W.Frag):R2:=fun x y H Q=>∃a b xs ys,x = .ref a/\y = .ref b/\SqT K H a xs/\SqT K H b ys/\xs ≠ []/\xs.length+ys.length<=sizeLine /\
  (ys = []->Q (.ref a) H)/\(ys ≠ []->∀p,H p=none->Q (.ref p) (upd H p (.tup (xs++ys))))
theorem Vals.nil_iff{xs:List V}{us:List Value}(r:Vals xs us):us = []↔xs = []:=by
  cases r with
  | nil=>simp
  | cons _ _=>simp
theorem op_catT:OpR X (binaryOp .Add) (rCatT X.K):=by
  intro pins s σ H x y v u Q I rx ry h
  obtain ⟨a,b,xs,ys,rfl,rfl,ha,hb,hx,hz,q1,q2⟩:=h
  cases rx
  cases ry
  obtain ⟨its,r1,p1,_⟩:=I.tuple ha
  obtain ⟨its2,r2,p2,_⟩:=I.tuple hb
  refine HT.cat_tup p1 p2 (fun z=>hx (r1.nil_iff.mp z)) (fun z=>⟨.ref a,H,I,rfl,q1 (r2.nil_iff.mp z)⟩) (fun z=> ?_) (by rw [<-r1.length, <-r2.length];exact hz)
  refine ⟨.ref s.heap.objs.size,_,I.laid (t':=s.toks) (o:= .tup (xs++ys)) (fun b ob q=>Heap.get?_push_of_some _ q) (Nat.le_refl _) ?_,rfl,q2 (fun w=>z (r2.nil_iff.mpr w)) _ (I.hok.fresh (Nat.le_refl _))⟩
  exact ⟨by rw [List.length_append];exact hz,_,r1.append r2,IsTup.new _ _⟩
end
end L2
namespace L2
open PySem PySem.Spec PyProof.Rows
def ixN(n:Nat)(i:Int):Option Nat:=if 0<=i then (if i<n then some i.toNat else none) else if -(n:Int)<=i then some (i+n).toNat else none
def atI{α:Type}(xs:List α)(i:Int):Option α:=(ixN xs.length i).bind fun j=>xs[j]?
theorem ixN_seq{n:Nat}{i:Int}{j:Nat}(h:ixN n i=some j):seqIndex? i n=some j/\j<n /\ -(n:Int)<=i/\i<n:=by
  unfold ixN at h
  by_cases h0:0<=i
  . rw [if_pos h0] at h
    by_cases h1:i<n
    . rw [if_pos h1] at h
      have e:i.toNat=j:=Option.some.inj h
      exact ⟨by rw [seqIndex_of h0 h1,e],by omega,by omega,h1⟩
    . rw [if_neg h1] at h;cases h
  . rw [if_neg h0] at h
    by_cases h1 : -(n:Int)<=i
    . rw [if_pos h1] at h
      have e:(i+n).toNat=j:=Option.some.inj h
      exact ⟨by rw [seqIndex_neg (by omega) h1,e],by omega,h1,by omega⟩
    . rw [if_neg h1] at h;cases h
theorem atI_get{α:Type}{xs:List α}{i:Int}{v:α}(h:atI xs i=some v):∃j,seqIndex? i xs.length=some j/\xs[j]? = some v/\j<xs.length /\ -(xs.length:Int)<=i/\i<xs.length:=by
  unfold atI at h
  cases e:ixN xs.length i with
  | none=>rw [e] at h;cases h
  | some j=>
    rw [e] at h
    obtain ⟨h1,h2,h3,h4⟩:=ixN_seq e
    exact ⟨j,h1,h,h2,h3,h4⟩
theorem atI_nat{α:Type}{xs:List α}{j:Nat}{v:α}(h:xs[j]? = some v):atI xs (j:Int)=some v:=by
  have hj:j<xs.length:=(List.getElem?_eq_some_iff.mp h).1
  have e:ixN xs.length (j:Int)=some j:=by
    unfold ixN
    rw [if_pos (by omega),if_pos (by omega)];simp
  unfold atI;rw [e];exact h
def PlainIx(b:Expr):Prop:=∀o i,subscripted b false o i=operate [o,i] (getItem o i)
def IxR(X:Cx)(r:R2):Prop:=
  ∀(value slice:Expr) (pins:List (Addr×Obj)) (s:Shared) (σ:St) (H:Hp) (x y:V) (v u:Value) (Q:VK),Inv X pins σ H s->RelV x v->RelV y u->r x y H Q ->
    subscripted slice false v u=operate [v,u] (getItem v u)->wpAny (model X.prog X.w) X.A (subscriptTail value slice v u) (EP X pins σ Q) X.xe s
def MtR(X:Cx)(id:String)(r:V->List V->Hp->VK->Prop):Prop:=
  ∀(pins:List (Addr×Obj)) (s:Shared) (σ:St) (H:Hp) (x:V) (xs:List V) (v:Value) (us:List Value) (Q:VK),Inv X pins σ H s->RelV x v->Vals xs us->r x xs H Q ->
    wpAny (model X.prog X.w) X.A (call (.builtin id) (v::us)) (EP X pins σ Q) X.xe s
section
variable {X:Cx} {a b:Expr} {ta tb:TE} {pos:Pos}
theorem IxR.or{r r':R2}(h:IxR X r)(h':IxR X r'):IxR X (fun x y H Q=>r x y H Q\/r' x y H Q):=by
  intro value slice pins s σ H x y v u Q I rx ry q hs
  rcases q with q | q
  . exact h value slice pins s σ H x y v u Q I rx ry q hs
  . exact h' value slice pins s σ H x y v u Q I rx ry q hs
theorem MtR.or{id:String}{r r':V->List V->Hp->VK->Prop}(h:MtR X id r)(h':MtR X id r'):MtR X id (fun x xs H Q=>r x xs H Q\/r' x xs H Q):=by
  intro pins s σ H x xs v us Q I rx rs q
  rcases q with q | q
  . exact h pins s σ H x xs v us Q I rx rs q
  . exact h' pins s σ H x xs v us Q I rx rs q
theorem pe_ix{r:R2}(hr:IxR X r)(ha:PE X a ta)(hb:PE X b tb)(hs:PlainIx b):PE X (.Subscript a b pos) (tOp r ta tb):=by
  intro pins s σ H Q I h
  exact Subscript_ (binT ha hb I h fun v u s2 x y H2 I2 rx ry q=>hr a b pins s2 σ H2 x y v u Q I2 rx ry q (hs _ _))
def rIxL(K:PySem.W.Frag):R2:=fun x y H Q=>∃p xs i v,x = .ref p/\y = .int i/\SqL K H p xs/\atI xs i=some v/\Q v H
def rIxT(K:PySem.W.Frag):R2:=fun x y H Q=>∃p xs i v,x = .ref p/\y = .int i/\SqT K H p xs/\atI xs i=some v/\Q v H
def rIxS:R2:=fun x y H Q=>∃z i c,x = .str z/\y = .int i/\z.length<=sizeLine/\atI z.cps.toList i=some c/\Q (.str ⟨#[c]⟩) H
theorem ix_list:IxR X (rIxL X.K):=by
  intro value slice pins s σ H x y v u Q I rx ry h hs
  obtain ⟨p,xs,i,z,rfl,rfl,hq,he,q⟩:=h
  cases rx
  obtain ⟨t,rfl⟩:=ry
  obtain ⟨its,r,pl,hz⟩:=I.list hq
  obtain ⟨j,h1,h2,h3,h4,h5⟩:=atI_get he
  obtain ⟨w,ew,rw'⟩:=r.get h2
  have hl:=r.length
  have hn:=line63
  have fin:EP X pins σ Q w s:=⟨z,H,I,rw',q⟩
  by_cases h0:0<=i
  . have hj : i.toNat = j := by
      rw [seqIndex_of h0 h5] at h1
      exact Option.some.inj h1
    exact item_listR pl.isList h0 (by omega) (by rw [hj];simpa using ew) fin hs
  . have hj : (i + (its.toArray.size : Int)).toNat = j := by
      rw [seqIndex_neg (by omega) h4] at h1
      rw [List.size_toArray, <-hl]
      exact Option.some.inj h1
    exact subscriptTail_builtinR (x:=w) pl.isList.typeIs slot_list_getitem.lookup
      (wpAny_getItem_list_neg (Q:=fun r s'=>r=w/\EP X pins σ Q r s') pl.isList (by omega) (by rw [List.size_toArray] <;> omega) (by omega) (by rw [hj];simpa using ew) ⟨rfl,fin⟩) hs
theorem ix_tup:IxR X (rIxT X.K):=by
  intro value slice pins s σ H x y v u Q I rx ry h hs
  obtain ⟨p,xs,i,z,rfl,rfl,hq,he,q⟩:=h
  cases rx
  obtain ⟨t,rfl⟩:=ry
  obtain ⟨its,r,pl,hz⟩:=I.tuple hq
  obtain ⟨j,h1,h2,h3,h4,h5⟩:=atI_get he
  obtain ⟨w,ew,rw'⟩:=r.get h2
  have hl:=r.length
  have hn:=line63
  have fin:EP X pins σ Q w s:=⟨z,H,I,rw',q⟩
  exact subscriptTail_builtinR (x:=w) pl.typeIs slot_tuple_getitem.lookup
    (getItem_tuple (j:=j) (Q:=fun r s'=>r=w/\EP X pins σ Q r s') pl (by omega) (by omega) (by rw [List.size_toArray, <-hl];exact h1) (by simpa using ew) ⟨rfl,fin⟩) hs
theorem ix_str:IxR X rIxS:=by
  intro value slice pins s σ H x y v u Q I rx ry h hs
  obtain ⟨z,i,c,rfl,rfl,hz,he,q⟩:=h
  obtain ⟨t,rfl⟩:=rx
  obtain ⟨t',rfl⟩:=ry
  obtain ⟨j,h1,h2,h3,h4,h5⟩:=atI_get he
  have hl:z.cps.toList.length=z.length:=by simp [Str.length]
  rw [hl] at h1 h4 h5
  have hn:=line63
  exact tail_any (typeIs_str s z t) slot_str_getitem.lookup (getItem_str (c:=c) (by
    have e1:decide (i < -(2 ^ 63:Int))=false:=decide_eq_false (by omega)
    have e2:decide (i≥2 ^ 63)=false:=decide_eq_false (by omega)
    rw [e1,e2,Bool.or_false]) (by rw [h1];simpa using h2) ⟨.str ⟨#[c]⟩,H,I.tok _,⟨_,rfl⟩,q⟩) hs
def rIx(K:PySem.W.Frag):R2:=fun x y H Q=>rIxL K x y H Q\/rIxT K x y H Q\/rIxS x y H Q
theorem ix_seq:IxR X (rIx X.K):=ix_list.or (ix_tup.or ix_str)
theorem mapSeq_set(its:List Value)(n j:Nat)(u:Value):Obj.mapSeq (·.setIfInBounds j u) {cls:= .type "list",data:= .seq its.toArray n}={cls:= .type "list",data:= .seq (its.set j u).toArray n}:=by
  simp [Obj.mapSeq]
theorem Inv.lst {pins : List (Addr × Obj)} {σ : St} {H : Hp} {s : Shared} {p : Addr} {xs : List V} (I : Inv X pins σ H s) (h : H p = some (.lst xs)) :
    ∃(its:List Value) (n:Nat),Vals xs its/\s.heap.get? p=some {cls:= .type "list",data:= .seq its.toArray n}/\xs.length<=sizeLine:=by
  obtain ⟨z,its,n,r,e⟩:=I.hok p _ h
  exact ⟨its,n,r,e,z⟩
theorem Inv.lstUpd {pins : List (Addr × Obj)} {σ : St} {H : Hp} {s : Shared} {p : Addr} {xs ys : List V} {its its' : List Value} {n n' : Nat} {f : Obj -> Obj} (I : Inv X pins σ H s) (h : H p = some (.lst xs))
    (ho:s.heap.get? p=some {cls:= .type "list",data:= .seq its.toArray n}) (hf:f {cls:= .type "list",data:= .seq its.toArray n}={cls:= .type "list",data:= .seq its'.toArray n' }) (r:Vals ys its') (hz:ys.length<=sizeLine) (t:Nat) :
    Inv X pins σ (upd H p (.lst ys)) {s with heap:=s.heap.update p f,toks:=t}:=by
  have e:(s.heap.update p f).get? p=some {cls:= .type "list",data:= .seq its'.toArray n' }:=by
    rw [Heap.get?_update_self f ho (by rw [hf] <;> rfl),hf]
  refine I.write (x:=p) (e:=p) (by rw [h];trivial) (.inl rfl) (fun b u hb q=>(Heap.get?_update_other _ _ (Ne.symm hb)).trans q) ⟨_,e⟩ ?_
  exact ⟨hz,its',n',r,e⟩
def rSetL:V->V->V->Hp->(Hp->Prop)->Prop:=fun o i v H Q=>∃p xs k j,o = .ref p/\i = .int k/\H p=some (.lst xs)/\ixN xs.length k=some j/\Q (upd H p (.lst (xs.set j v)))
theorem set_list:PSet X rSetL:=by
  intro pins s σ H o i v ov iv u Q I ro ri rv h
  obtain ⟨p,xs,k,j,rfl,rfl,hp,hj,q⟩:=h
  cases ro
  obtain ⟨t,rfl⟩:=ri
  obtain ⟨its,n,r,ho,hz⟩:=I.lst hp
  obtain ⟨h1,h2,h3,h4⟩:=ixN_seq hj
  have hl:=r.length
  have hn:=line63
  have I':Inv X pins σ (upd H p (.lst (xs.set j v))) {s with heap:=s.heap.update p (Obj.mapSeq (·.setIfInBounds j u))} :=
    I.lstUpd hp ho (mapSeq_set its n j u) (r.set rv j) (by rw [List.length_set];exact hz) s.toks
  by_cases h0:0<=k
  . have hk : k.toNat = j := by
      rw [seqIndex_of h0 h4] at h1
      exact Option.some.inj h1
    exact PySem.W.ki_setAt ho h0 (by omega) (by rw [List.size_toArray, <-hl];exact h4) (by rw [hk];exact ⟨_,I',q⟩)
  . have hk : (k + (its.toArray.size : Int)).toNat = j := by
      rw [seqIndex_neg (by omega) h3] at h1
      rw [List.size_toArray, <-hl]
      exact Option.some.inj h1
    exact PySem.W.ki_setBack ho (by omega) (by rw [List.size_toArray, <-hl];exact h3) (by omega) (by rw [hk];exact ⟨_,I',q⟩)
theorem slice_bounds(lo hi:Option Int)(n:Nat):(sliceBounds lo hi none n).1=((HT.sIx n 0 lo:Nat):Int)/\(sliceBounds lo hi none n).2.1=((HT.sIx n n hi:Nat):Int)/\(sliceBounds lo hi none n).2.2=1:=by
  refine ⟨?_,?_,rfl⟩
  . cases lo with
    | none=>simp [sliceBounds,HT.sIx]
    | some i=>
      simp only [sliceBounds,HT.sIx,Option.getD_none,show (1:Int)>0 by decide,if_true]
      by_cases h:i<0
      . simp only [h,if_true] <;> omega
      . simp only [h,if_false] <;> omega
  . cases hi with
    | none=>simp [sliceBounds,HT.sIx]
    | some i=>
      simp only [sliceBounds,HT.sIx,Option.getD_none,show (1:Int)>0 by decide,if_true]
      by_cases h:i<0
      . simp only [h,if_true] <;> omega
      . simp only [h,if_false] <;> omega
theorem slicePick_cut(its:List Value)(lo hi:Option Int):slicePick its.toArray lo hi none=((its.drop (HT.sIx its.length 0 lo)).take (HT.sIx its.length its.length hi - HT.sIx its.length 0 lo)).toArray:=by
  obtain ⟨h1,h2,h3⟩:=slice_bounds lo hi its.toArray.size
  unfold slicePick
  rw [h1,h2,h3]
  simp only [sliceRange_one,pick_run,List.size_toArray] <;> rfl
def rSlL(K:PySem.W.Frag):V->Option Int->Option Int->Hp->VK->Prop:=fun x lo hi H Q=>∃a xs,x = .ref a/\SqL K H a xs/\∀p,H p=none->Q (.ref p) (upd H p (.lst (cutV xs lo hi)))
theorem sl_list:SlR X (rSlL X.K):=by
  intro pins s σ H x v vl vu lo hi sl Q I rx hs pl pu h
  obtain ⟨a,xs,rfl,hx,q⟩:=h
  cases rx
  obtain ⟨its,r,ht,hz⟩:=I.list hx
  have hlen:=r.length
  refine ⟨"list",_,slot_list_getitem.lookup,ht.isList.typeIs,?_⟩
  refine wpAny_getItem_list_slice ht.isList hs pl pu .none (by simp) ?_ (by rw [List.size_toArray] <;> omega)
  rw [slicePick_cut, <-hlen]
  refine ⟨.ref s.heap.objs.size,_,I.laid (t':=s.toks) (o:= .lst (cutV xs lo hi)) (fun b ob q=>Heap.get?_push_of_some _ q) (Nat.le_refl _) ?_,rfl,q _ (I.hok.fresh (Nat.le_refl _))⟩
  exact ⟨Nat.le_trans (cutV_length xs lo hi) hz,_,0,(r.drop (HT.sIx xs.length 0 lo)).take (HT.sIx xs.length xs.length hi - HT.sIx xs.length 0 lo),Heap.get?_push_size _ rfl⟩
theorem call_len_seq:CallR X (.builtin "len") (fun xs H Q=>∃p ys,xs = [.ref p]/\(SqL X.K H p ys\/SqT X.K H p ys)/\Q (.int ys.length) H):=by
  intro pins s σ H xs us Q I r h
  obtain ⟨p,ys,rfl,hq,q⟩:=h
  obtain ⟨u,rfl,rx⟩:=vals1 r
  cases rx
  have hn:=line63
  rcases hq with hq | hq
  . obtain ⟨its,r',pl,hz⟩:=I.list hq
    have hlen:=r'.length
    exact Calls.call_len_list pl.isList (by simp only [List.size_toArray] <;> omega) ⟨.int ys.length,H,I.tok _,⟨s.toks+1,by rw [List.size_toArray,hlen]⟩,q⟩
  . obtain ⟨its,r',pl,hz⟩:=I.tuple hq
    have hlen:=r'.length
    exact len_tuple pl (by simp only [List.size_toArray] <;> omega) ⟨.int ys.length,H,I.tok _,⟨s.toks+1,by rw [List.size_toArray,hlen]⟩,q⟩
theorem CallR.or{f:Value}{r r':List V->Hp->VK->Prop}(h:CallR X f r)(h':CallR X f r'):CallR X f (fun xs H Q=>r xs H Q\/r' xs H Q):=by
  intro pins s σ H xs us Q I rs q
  rcases q with q | q
  . exact h pins s σ H xs us Q I rs q
  . exact h' pins s σ H xs us Q I rs q
theorem call_list_of:CallR X (.type "list") (fun xs H Q=>∃p ys,xs = [.ref p]/\(SqL X.K H p ys\/SqT X.K H p ys)/\∀l,H l=none->Q (.ref l) (upd H l (.lst ys))):=by
  intro pins s σ H xs us Q I r h
  obtain ⟨p,ys,rfl,hq,q⟩:=h
  obtain ⟨u,rfl,rx⟩:=vals1 r
  cases rx
  have fin : ∀ (its : List Value), Vals ys its -> ys.length <= sizeLine -> ∀ (h' : Heap) (c' : Nat), (∀ b o', s.heap.get? b = some o' -> h'.get? b = some o') ->
      h'.get? s.heap.objs.size=some {cls:= .type "list",dict:=none,data:= .seq its.toArray c',slots:= #[]}->EP X pins σ Q (.ref s.heap.objs.size) {s with heap:=h' }:=fun its r' hz h' c' kp e=>
    ⟨.ref s.heap.objs.size,_,I.laid (t':=s.toks) kp (Nat.le_refl _) (show ObjOk X.prog X.w _ h' _ (.lst ys) from ⟨hz,its,c',r',e⟩),rfl,q _ (I.hok.fresh (Nat.le_refl _))⟩
  rcases hq with hq | hq
  . obtain ⟨its,r',pl,hz⟩:=I.list hq
    have hlen:=r'.length
    obtain ⟨o,ho,hc,n,hd⟩:=pl.isList
    exact call_list_seq p (.inl rfl) ho hc hd (fun h' c' kp e=>fin its r' hz h' c' kp e) (by simp only [List.size_toArray] <;> omega)
  . obtain ⟨its,r',pl,hz⟩:=I.tuple hq
    have hlen:=r'.length
    obtain ⟨o,ho,hc,n,hd⟩:=pl
    exact call_list_seq p (.inr rfl) ho hc hd (fun h' c' kp e=>fin its r' hz h' c' kp e) (by simp only [List.size_toArray] <;> omega)
def tyV(K:PySem.W.Frag)(T:String)(x:V)(H:Hp):Prop:=match x with
  | .str _=>T = "str"
  | .int _=>T = "int"
  | .ref p => (T = "list" /\ ∃ xs, SqL K H p xs) \/ (T = "tuple" /\ ∃ o, K.lookup p = some o /\ o.cls = .type "tuple" /\ o.dict = none) \/
      (T = "dict" /\ ((∃kvs,H p=some (.dK kvs))\/∃kvs,H p=some (.dT kvs)))\/(T = "set" /\ ∃S n,H p=some (.set S n))
  | _=>False
theorem tyV_is {pins : List (Addr × Obj)} {σ : St} {H : Hp} {s : Shared} {T : String} {x : V} {v : Value} (I : Inv X pins σ H s) (r : RelV x v) (ty : tyV X.K T x H) :
    s.TypeIs v T/\∀a,v = .ref a->∃ob,s.heap.get? a=some ob/\ob.dict=none:=by
  cases x with
  | str z=>
    obtain ⟨t,rfl⟩:=r
    cases (show T = "str" from ty)
    exact ⟨typeIs_str s z t,fun _ e=>nomatch e⟩
  | int i=>
    obtain ⟨t,rfl⟩:=r
    cases (show T = "int" from ty)
    exact ⟨typeIs_int s i t,fun _ e=>nomatch e⟩
  | ref p=>
    cases r
    rcases ty with ⟨rfl,xs,hq⟩ | ⟨rfl,o,hk,hc,hd⟩ | ⟨rfl,hk⟩ | ⟨rfl,S,n,hk⟩
    . obtain ⟨its,_,pl,_⟩:=I.list hq
      refine ⟨pl.isList.typeIs,fun a e=> ?_⟩
      cases e
      obtain ⟨o,n,e,c,hd,_⟩:=pl
      exact ⟨o,e,hd⟩
    . refine ⟨⟨o,I.kIn p o hk,hc⟩,fun a e=> ?_⟩
      cases e
      exact ⟨o,I.kIn _ o hk,hd⟩
    . have z : ∃ o, s.heap.get? p = some o /\ o.ExactDict := by
        rcases hk with ⟨kvs,hk⟩ | ⟨kvs,hk⟩
        . obtain ⟨_,_,_,_,o,_,_,e,ex,_⟩:=I.hok p _ hk
          exact ⟨o,e,ex⟩
        . obtain ⟨_,_,_,_,o,_,_,e,ex,_⟩:=I.hok p _ hk
          exact ⟨o,e,ex⟩
      obtain ⟨o,e,ex⟩:=z
      refine ⟨⟨o,e,ex.1⟩,fun a e2=> ?_⟩
      cases e2
      exact ⟨o,e,ex.2.1⟩
    . obtain ⟨o,_,_,_,e,ex,_⟩:=I.hok p _ hk
      refine ⟨⟨o,e,ex.1⟩,fun a e2=> ?_⟩
      cases e2
      exact ⟨o,e,ex.2.1⟩
  | _=>exact False.elim ty
def tBM(K:PySem.W.Frag)(T:String)(r:V->List V->Hp->VK->Prop)(to:TE)(t:TA):TE:=fun σ H Q=>to σ H fun x H1=>tyV K T x H1/\t σ H1 fun xs H2=>r x xs H2 Q
variable {o e:Expr} {es:List Expr} {to:TE} {t:TA} {name:Str} {apos cpos:Pos} {T id:String} {r:V->List V->Hp->VK->Prop}
theorem pe_bm (pa : PlainAttrs T) (slot : Slot T name id) (hty : typeOf (.builtin id) = pure (.type "method_descriptor")) (hm : MtR X id r) (ho : PE X o to) (ha : PA X (e :: es) t)
    (hbase:attributeBase o name X.env (eval o X.env)=eval o X.env:=by rfl)
    (hfew:((backTo cpos (starEach (e::es) X.env)).all (fun x=> !x.1) && (backToKw cpos (keywordEach [] X.env)).all (fun x=>x.1.isSome)
      && decide ((e::es).length+([]:List Keyword).length+(if ([]:List Keyword).isEmpty then 0 else 1)<30))=true:=by rfl)
    (hline:(apos.endLine==cpos.line)=true:=by rfl) (hs:starEach (e::es) X.env=(false,eval e X.env)::starEach es X.env:=by rfl) (hplain:(backTo cpos (starEach es X.env)).any (·.1)=false:=by rfl) :
    PE X (.Call (.Attribute o name apos) (e::es) [] cpos) (tBM X.K T r to t):=by
  intro pins s σ H Q I h
  refine wpAny_Call_method_late hbase hfew hline rfl (thn (ho pins s σ H _ I h) fun v s1 ⟨x,H1,I1,r1,ty,q1⟩ => ?_)
  obtain ⟨h1,h2⟩:=tyV_is I1 r1 ty
  refine ⟨T,id,pa,slot,hty,h1,h2,?_⟩
  have hA:=ha cpos pins s1 σ H1 _ I1 q1
  rw [hs] at hA ⊢
  refine Calls.callWith_builtin (by show (false || (backTo cpos (starEach es X.env)).any (·.1))=false;rw [hplain] <;> rfl) (Calls.evalArgs_plain ?_)
  exact thn hA fun us s2 ⟨vs,H2,I2,r2,q2⟩=>hm pins s2 σ H2 x vs v us Q I2 r1 r2 q2
/- xs.append(e),list.index on a module's tuple .. are MtR facts of 06m -/
end
end L2
namespace L2
open PySem PySem.Spec PyProof.Rows
def MtM(X:Cx)(id:String)(r:V->List V->Hp->VK->Prop):Prop:=
  ∀(pins:List (Addr×Obj)) (s:Shared) (σ:St) (H:Hp) (x:V) (xs:List V) (v:Value) (us:List Value) (Q:VK),Inv X pins σ H s->RelV x v->Vals xs us->r x xs H Q ->
    wpAny (model X.prog X.w) X.A (call (.builtin id) (v::us)) (EP X pins σ Q) X.xe s
theorem Vals.one:∀ {x:V} {us:List Value},Vals [x] us->∃u,us = [u]/\RelV x u
  | _,_, .cons r .nil=>⟨_,rfl,r⟩
theorem Vals.two:∀ {x y:V} {us:List Value},Vals [x,y] us->∃u v,us = [u,v]/\RelV x u/\RelV y v
  | _,_,_, .cons r (.cons q .nil)=>⟨_,_,rfl,r,q⟩
theorem Vals.zero:∀ {us:List Value},Vals [] us->us = []
  | _, .nil=>rfl
theorem Vals.reverse{xs:List V}{us:List Value}(h:Vals xs us):Vals xs.reverse us.reverse:=by
  induction h with
  | nil=>exact .nil
  | cons r t ih=>rw [List.reverse_cons,List.reverse_cons];exact Vals.append ih (.cons r .nil)
theorem Vals.rep{xs:List V}{us:List Value}(h:Vals xs us):∀k:Nat,Vals (List.replicate k xs).flatten (List.replicate k us).flatten
  | 0=> .nil
  | k+1=>by
    rw [List.replicate_succ,List.replicate_succ,List.flatten_cons,List.flatten_cons]
    exact Vals.append h (Vals.rep h k)
theorem foldl_rep (its : List Value) : ∀ (k : Nat) (acc : List Value),
    List.foldl (fun x1 x2=>x1++x2) acc.toArray (List.replicate k its.toArray)=(acc++(List.replicate k its).flatten).toArray
  | 0,acc=>by simp
  | k+1,acc=>by
    have e:acc.toArray++its.toArray=(acc++its).toArray:=by simp
    have e2:(acc++its)++(List.replicate k its).flatten=acc++(List.replicate (k+1) its).flatten:=by
      rw [List.replicate_succ,List.flatten_cons,List.append_assoc]
    rw [<-e2, <-foldl_rep its k (acc++its), <-e,List.replicate_succ,List.foldl_cons]
section
variable {X:Cx} {pins:List (Addr×Obj)} {σ:St} {H:Hp} {s:Shared} {l b:Addr} {xs ys zs:List V}
theorem Inv.lset {its its' : List Value} {n : Nat} {f : Array Value -> Array Value} {t' : Nat} (I : Inv X pins σ H s) (hH : H l = some (.lst xs))
    (e:s.heap.get? l=some {cls:= .type "list",data:= .seq its.toArray n}) (hf:f its.toArray=its'.toArray) (hv:Vals ys its') (hz:ys.length<=sizeLine) :
    Inv X pins σ (upd H l (.lst ys)) {s with heap:=s.heap.update l (Obj.mapSeq f),toks:=t' }:=by
  have q:=PySem.IsL.update e f
  rw [hf] at q
  refine I.write (x:=l) (e:=l) (by rw [hH];exact trivial) (.inl rfl) (fun b' u hb hu=>(Heap.get?_update_other s.heap (Obj.mapSeq f) (Ne.symm hb)).trans hu) ⟨_,q⟩ ?_
  exact ⟨hz,its',_,hv,q⟩
theorem Inv.lnew {its : List Value} {t' : Nat} (I : Inv X pins σ H s) (hv : Vals ys its) (hz : ys.length <= sizeLine) :
    Inv X pins σ (upd H s.heap.objs.size (.lst ys)) {s with heap:=s.heap.push {cls:= .type "list",data:= .seq its.toArray},toks:=t' } :=
  I.laid (fun _ _ q=>Heap.get?_push_of_some _ q) (Nat.le_refl _) ⟨hz,its,0,hv,Heap.get?_push_size _ rfl⟩
theorem Inv.fresh(I:Inv X pins σ H s):H s.heap.objs.size=none:=I.hok.fresh (Nat.le_refl _)
theorem Inv.lstM(I:Inv X pins σ H s)(hH:H l=some (.lst xs)):xs.length<=sizeLine/\∃(its:List Value) (n:Nat),Vals xs its/\xs.length=its.length/\s.heap.get? l=some {cls:= .type "list",data:= .seq its.toArray n}:=by
  obtain ⟨z,its,n,r,e⟩:=I.hok l _ hH
  exact ⟨z,its,n,r,r.length,e⟩
theorem notLongL{n:Nat}(h:n<=sizeLine):Builtin.List.listTooLong n=false:=by
  unfold Builtin.List.listTooLong
  exact decide_eq_false (by omega)
end
section
variable {X:Cx}
def rAppend:V->List V->Hp->VK->Prop:=fun x vs H Q=>∃l xs y,x = .ref l/\vs = [y]/\H l=some (.lst xs)/\xs.length<sizeLine/\Q .non (upd H l (.lst (xs ++ [y])))
theorem mt_append:MtM X "list.append" rAppend:=by
  intro pins s σ H x vs v us Q I rx rv h
  obtain ⟨l,xs,y,rfl,rfl,hH,hz,q⟩:=h
  cases rx
  obtain ⟨u,rfl,ru⟩:=rv.one
  obtain ⟨z,its,n,r,hl,e⟩:=I.lstM hH
  refine call_meets F.slot_list_append ⟨_,e,rfl⟩ F.entry_list_append (F.args_list_append_2 _ _) (PySem.list_append l its.toArray n u (by rw [List.size_toArray];omega)) ⟨e,?_⟩
  refine ⟨.non,_,I.lset (its':=its ++ [u]) hH e (by simp) (r.append (.cons ru .nil)) ?_,rfl,q⟩
  rw [List.length_append,List.length_singleton]
  omega
def rRep:R2:=fun x y H Q=>∃l k xs,x = .ref l/\y = .int k/\H l=some (.lst xs) /\ -(2 ^ 63)<=k/\k<2 ^ 63/\xs.length*k.toNat<=sizeLine /\
  ∀p,H p=none->Q (.ref p) (upd H p (.lst (List.replicate k.toNat xs).flatten))
theorem len_rep{α:Type}(xs:List α)(k:Nat):(List.replicate k xs).flatten.length=k*xs.length:=by
  induction k with
  | zero=>simp
  | succ k ih=>rw [List.replicate_succ,List.flatten_cons,List.length_append,ih,Nat.succ_mul,Nat.add_comm]
theorem op_rep:OpR X (binaryOp .Mult) rRep:=by
  intro pins s σ H x y v u Q I rx ry h
  obtain ⟨l,k,xs,rfl,rfl,hH,h1,h2,hz,q⟩:=h
  cases rx
  obtain ⟨t,rfl⟩:=ry
  obtain ⟨z,its,n,r,hl,e⟩:=I.lstM hH
  have hlen:its.toArray.size*k.toNat<=sizeLine:=by rw [List.size_toArray, <-hl];exact hz
  have hcap:¬its.toArray.size*k.toNat>(2 ^ 63 - 1) / 8:=by
    have:(sizeLine:Nat)<=(2 ^ 63 - 1) / 8:=by decide
    omega
  have hfit:¬(!Builtin.List.listFitsIndex k)=true:=by
    rw [fitsIndex_both h1 h2]
    exact Bool.false_ne_true
  have hlong:¬Builtin.List.listTooLong (its.toArray.size*k.toNat)=true:=by
    rw [notLongL hlen]
    exact Bool.false_ne_true
  have hnew:List.foldl (fun x1 x2=>x1++x2) #[] (List.replicate (if its.toArray.isEmpty=true then 0 else k.toNat) its.toArray)=(List.replicate k.toNat its).flatten.toArray:=by
    have f0:∀m:Nat,List.foldl (fun x1 x2=>x1++x2) #[] (List.replicate m its.toArray)=(List.replicate m its).flatten.toArray:=fun m=>by
      have:=foldl_rep its m []
      rw [List.nil_append] at this
      exact this
    rw [f0]
    cases its with
    | nil=>simp
    | cons a r'=>rw [if_neg (by simp)]
  refine wpAny_binaryOp_repeat_ref (T:= "list") (U:= "int") (by decide) ⟨_,e,rfl⟩ (fun s'=>typeIs_int s' k t) noFill_list_mul F.fills_int_mul F.slot_int_rmul repeat_list F.slot_int_index.lookup
    (call_meets F.slot_int_rmul (typeIs_int s k t) F.entry_int_rmul (F.args_int_rmul_2 _ _) (int___rmul___int_list k t l its.toArray n)
      ⟨e,rfl,⟨_,e,rfl⟩,call_meets F.slot_list_mul ⟨_,e,rfl⟩ F.entry_list_mul (F.args_list_mul_2 _ _) (AutoListH.list___mul___list_int_3 l its.toArray n k t hfit hcap hlong) ⟨e,?_⟩⟩)
  rw [hnew]
  exact ⟨.ref _,_,I.lnew (t':=s.toks) (r.rep k.toNat) (by rw [len_rep,Nat.mul_comm];exact hz),rfl,q _ I.fresh⟩
end
section
variable {prog:Program} {w:World} {A:Around} {E:Value->Shared->Prop} {s:Shared}
theorem bounds_run{a c n:Nat}(hac:a<=c)(hc:c<=n):sliceBounds (some (a:Int)) (some (c:Int)) none n=((a:Int),(c:Int),1):=by
  simp only [sliceBounds,Option.getD_none]
  have h1:¬((a:Int)<0):=by omega
  have h2:¬((c:Int)<0):=by omega
  simp only [h1,h2,if_false,show (1:Int)>0 by decide,if_true]
  congr 1
  . omega
  . congr 1;omega
set_option maxRecDepth 100000 in
theorem setItem_slice {l b sl : Addr} {items new : Array Value} {n n2 : Nat} {vl vu : Value} {a c : Nat} {Q : Unit -> Shared -> Prop}
    (e:s.heap.get? l=some {cls:= .type "list",data:= .seq items n}) (e2:s.heap.get? b=some {cls:= .type "list",data:= .seq new n2}) (hne:l≠b)
    (hs:s.heap.IsSliceOf sl vl vu .none) (pl:IsPart vl (some (a:Int))) (pu:IsPart vu (some (c:Int))) (hac:a<=c) (hc:c<=items.size)
    (hsz:items.size+new.size<=sizeLine) (h:Q () {s with heap:=s.heap.update l (Obj.mapSeq fun xs=>xs.extract 0 a++new++xs.extract c xs.size)}) :
    wpAny (model prog w) A (setItem (.ref l) (.ref sl) (.ref b)) Q E s:=by
  have hl:s.heap.IsList l items:=PySem.IsL.isList e
  have hb:s.heap.IsList b new:=PySem.IsL.isList e2
  obtain ⟨os,hos,hcs,hds⟩:=id hs
  have hTs:s.TypeIs (.ref sl) "slice" :=⟨os,hos,hcs⟩
  have hstep:¬((rawPart none==rawInt 0)=true):=Bool.false_ne_true
  have hsame:Builtin.List.listSameRef (.ref l) (.ref b)=false:=by
    unfold Builtin.List.listSameRef
    exact beq_eq_false_iff_ne.mpr hne
  have hmax:(max (a:Int) (c:Int)).toNat=c:=by omega
  have hz':((fun xs:Array Value=>xs.extract 0 a++new++xs.extract c xs.size) items).size<=sizeLine+1:=by
    simp only [Array.size_append,Array.size_extract]
    omega
  unfold setItem
  try with_reducible refine wpAny_holding ?_
  first | refine wpAny_bind (wpAny_pure ?_) | skip
  refine wpAny_bind (wpAny_sequenceKey hl.typeIs (by decide) ?_)
  refine wpAny_bind (wpAny_callSpecial?_slot (name:=Str.ofString "__setitem__") hl.typeIs slot_list_setitem
    (wpAny_call_entry slot_list_setitem hl.typeIs entry_list_setitem ?_ (args_list_setitem _ _ _)))
  show wpAny _ _ (Builtin.List.listSubscript? (.ref sl) >>= _) _ _ s
  refine wpAny_bind ?_
  unfold Builtin.List.listSubscript?
  refine wpAny_bind (wpAny_specialOf hTs slice_no_index ?_)
  simp only [Option.isNone_none,if_true]
  refine wpAny_pure ?_
  show wpAny _ _ (typeOf (.ref sl) >>= _) _ _ s
  refine wpAny_bind (wpAny_typeOf hTs ?_)
  first
    | rw [if_neg (by decide)]
    | refine PySem.W.KFB.if_not (by decide) ?_
  rw [listSliceParts_eq]
  refine wpAny_bind (wpAny_bind (wpAny_field hos hds (x:= .none) rfl (wpAny_bind (wpAny_listPart .none ?_))))
  rw [if_neg hstep]
  refine wpAny_bind (wpAny_field hos hds (x:=vl) rfl (wpAny_bind (wpAny_listPart pl ?_)))
  refine wpAny_bind (wpAny_field hos hds (x:=vu) rfl (wpAny_bind (wpAny_listPart pu (wpAny_pure ?_))))
  first
    | simp only [hsame,Bool.false_eq_true,if_false]
    | refine PySem.W.KFB.if_not hsame ?_
    | (dsimp only
       rw [if_neg (by rw [hsame];exact Bool.false_ne_true)])
  refine wpAny_bind (m:=Builtin.List.listAllItems (.ref b) "must assign iterable to extended slice") ?_
  unfold Builtin.List.listAllItems
  refine wpAny_bind (wpAny_typeOf hb.typeIs ?_)
  first
    | refine PySem.W.KFB.if_so (by decide) ?_
    | rw [if_pos (by decide)]
    | simp only [beq_self_eq_true,Bool.true_or,if_true]
  unfold Builtin.List.listItems
  refine wpAny_bind (wpAny_seqItems e2 rfl (wpAny_pure ?_))
  refine wpAny_bind (wpAny_bind (wpAny_seqItems e rfl (wpAny_pure ?_)))
  refine wpAny_bind (wpAny_of_eq ((sliceIndices_raw (some (a:Int)) (some (c:Int)) none items.size (by simp)).trans (congrArg (pure:Int×Int×Int->Sem (Int×Int×Int)) (bounds_run hac hc))) ?_)
  show wpAny _ _ (if ((1:Int)==1)=true then _ else _) _ _ s
  rw [if_pos (by decide)]
  refine wpAny_bind (wpAny_rule ?_)
  first
    | simp only [notLongL hsz,Bool.false_eq_true,if_false]
    | refine PySem.W.KFB.if_not (notLongL hsz) ?_
  first | refine wpAny_bind (wpAny_pure ?_) | skip
  show wpAny _ _ (updateSeq l (fun xs=>xs.extract 0 ((a:Int)).toNat++new++xs.extract (max (a:Int) (c:Int)).toNat xs.size) >>= _) _ _ s
  rw [hmax,Int.toNat_natCast]
  refine wpAny_bind (wpAny_updateSeq (hz:=Nat.le_trans (Nat.le_add_right _ _) hsz) (_hz':=hz') e rfl ?_)
  refine wpAny_bind (wpAny_letGo ?_)
  first
    | exact wpAny_bind (wpAny_pure (wpAny_pure ⟨.none,rfl,wpAny_pure h⟩))
    | exact wpAny_pure ⟨.none,rfl,wpAny_pure h⟩
end
section
variable {X:Cx}
end
end L2
namespace Att
open PySem PySem.W PySem.Calls PyProof.Rows
theorem ints_of_wellAll{P:Params}{h:Heap}:∀(ns:List Int) (vs:List Value),WellAll P h vs (ns.map WData.int)->IntsAre vs ns:=by
  intro ns
  induction ns with
  | nil=>
    intro vs w
    rw [List.map_nil] at w
    cases w
    exact .nil
  | cons n ns ih=>
    intro vs w
    rw [List.map_cons] at w
    cases w with
    | cons a b=>
      cases a
      exact .cons _ _ (ih _ b)
theorem script_of {l : OpenLaw} {n : Nat} (hn : l.most = some n) {P : Params} {h : Heap} {args : List WData} {vals : List Value}
    (hpre:l.row.toRowW.claim.pre args=true) (hwl:WellAll P h vals args) :
    ∃a vs ns,vals = [Value.ref a]/\args = [WData.list (ns.map WData.int)]/\h.get? a=some {cls:= .type "list",data:= .seq vs.toArray}/\IntsAre vs ns/\ns.length<=n:=by
  have hsh:WShape.hasAll [] args [.list .int]=true:=(pre_splitW hpre).1
  have hc:l.pre.holds [] {args:=args}=true:=(pre_splitW hpre).2
  obtain ⟨d,r,rfl,h1,h2⟩:=hasAllW_cons hsh
  obtain rfl:=hasAllW_nil h2
  obtain ⟨xs,rfl,h3⟩:=hasW_list h1
  obtain ⟨ns,rfl⟩:=items_int h3
  have hlen:ns.length<=n:=by
    unfold OpenLaw.pre at hc
    have h4:(WTm.not (.lt (.lit (.int (n:Int))) (.len (.arg 0)))).holds [] {args:= [.list (ns.map .int)]}=true:=by
      have h4:=(holds_andW hc).1
      rw [hn] at h4
      exact h4
    have h5:=condW_of h4 (w_not (w_lt w_lit (w_len_list (w_arg rfl))))
    rw [List.length_map] at h5
    refine Nat.le_of_not_lt fun q=> ?_
    have q':(n:Int)<((ns.length:Nat):Int):=by omega
    first
      | (rw [decide_eq_true q'] at h5;exact absurd h5 (by decide))
      | (simp at h5;omega)
  cases hwl with
  | cons w1 w2=>
    cases w2
    cases w1 with
    | list ho hall=>exact ⟨_,_,ns,rfl,rfl,ho,ints_of_wellAll ns _ hall,hlen⟩
theorem post_true(l:OpenLaw)(args:List WData):l.row.toRowW.claim.post args (.bool true) args=true:=
  postW_of (r:=l.row.toRowW) (X:=(true==true))
    (show WShape.has [] (.bool true) .bool=true by first | rfl | decide | simp [WShape.has,WShape.arms,WShape.armsAll])
    (show (WTm.eq .res (.lit (.bool true))).value [] {args:=args,res:=some (.bool true),after:=args}=some (.bool (true==true)) from w_eq_bool (w_res rfl) w_lit) rfl
theorem attach_call {l : OpenLaw} {n : Nat} {q : Program} {loose : List Str} {XP : (Str -> Option Value) -> Heap -> Prop} {YP : World -> Heap -> Prop} {d : DefRec}
    (hn:l.most=some n) (hdf:d.params.defaults = [])
    (call:∀(w:World) (s₀ s₁:Shared) (mg mb:Str->Option Value) (fa:Addr) (o:Obj) (pm cd doc:Value) (a:Addr) (vs:List Value) (ns:List Int),
      Ground q loose [] XP w s₀ mg mb s₁.heap->YP w s₁.heap ->
      s₁.heap.get? fa=some o->o.data = .func (docDef d.name d.params d.body d.scope pm cd doc)->s₁.heap.CodeRec cd d.name->mg d.name=some (.ref fa) ->
      s₁.heap.get? a=some {cls:= .type "list",data:= .seq vs.toArray}->IntsAre vs ns->ns.length<=n->s₁.gens = #[] ->
      codeAny (model l.prog w) callerA (.call (.ref fa) ⟨[.ref a],[]⟩) (fun r s'=>r = .ok (.ret (.bool true))/\OldK s₁.heap s'.heap/\s'.os=s₁.os/\AllBare s'.gens) s₁) :
    WalkO q loose XP YP l.row.toRowW d [] (fun f vs=>PySem.call f vs):=by
  intro w s₀ s₁ mg mb G Y fa o pm cd doc dV kV ho hd hcd hD hmg hg args vals as hpre hlay hrd hwl hlo
  obtain rfl:dV = .none:=Dflts.none hD hdf
  obtain rfl:kV = .none:=Dflts.noKw hD
  obtain ⟨a,vs,ns,rfl,rfl,hobj,hints,hlen⟩:=script_of hn hpre hwl
  refine enter_call (codeAny_mono (call w s₀ s₁ mg mb fa o pm cd doc a vs ns G Y ho (fd_plain hd) hcd hmg hobj hints hlen hg) fun r s' hq=> ?_)
  obtain ⟨rfl,h2,h3,h4⟩:=hq
  exact ⟨.inl ⟨.bool true, .bool true,[],rfl,fun _=>rfl, .bool true,post_true l _,fun _=>⟨List.Pairwise.nil,fun _ hm=>(nomatch hm)⟩⟩,h2,h3,h4⟩
section
variable {prog:Program} {w:World} {A:Around} {E:Value->Shared->Prop} {s:Shared} {K:Frag}
end
end Att
namespace L2
open PySem PySem.Spec PyProof.Rows
theorem vals_ints:∀ {vs:List Value} {ns:List Int},IntsAre vs ns->Vals (ns.map V.int) vs
  | _,_, .nil=> .nil
  | _,_, .cons n t h=> .cons ⟨t,rfl⟩ (vals_ints h)
def Only(H:Hp):Prop:=∀b,H b=none\/∃o xs,H b=some (.frz o (.lst xs))
theorem law_call {P : Program} {w : World} {K : PySem.W.Frag} {mg mb : Str -> Option Value} {CX : CXT} {k : Nat} {fa a : Addr} {fd : FuncData} {x : Str} {sp : Sp} {s₁ : Shared} {vs : List Value} {ns : List Int}
    (KX:K.In s₁.heap) (hns:s₁.heap.Ns mainGlobals mg) (hb:s₁.heap.Ns builtinsNs mb) (hbb:∀x:Str,x ≠ "__name__" -> mb x=bootBuiltins x) (hlim:s₁.heap.NoLimit) (hg:s₁.gens = #[])
    (ha:s₁.heap.get? a=some {cls:= .type "list",data:= .seq vs.toArray}) (hi:IntsAre vs ns) (hl:ns.length<=sizeLine) (hr:Room k callerA)
    (F:∀base:Heap,K.In base->base.Ns mainGlobals mg->FnOk P w K mg base CX k fa fd [x] sp) (hbind:∀(s:Shared) (u:Value),BindsTo s fd ⟨[u],[]⟩ [(x,u)])
    (hsp:∀H:Hp,Only H->SqL K H a (ns.map V.int)->sp [.ref a] H (fun v _=>v = .bl true) fun _ _ _=>False)
    (hCX:∀H e s',CX [] H s₁ (fun _ _ _=>False) e s'->False) :
    codeAny (model P w) callerA (.call (.ref fa) ⟨[.ref a],[]⟩) (fun r s'=>r = .ok (.ret (.bool true))/\OldK s₁.heap s'.heap/\s'.os=s₁.os/\AllBare s'.gens) s₁:=by
  have rv:=vals_ints hi
  have lenV:=hi.length
  have core : ∀ H : Hp, Only H -> SqL K H a (ns.map V.int) -> HOk P w H s₁.heap -> (∀ b, H b ≠ none -> b = a) -> (H a ≠ none -> K.lookup a = none) ->
      codeAny (model P w) callerA (.call (.ref fa) ⟨[.ref a],[]⟩) (fun r s'=>r = .ok (.ret (.bool true))/\OldK s₁.heap s'.heap/\s'.os=s₁.os/\AllBare s'.gens) s₁:=by
    intro H hO hS hok hA hK
    have base_of:∀ {b:Addr} {o:Obj},s₁.heap.get? b=some o->H b=none->(hidT s₁.heap H).get? b=some o:=fun e n=>hidT_get e n
    have noA:∀ {b:Addr} {o:Obj} {es:Array DictEntry} {ep:Nat},s₁.heap.get? b=some o->o.data = .dict es ep->H b=none:=fun {b o es ep} e d=>by
      cases q:H b with
      | none=>rfl
      | some u=>
        have e':b=a:=hA b (by rw [q];simp)
        subst e'
        rw [ha] at e;cases e
        have d':Data.seq vs.toArray _=Data.dict es ep:=d
        cases d'
    have nsK:∀ {b:Addr} {m:Str->Option Value},s₁.heap.Ns b m->(hidT s₁.heap H).Ns b m:=fun {b m} ⟨o,es,ep,e,d,r⟩=>⟨o,es,ep,base_of e (noA e d),d,r⟩
    have hKb:K.In (hidT s₁.heap H):=fun b o e=>base_of (KX b o e) (by
      cases q:H b with
      | none=>rfl
      | some u=>
        have e':b=a:=hA b (by rw [q];simp)
        subst e'
        rw [hK (by rw [q];simp)] at e;cases e)
    have hM:Mod K mg (hidT s₁.heap H):=⟨hKb,nsK hns,⟨mb,nsK hb,hbb⟩,let ⟨mc,h1,h2⟩:=hlim;⟨mc,nsK h1,h2⟩⟩
    have e0:Env0 P w K mg (hidT s₁.heap H) callerA [] s₁ H:=⟨rfl,hM,fun b o e=>of_hidT e,Nat.le_of_eq (hidT_size _ _),trivial,fun b hb=>absurd (show b ∈ ([]:List Addr) from hb) (by simp),hok, .of_eq hg⟩
    refine codeAny_mono ((F _ hKb (nsK hns)).run callerA [] s₁ H ⟨[.ref a],[]⟩ [.ref a] [.ref a] _ _ hr e0 (hbind s₁ (.ref a)) (.cons rfl .nil) (hsp H hO hS)) fun r s' h=> ?_
    cases r with
    | error e=>exact (hCX H e s' h).elim
    | ok fl=>
      cases fl with
      | next=>exact False.elim h
      | brk=>exact False.elim h
      | cont=>exact False.elim h
      | ret u=>
        obtain ⟨v,H',os,bare,un,hok',r',q⟩:=h
        have q':v = .bl true:=q
        subst q'
        obtain rfl:u=Value.bool true:=r'
        refine ⟨rfl,OldK.of_keep fun b o e=> ?_,os,bare⟩
        cases q:H b with
        | none=>exact un.keep b o e q (by intro z;exact absurd (show b ∈ ([]:List Addr) from z) (by simp)) (by simp)
        | some u=>
          rcases hO b with z | ⟨ob,xs,z⟩
          . rw [q] at z;cases z
          . have z2:=un.frzs b ob _ z
            obtain ⟨e1,_⟩:=hok b _ z
            obtain ⟨e2,_⟩:=hok' b _ z2
            rw [e] at e1;cases e1
            exact e2
  cases hk:K.lookup a with
  | some o=>
    have e:=KX a o hk
    rw [ha] at e
    cases e
    refine core (fun _=>none) (fun _=> .inl rfl) (.inr ⟨_,vs.toArray,_,hk,rfl,rfl,rfl,by rw [List.size_toArray,lenV];exact hl,by simpa using rv⟩) (fun b u z=>by have z':(none:Option HO)=some u:=z;cases z') (fun b z=>absurd rfl z) fun z=>absurd rfl z
  | none=>
    refine core (fun b=>if b=a then some (.frz {cls:= .type "list",data:= .seq vs.toArray} (.lst (ns.map V.int))) else none) (fun b=> ?_) (.inl (.inr ⟨{cls:= .type "list",data:= .seq vs.toArray},if_pos rfl⟩)) (fun b u z=> ?_) (fun b z=> ?_) fun _=>hk
    . by_cases hb:b=a
      . exact .inr ⟨_,_,if_pos hb⟩
      . exact .inl (if_neg hb)
    . by_cases hb:b=a
      . have z':=(if_pos hb).symm.trans z
        cases z'
        subst hb
        exact ⟨ha,by rw [List.length_map];exact hl,vs,_,rv,ha⟩
      . have z':=(if_neg hb).symm.trans z
        cases z'
    . by_cases hb:b=a
      . exact hb
      . exact absurd (if_neg hb) z
end L2
namespace L2
open PySem PySem.Spec PyProof.Rows
theorem walk_of {l : PySem.W.OpenLaw} {n k : Nat} {q : Program} {loose : List Str} {XP : (Str -> Option Value) -> Heap -> Prop} {YP : World -> Heap -> Prop} {d : DefRec} {K : Params -> PySem.W.Frag} {CX : World -> CXT} {sp : World -> Sp} {x : Str}
    (hn:l.most=some n) (hn2:n<=sizeLine) (hdf:d.params.defaults = []) (hr:Room k callerA)
    (hY:∀(w:World) (h:Heap),YP w h->(K w.params).In h)
    (F:∀(w:World) (mg:Str->Option Value) (fa:Addr) (h:Heap),(K w.params).In h->h.Ns mainGlobals mg->mg d.name=some (.ref fa) ->
      ∃fd:FuncData,(∀(s:Shared) (u:Value),BindsTo s fd ⟨[u],[]⟩ [(x,u)]) /\
        ∀base:Heap,(K w.params).In base->base.Ns mainGlobals mg->FnOk l.prog w (K w.params) mg base (CX w) k fa fd [x] (sp w))
    (hsp:∀(w:World) (H:Hp) (a:Addr) (ns:List Int),ns.length<=n->Only H->SqL (K w.params) H a (ns.map V.int)->sp w [.ref a] H (fun v _=>v = .bl true) fun _ _ _=>False)
    (hCX:∀(w:World) (H:Hp) (s:Shared) (e:Value) (s':Shared),CX w [] H s (fun _ _ _=>False) e s'->False) :
    PySem.W.WalkO q loose XP YP l.row.toRowW d [] (fun f vs=>PySem.call f vs):=by
  refine Att.attach_call hn hdf fun w s₀ s₁ mg mb fa o pm cd doc a vs ns G Y ho hd hcd hmg hobj hints hlen hg=> ?_
  have KX:=hY w _ Y
  obtain ⟨fd,hb,hF⟩:=F w mg fa _ KX G.T.g hmg
  exact law_call KX G.T.g G.T.b G.T.builtins G.T.nolimit hg hobj hints (Nat.le_trans hlen hn2) hr hF hb (fun H hO hS=>hsp w H a ns hlen hO hS) fun H e s'=>hCX w H s₁ e s'
end L2
/- THE LAST THEOREM (shape; LID, My.* are yours):
   My.Adr: a structure of the addresses that your layer names (classes,functions);My.Txt K t: a structure (Prop) of the equations over K;
   My.txt_mk:{K} {implicit addresses ..} (e1:nsIn K mainGlobals "law" = some (some (.ref f))) (e2:K.lookup f=some ⟨oc,od, .func (fnOf "law" "law" params body scope dV kV doc pm an cdv ct),sl⟩) (e3:codeIn K cdv "law" = true) .. : ∃t,My.Txt K t
set_option maxRecDepth 100000 in
set_option maxHeartbeats 0 in
theorem PySem.Challenge.cw_LID_holds : PySem.Challenge.rw_LID.Holds := by
  w_on;o_law;k_head;(case hw=>w_witness2)
  k_fill
  refine L2.walk_of (l := PySem.Challenge.rw_LID) (n := 63) (k := 40) (x := "script") (CX := fun w => ..) (sp := fun _ => My.sp_law) rfl (by decide) rfl ⟨rfl, by decide, by decide⟩ (fun w h Y => PySem.W.kIn_of Y) ?F ?S ?C
  case F=>
    intro w mg fa h KX G hmg
    have T:∃t,My.Txt (L2.KOf KX) t:=by
      dsimp only [L2.KOf] -- K must stand as «<heap const> w.params» for k_is
      refine' My.txt_mk ?e1 ?e2 ?e3 ..
      (case e1=>PySem.W.k_is) -- in the order: a name->its address->its object->its parts
      (case e2=>PySem.W.k_is)
      ..
    obtain ⟨t,T⟩:=T
    have e0:=hmg.symm.trans (PySem.W.mg_of KX G T.law)
    cases e0 -- fa is the law's own address
    exact ⟨_, fun s u => .of_eq rfl, fun base kb nb => My.law_fn T kb nb⟩ -- if «.of_eq rfl» comes too early: refine' ⟨_, ?b, fun base kb nb => My.law_fn T kb nb⟩; exact fun s u => .of_eq rfl
  case S=>exact fun w H a ns hl hO hS=> ..
  case C=>exact ..
(the tactic k_is has no namespace: write k_is) -/
namespace L2
open PySem PySem.Spec PyProof.Rows
def inClass(s:Stmt)(j:Nat):Stmt:=match s with
  | .ClassDef _ _ _ body _ _ _ _ _ _ _=>body.getD j (.Pass ⟨0,0,0,0⟩)
  | _=> .Pass ⟨0,0,0,0⟩
def defArgs(s:Stmt):Arguments:=match s with
  | .FunctionDef _ a _ _ _ _ _ _ _ _=>a
  | _=>{posonlyargs:= [],args:= [],vararg:=none,kwonlyargs:= [],kw_defaults:= [],kwarg:=none,defaults:= []}
def defBody(s:Stmt):List Stmt:=match s with
  | .FunctionDef _ _ b _ _ _ _ _ _ _=>b
  | _=> []
def defScope(s:Stmt):Scope:=match s with
  | .FunctionDef _ _ _ _ _ _ sc _ _ _=>sc
  | _=>{kind:= .function,names:= [],isGenerator:=false,isCoroutine:=false}
abbrev CX0:CXT:=fun _ _ _ _ _ _=>False
abbrev E0:XK:=fun _ _ _=>False
theorem pass0{X:Cx}:Passes CX0 X E0:=fun _ _ _ _ _ _ _ h=>h.elim
structure Fun (K:PySem.W.Frag) (x qual:Str) (st:Stmt) (f:Addr) (fd:FuncData):Prop where
  ex:∃(oc:Value) (od:Option Addr) (kV doc pm:Value) (an:Option Addr) (cdv ct:Value) (osl:Array (Option Value)),
    fd=PySem.W.fnOf x qual (defArgs st) (defBody st) (defScope st) .none kV doc pm an cdv ct/\K.lookup f=some ⟨oc,od, .func fd,osl⟩/\PySem.W.codeIn K cdv qual=true
  kp:PySem.W.keepIn K (.ref f)=true
section
variable {P:Program} {w:World} {K:PySem.W.Frag} {mg:Str->Option Value} {base:Heap}
theorem Fun.ok {x qual : Str} {st : Stmt} {f : Addr} {fd : FuncData} {N ps : List Str} {k : Nat} {sp : Sp} (F : Fun K x qual st f fd) (S : FnScope N ps (defScope st)) (len : ∀ vs H Q E, sp vs H Q E -> vs.length = ps.length)
    (hbody:∀(cdv:Value) (A:Around) (outer:List Env) (s:Shared) (H:Hp) (vs:List V) (Q:VK) (E:XK),Room k (A.deeper (envOfC qual (defScope st) s.heap.objs.size f cdv))->sp vs H Q E ->
      ∃t,PSs (cxOf CX0 P w K mg base N qual (defScope st) f cdv A outer s H E).nox (defBody st) t/\t {nx:=fun _ H'=>Q .non H',rt:=Q} (start N vs) H):FnOk P w K mg base CX0 (k+1) f fd ps sp:=by
  obtain ⟨oc,od,kV,doc,pm,an,cdv,ct,osl,rfl,lk,hcd⟩:=F.ex
  refine fn_of lk hcd S len fun A outer s H vs Q E hr hsp=> ?_
  obtain ⟨t,h,q⟩:=hbody cdv A outer s H vs Q E hr hsp
  exact ⟨t,h.nox,q⟩
theorem Fun.binds {x qual : Str} {st : Stmt} {f : Addr} {fd : FuncData} {ps : List Str} (F : Fun K x qual st f fd)
    (h:∀(kV doc pm:Value) (an:Option Addr) (cdv ct:Value) (us:List Value),us.length=ps.length->bindArgs (PySem.W.fnOf x qual (defArgs st) (defBody st) (defScope st) .none kV doc pm an cdv ct) ⟨us,[]⟩=pure (ps.zip us)):Binds K fd ps []:=by
  obtain ⟨oc,od,kV,doc,pm,an,cdv,ct,osl,rfl,lk,hcd⟩:=F.ex
  exact .all (h kV doc pm an cdv ct)
theorem fun_mk {x qual : Str} {st : Stmt} {f : Addr} {oc : Value} {od an : Option Addr} {osl : Array (Option Value)} {kV doc pm cdv ct : Value} (l : K.lookup f = some ⟨oc, od, .func (PySem.W.fnOf x qual (defArgs st) (defBody st) (defScope st) .none kV doc pm an cdv ct), osl⟩)
    (c:PySem.W.codeIn K cdv qual=true) (k:PySem.W.keepIn K (.ref f)=true):Fun K x qual st f (PySem.W.fnOf x qual (defArgs st) (defBody st) (defScope st) .none kV doc pm an cdv ct):=⟨⟨oc,od,kV,doc,pm,an,cdv,ct,osl,rfl,l,c⟩,k⟩
end
section
variable {X:Cx}
end
theorem iteF{A B:Prop}(h:B):if false=true then A else B:=by
  rw [if_neg Bool.false_ne_true]
  exact h
theorem iteT{A B:Prop}(h:A):if true=true then A else B:=by
  rw [if_pos rfl]
  exact h
def Same(H H':Hp):Prop:=∀b o,H b=some o->H' b=some o
theorem Same.refl(H:Hp):Same H H:=fun _ _ h=>h
theorem Same.trans{H H1 H2:Hp}(a:Same H H1)(b:Same H1 H2):Same H H2:=fun c o h=>b c o (a c o h)
theorem Same.free{H H':Hp}(e:Same H H'){l:Addr}(h:H' l=Option.none):H l=Option.none:=by
  cases q:H l with
  | none=>rfl
  | some o=>
    rw [e l o q] at h
    cases h
theorem Same.seq{K:PySem.W.Frag}{H H':Hp}{a:Addr}{xs:List V}(e:Same H H')(h:SqL K H a xs):SqL K H' a xs:=by
  rcases h with (h | ⟨o,h⟩) | h
  . exact .inl (.inl (e _ _ h))
  . exact .inl (.inr ⟨o,e _ _ h⟩)
  . exact .inr h
end L2
namespace Tf
open PySem PySem.Spec PyProof.Rows L2
theorem bt_abs:bootBuiltins "abs" = some (.builtin "abs"):=by decide +kernel
theorem bt_len:bootBuiltins "len" = some (.builtin "len"):=by decide +kernel
theorem bt_sum:bootBuiltins "sum" = some (.builtin "sum"):=by decide +kernel
theorem bt_max:bootBuiltins "max" = some (.builtin "max"):=by decide +kernel
theorem bt_int:bootBuiltins "int" = some (.type "int"):=by decide +kernel
theorem bt_list:bootBuiltins "list" = some (.type "list"):=by decide +kernel
theorem bt_range:bootBuiltins "range" = some (.type "range"):=by decide +kernel
theorem bt_zip:bootBuiltins "zip" = some (.type "zip"):=by decide +kernel
def Bt(n:Nat)(i:Int):Prop:=i.natAbs<2 ^ n
theorem Bt.mono{n m:Nat}{i:Int}(h:Bt n i)(k:n<=m):Bt m i:=Nat.lt_of_lt_of_le h (Nat.pow_le_pow_right (by decide) k)
theorem Bt.mul{n m:Nat}{i j:Int}(h:Bt n i)(k:Bt m j):Bt (n+m) (i*j):=by
  unfold Bt at *
  rw [Int.natAbs_mul,Nat.pow_add]
  exact Nat.mul_lt_mul_of_lt_of_le h (Nat.le_of_lt k) (Nat.lt_of_le_of_lt (Nat.zero_le _) k)
theorem Bt.add{n m:Nat}{i j:Int}(h:Bt n i)(k:Bt m j):Bt (max n m+1) (i+j):=by
  unfold Bt at *
  have h1:i.natAbs<2 ^ (max n m):=Nat.lt_of_lt_of_le h (Nat.pow_le_pow_right (by decide) (Nat.le_max_left _ _))
  have h2:j.natAbs<2 ^ (max n m):=Nat.lt_of_lt_of_le k (Nat.pow_le_pow_right (by decide) (Nat.le_max_right _ _))
  have h3:=Int.natAbs_add_le i j
  rw [Nat.pow_succ]
  omega
theorem Bt.neg{n:Nat}{i:Int}(h:Bt n i):Bt n (-i):=by
  unfold Bt at *
  rw [Int.natAbs_neg]
  exact h
theorem Bt.sub{n m:Nat}{i j:Int}(h:Bt n i)(k:Bt m j):Bt (max n m+1) (i - j):=by
  rw [Int.sub_eq_add_neg]
  exact h.add k.neg
theorem Bt.natAbs{n:Nat}{i:Int}(h:Bt n i):Bt n (i.natAbs:Int):=by
  unfold Bt at *
  simpa using h
theorem Bt.of_le{n:Nat}{i j:Int}(h:Bt n j)(k:i.natAbs<=j.natAbs):Bt n i:=Nat.lt_of_le_of_lt k h
theorem Bt.fdiv{n:Nat}{i j:Int}(h:Bt n i):Bt n (i.fdiv j):=by
  refine h.of_le ?_
  by_cases hj:j=0
  . subst hj;simp
  . have key : ∀ (a b : Int), 0 < b -> (a.fdiv b).natAbs <= a.natAbs := by
      intro a b hb
      rw [Int.fdiv_eq_ediv_of_nonneg a (Int.le_of_lt hb)]
      exact Int.natAbs_ediv_le_natAbs a b
    rcases (by omega:0<j\/j<0) with p | p
    . exact key i j p
    . have:=key (-i) (-j) (by omega)
      rw [Int.neg_fdiv_neg] at this
      simpa using this
theorem Bt.fmod{n:Nat}{i j:Int}(hj:j≠0)(h:Bt n j):Bt n (i.fmod j):=by
  refine h.of_le ?_
  rcases (by omega:0<j\/j<0) with p | p
  . have h1:=Int.fmod_nonneg_of_pos i p
    have h2:=Int.fmod_lt_of_pos i p
    omega
  . have e : i.fmod j = -((-i).fmod (-j)) := by
      rw [Int.fmod_def,Int.fmod_def,Int.neg_fdiv_neg]
      simp [Int.neg_mul]
      omega
    have h1:=Int.fmod_nonneg_of_pos (-i) (show 0 < -j by omega)
    have h2:=Int.fmod_lt_of_pos (-i) (show 0 < -j by omega)
    omega
theorem Bt.zero(n:Nat):Bt n 0:=by
  unfold Bt
  simpa using Nat.pow_pos (by decide)
theorem Bt.one{n:Nat}(h:0<n):Bt n 1:=by
  unfold Bt
  show 1<2 ^ n
  exact Nat.one_lt_pow (by omega) (by decide)
theorem Bt.bits{n:Nat}{i:Int}(h:Bt n i):Builtin.Int.intBits i<=n:=by
  unfold Builtin.Int.intBits
  split
  . exact Nat.zero_le _
  . rename_i hz
    have h0:i.natAbs≠0:=by
      intro e
      apply hz
      have:i=0:=by omega
      subst this
      rfl
    exact (Nat.log2_lt h0).mpr h
theorem Bt.log{n:Nat}{i:Int}(h:Bt n i)(hn:0<n):i.natAbs.log2<n:=by
  by_cases h0:i.natAbs=0
  . rw [h0];simpa using hn
  . exact (Nat.log2_lt h0).mpr h
theorem mulOk{n m:Nat}{i j:Int}(h:Bt n i)(k:Bt m j)(hn:n+m<=134217728):IntMulOk i j:=by
  unfold IntMulOk
  have hb1:=h.bits
  have hb2:=k.bits
  have:Builtin.Int.intTooBig (Builtin.Int.intBits i+Builtin.Int.intBits j)=false:=by
    unfold Builtin.Int.intTooBig
    apply decide_eq_false
    unfold bitsLine
    have:(2:Nat) ^ 27=134217728:=by decide
    rw [this]
    omega
  rw [this]
  simp
def CMulB(i j:Int):Prop:=∃n m,Bt n i/\Bt m j/\n+m<=134217728
def CDivB(_i j:Int):Prop:=j≠0/\Bt 9000 j
section
variable {X:Cx}
theorem op_fdivB:OpR X (binaryOp .FloorDiv) (rI CDivB fun i j=> .int (i.fdiv j)):=opI fun _ _ _ _ _ _ _ hc q=>floordiv_int hc.1 q (.inl (PyProof.noPylong_of_log2 (hc.2.log (by decide))))
theorem Bt.lit{n:Nat}{i:Int}(h:decide (i.natAbs<2 ^ n)=true):Bt n i:=(of_decide_eq_true h:i.natAbs<2 ^ n)
theorem cdivC{i j:Int}(h:(decide (j≠0) && decide (j.natAbs<2 ^ 64))=true):CDivB i j:=by
  rw [Bool.and_eq_true] at h
  exact ⟨of_decide_eq_true h.1,Bt.mono (n:=64) (of_decide_eq_true h.2:j.natAbs<2 ^ 64) (by decide)⟩
theorem cmulC{i j:Int}{n m:Nat}(h:Bt n i)(k:Bt m j)(e:decide (n+m<=134217728)=true):CMulB i j:=⟨n,m,h,k,of_decide_eq_true e⟩
theorem cpowC{i j:Int}(h:(decide (0<=j) && decide (j<=1000000) && decide (i.natAbs<2 ^ 64))=true):CPow i j:=by
  rw [Bool.and_eq_true,Bool.and_eq_true] at h
  exact ⟨of_decide_eq_true h.1.1,of_decide_eq_true h.1.2,of_decide_eq_true h.2⟩
inductive TyV (K:PySem.W.Frag) (H:Hp):V->String->Prop where
  | non:TyV K H .non "NoneType"
  | bl (x:Bool):TyV K H (.bl x) "bool"
  | int (i:Int):TyV K H (.int i) "int"
  | str (x:Str):TyV K H (.str x) "str"
  | lst {a:Addr} {xs:List V} (e:SqL K H a xs):TyV K H (.ref a) "list"
  | tup {a:Addr} {xs:List V} (e:SqT K H a xs):TyV K H (.ref a) "tuple"
mutual
inductive Rep (K:PySem.W.Frag) (H:Hp):V->PyData->Prop
  | none:Rep K H .non .none
  | bool (b:Bool):Rep K H (.bl b) (.bool b)
  | int (i:Int):Rep K H (.int i) (.int i)
  | str (x:Str):Rep K H (.str x) (.str x)
  | list {a:Addr} {xs:List V} {ds:List PyData}:SqL K H a xs->Reps K H xs ds->Rep K H (.ref a) (.list ds)
  | tuple {a:Addr} {xs:List V} {ds:List PyData}:SqT K H a xs->Reps K H xs ds->Rep K H (.ref a) (.tuple ds)
inductive Reps (K:PySem.W.Frag) (H:Hp):List V->List PyData->Prop
  | nil:Reps K H [] []
  | cons {v:V} {vs:List V} {d:PyData} {ds:List PyData}:Rep K H v d->Reps K H vs ds->Reps K H (v::vs) (d::ds)
end
mutual
theorem Rep.reads{pins:List (Addr×Obj)}{σ:L2.St}{H:Hp}{s:Shared}(I:Inv X pins σ H s):∀ {v:V} {d:PyData} {u:Value},Rep X.K H v d->RelV v u->∃as,Reads s.heap u d as
  | _,_,_, .none,r=>by cases (show _=Value.none from r);exact ⟨_, .none⟩
  | _,_,_, .bool b,r=>by cases (show _=Value.bool b from r);exact ⟨_, .bool b⟩
  | _,_,_, .int i,r=>by obtain ⟨t,q⟩:=(show ∃t,_=Value.int i t from r);cases q;exact ⟨_, .int i t⟩
  | _,_,_, .str x,r=>by obtain ⟨t,q⟩:=(show ∃t,_=Value.str x t from r);cases q;exact ⟨_, .str x t⟩
  | _,_,_, .list (a:=a) h hs,r=>by
    cases (show _=Value.ref a from r)
    obtain ⟨its,rv,⟨o,n,h1,h2,_,h3⟩,_⟩:=I.list h
    obtain ⟨as,ra⟩:=Reps.reads I hs rv
    exact ⟨_, .list h1 h2 h3 (by simpa using ra)⟩
  | _,_,_, .tuple (a:=a) h hs,r=>by
    cases (show _=Value.ref a from r)
    obtain ⟨its,rv,⟨o,h1,h2,n,h3⟩,_⟩:=I.tuple h
    obtain ⟨as,ra⟩:=Reps.reads I hs rv
    exact ⟨_, .tuple h1 h2 h3 (by simpa using ra)⟩
theorem Reps.reads{pins:List (Addr×Obj)}{σ:L2.St}{H:Hp}{s:Shared}(I:Inv X pins σ H s):∀ {vs:List V} {ds:List PyData} {us:List Value},Reps X.K H vs ds->Vals vs us->∃as,ReadsAll s.heap us ds as
  | _,_,_, .nil,r=>by cases r;exact ⟨_, .nil⟩
  | _,_,_, .cons h hs,r=>by
    cases r with
    | cons r1 r2=>
      obtain ⟨as,q⟩:=Rep.reads I h r1
      obtain ⟨bs,q2⟩:=Reps.reads I hs r2
      exact ⟨_, .cons q q2⟩
end
def rEqD(K:PySem.W.Frag):R2:=fun x y H Q=>∃dx dy,Rep K H x dx/\Rep K H y dy/\dx.canLay0=true/\dy.canLay0=true/\min dx.depth dy.depth<=60/\Q (.bl (PyData.eqv dx dy)) H
def rNeD(K:PySem.W.Frag):R2:=fun x y H Q=>∃dx dy,Rep K H x dx/\Rep K H y dy/\dx.canLay0=true/\dy.canLay0=true/\min dx.depth dy.depth<=60/\Q (.bl (!PyData.eqv dx dy)) H
theorem op_eqD(hu:X.A.units+64<cLine):OpR X (compareOp .Eq) (rEqD X.K):=by
  intro pins s σ H x y v u Q I rx ry h
  obtain ⟨dx,dy,h1,h2,c1,c2,hd,q⟩:=h
  obtain ⟨as,r1⟩:=h1.reads I rx
  obtain ⟨bs,r2⟩:=h2.reads I ry
  exact SeqAt.compareEq_reads r1 r2 c1 c2 (by omega) ⟨.bl _,H,I,rfl,q⟩
theorem op_neD(hu:X.A.units+64<cLine):OpR X (compareOp .NotEq) (rNeD X.K):=by
  intro pins s σ H x y v u Q I rx ry h
  obtain ⟨dx,dy,h1,h2,c1,c2,hd,q⟩:=h
  obtain ⟨as,r1⟩:=h1.reads I rx
  obtain ⟨bs,r2⟩:=h2.reads I ry
  exact SeqAt.compareNe_reads r1 r2 c1 c2 (by omega) ⟨.bl _,H,I,rfl,q⟩
end
theorem _root_.L2.Same.upd{H:Hp}{p:Addr}(h:H p=none)(o:HO):Same H (L2.upd H p o):=fun b u q=>by rw [upd_ne (ne_of_none q h)];exact q
theorem _root_.L2.Same.seqT{K:PySem.W.Frag}{H H':Hp}{a:Addr}{xs:List V}(e:Same H H')(h:SqT K H a xs):SqT K H' a xs:=by
  rcases h with (h | ⟨o,h⟩) | h
  . exact .inl (.inl (e _ _ h))
  . exact .inl (.inr ⟨o,e _ _ h⟩)
  . exact .inr h
theorem Rd.same{H H':Hp}{a:Addr}{u:HO}(e:Same H H')(h:Rd H a u):Rd H' a u:=by
  rcases h with h | ⟨o,h⟩
  . exact .inl (e _ _ h)
  . exact .inr ⟨o,e _ _ h⟩
mutual
theorem Rep.same{K:PySem.W.Frag}{H H':Hp}(e:Same H H'):∀ {v:V} {d:PyData},Rep K H v d->Rep K H' v d
  | _,_, .none=> .none
  | _,_, .bool b=> .bool b
  | _,_, .int i=> .int i
  | _,_, .str x=> .str x
  | _,_, .list h hs=> .list (e.seq h) (Reps.same e hs)
  | _,_, .tuple h hs=> .tuple (Same.seqT e h) (Reps.same e hs)
theorem Reps.same{K:PySem.W.Frag}{H H':Hp}(e:Same H H'):∀ {vs:List V} {ds:List PyData},Reps K H vs ds->Reps K H' vs ds
  | _,_, .nil=> .nil
  | _,_, .cons h hs=> .cons (Rep.same e h) (Reps.same e hs)
end
section
variable {CX:CXT} {P:Program} {w:World} {K:PySem.W.Frag} {mg:Str->Option Value} {base:Heap} {N:List Str} {qual:Str} {scope:Scope} {f:Addr} {cd:Value} {A:Around} {outer:List Env} {s:Shared} {H:Hp} {E:XK}
end
structure Def (P:Program) (w:World) (K:PySem.W.Frag) (mg:Str->Option Value) (base:Heap) (k:Nat) (x:Str) (ps:List Str) (sp:Sp):Prop where
  ex:∃f fd,FnOk P w K mg base CX0 k f fd ps sp/\mg x=some (.ref f)/\PySem.W.keepIn K (.ref f)=true/\Binds K fd ps []
section
variable {X:Cx} {k j:Nat} {x:Str} {ps:List Str} {sp:Sp} {p pos:Pos} {e:Expr} {es:List Expr} {t:TA}
theorem pe_callD (D : Def X.prog X.w X.K X.mg X.base j x ps sp) (hr : Room k X.A) (ha : PA X (e :: es) t) (hj : j <= k := by decide) (hg : Gl X x := by rfl)
    (hdb:(x==("__debug__" : Str))=false:=by decide) (he:starEach (e::es) X.env=(false,eval e X.env)::starEach es X.env:=by rfl) (hpl:(backTo pos (starEach es X.env)).any (·.1)=false:=by rfl) :
    PE X (.Call (.Name x p) (e::es) [] pos) (tCall sp [] E0 t):=by
  obtain ⟨f,fd,F,hm,hk,hb⟩:=D.ex
  exact pe_call F (hr.mono hj) hg hm hk hb .nil pass0 ha hdb he hpl
end
end Tf
namespace Tf
open PySem L2
theorem gcd_fmod(x y:Int):Int.gcd y (x.fmod y)=Int.gcd x y:=by
  have e:x.fmod y=x - y*x.fdiv y:=Int.fmod_def x y
  rw [e,Int.gcd_comm x y]
  simp
theorem fmod_lt{x y:Int}(h:y≠0):(x.fmod y).natAbs<y.natAbs:=by
  rcases (by omega:0<y\/y<0) with p | p
  . have h1:=Int.fmod_nonneg_of_pos x p
    have h2:=Int.fmod_lt_of_pos x p
    omega
  . have e : x.fmod y = -((-x).fmod (-y)) := by
      rw [Int.fmod_def,Int.fmod_def,Int.neg_fdiv_neg]
      simp [Int.neg_mul]
      omega
    have h1:=Int.fmod_nonneg_of_pos (-x) (show 0 < -y by omega)
    have h2:=Int.fmod_lt_of_pos (-x) (show 0 < -y by omega)
    omega
def sg(a b:Int):Int:=if b<0 then -((Int.gcd a b:Nat):Int) else ((Int.gcd a b:Nat):Int)
def fr(a b:Int):Int×Int:=(a.fdiv (sg a b),b.fdiv (sg a b))
theorem sg_ne{a b:Int}(h:b≠0):sg a b≠0:=by
  have:Int.gcd a b≠0:=by
    intro e
    exact h (Int.gcd_eq_zero_iff.mp e).2
  unfold sg
  split <;> omega
theorem sg_dvd(a b:Int):sg a b ∣ a/\sg a b ∣ b:=by
  have h1:=Int.gcd_dvd_left a b
  have h2:=Int.gcd_dvd_right a b
  unfold sg
  split
  . exact ⟨Int.neg_dvd.mpr h1,Int.neg_dvd.mpr h2⟩
  . exact ⟨h1,h2⟩
theorem fdiv_mul{a d:Int}(hd:d≠0)(h:d ∣ a):a.fdiv d*d=a:=Int.fdiv_mul_cancel h
theorem fr_mul(a b:Int)(h:b≠0):(fr a b).1*sg a b=a/\(fr a b).2*sg a b=b:=
  ⟨fdiv_mul (sg_ne h) (sg_dvd a b).1,fdiv_mul (sg_ne h) (sg_dvd a b).2⟩
theorem fr_pos{a b:Int}(h:b≠0):0<(fr a b).2:=by
  have e:=(fr_mul a b h).2
  have s:(b<0/\sg a b<0)\/(0<b/\0<sg a b):=by
    have:=sg_ne (a:=a) h
    unfold sg at *
    split at * <;> omega
  rcases s with ⟨s1,s2⟩ | ⟨s1,s2⟩
  . rcases (by omega:0<(fr a b).2\/(fr a b).2<=0) with p | p
    . exact p
    . have:=Int.mul_nonneg_of_nonpos_of_nonpos p (Int.le_of_lt s2)
      omega
  . rcases (by omega:0<(fr a b).2\/(fr a b).2<=0) with p | p
    . exact p
    . have:=Int.mul_nonpos_of_nonpos_of_nonneg p (Int.le_of_lt s2)
      omega
theorem sg_abs(a b:Int):(sg a b).natAbs=Int.gcd a b:=by
  unfold sg
  split <;> omega
theorem fr_gcd{a b:Int}(h:b≠0):Int.gcd (fr a b).1 (fr a b).2=1:=by
  have e:=fr_mul a b h
  have g:Int.gcd ((fr a b).1*sg a b) ((fr a b).2*sg a b)=Int.gcd (fr a b).1 (fr a b).2*(sg a b).natAbs:=Int.gcd_mul_right _ _ _
  rw [e.1,e.2,sg_abs] at g
  have hp:0<Int.gcd a b:=by
    have:=sg_ne (a:=a) h
    have:=sg_abs a b
    omega
  have:Int.gcd (fr a b).1 (fr a b).2*Int.gcd a b=1*Int.gcd a b:=by omega
  exact Nat.eq_of_mul_eq_mul_right hp this
theorem fr_cross{a b:Int}(h:b≠0):(fr a b).1*b=a*(fr a b).2:=by
  have e:=fr_mul a b h
  calc (fr a b).1*b=(fr a b).1*((fr a b).2*sg a b):=by rw [e.2]
    _=((fr a b).1*sg a b)*(fr a b).2:=by rw [Int.mul_comm (fr a b).2,Int.mul_assoc]
    _=a*(fr a b).2:=by rw [e.1]
theorem fr_bt{n:Nat}{a b:Int}(ha:Bt n a)(hb:Bt n b):Bt n (fr a b).1/\Bt n (fr a b).2:=⟨ha.fdiv,hb.fdiv⟩
theorem sg_bt{n:Nat}{a b:Int}(h:b≠0)(hb:Bt n b):Bt n (sg a b):=by
  refine hb.of_le ?_
  rw [sg_abs]
  have h2:=Int.natAbs_dvd_natAbs.mpr (Int.gcd_dvd_right a b)
  exact Nat.le_of_dvd (by omega) (by simpa using h2)
def spLaw(K:PySem.W.Frag):Sp:=fun vs H Q _=>∃(a:Addr) (ns:List Int),vs = [.ref a]/\SqL K H a (ns.map V.int)/\ns.length<=63/\∀H',Q (.bl true) H'
end Tf
namespace Tf
open PySem PySem.Spec PyProof.Rows L2
def closL(cells:List (Str×Addr)):List (Str×NameKind)->List (Str×Addr)->List (Str×Addr)
  | [],acc=>acc
  | (n,k)::r,acc=>if k == .free then closL cells r ((n,(cells.lookup n).getD 0)::acc) else closL cells r acc
theorem closL_forIn {env : Env} : ∀ (names : List (Str × NameKind)) (acc : List (Str × Addr)), (∀ y ∈ names, y.2 = .free -> ∃ c, env.cells.lookup y.1 = some c) ->
    (forIn names acc fun (x:Str×NameKind) (r:List (Str×Addr))=>(match x with | (name,kind)=>if (kind==NameKind.free)=true then do let a <-cellOf env name;pure (ForInStep.yield ((name,a)::r)) else pure (ForInStep.yield r):Sem (ForInStep (List (Str×Addr)))))=pure (closL env.cells names acc)
  | [],acc,_=>by rw [List.forIn_nil];rfl
  | (n,k)::r,acc,h=>by
    have ih:=fun acc=>closL_forIn r acc fun y hy=>h y (List.mem_cons_of_mem _ hy)
    rw [List.forIn_cons]
    unfold closL
    by_cases hk:(k==NameKind.free)=true
    . obtain ⟨c,hc⟩:=h (n,k) List.mem_cons_self (by simpa using hk)
      have e:cellOf env n=pure c:=by unfold cellOf;rw [hc]
      simp only [hk,if_true,e]
      rw [hc]
      exact ih ((n,c)::acc)
    . simp only [hk,if_false]
      exact ih acc
theorem closureFor_eq{scope:Scope}{env:Env}(h:∀y ∈ scope.names,y.2 = .free->∃c,env.cells.lookup y.1=some c):closureFor scope env=pure (closL env.cells scope.names []):=by
  unfold closureFor
  have:=closL_forIn (env:=env) scope.names [] h
  simp only [bind_pure]
  exact this
theorem closL_of{cells:List (Str×Addr)}:∀ {names:List (Str×NameKind)} {acc:List (Str×Addr)} {x:Str} {c:Addr},(closL cells names acc).lookup x=some c->acc.lookup x=some c\/((x,NameKind.free) ∈ names/\c=(cells.lookup x).getD 0)
  | [],_,_,_,h=> .inl h
  | (n,k)::r,acc,x,c,h=>by
    unfold closL at h
    split at h
    . rename_i hk
      rcases closL_of h with q | ⟨q,e⟩
      . rw [List.lookup_cons] at q
        cases hx:x==n with
        | true=>
          rw [hx] at q
          have e:=beq_iff_eq.mp hx
          subst e
          have hk':k = .free:=by simpa using hk
          subst hk'
          exact .inr ⟨List.mem_cons_self,(Option.some.inj q).symm⟩
        | false=>rw [hx] at q;exact .inl q
      . exact .inr ⟨List.mem_cons_of_mem _ q,e⟩
    . rcases closL_of h with q | ⟨q,e⟩
      . exact .inl q
      . exact .inr ⟨List.mem_cons_of_mem _ q,e⟩
theorem closL_acc{cells:List (Str×Addr)}:∀ {names:List (Str×NameKind)} {acc:List (Str×Addr)} {x:Str},acc.lookup x=some ((cells.lookup x).getD 0)->(closL cells names acc).lookup x=some ((cells.lookup x).getD 0)
  | [],_,_,h=>h
  | (n,k)::r,acc,x,h=>by
    unfold closL
    split
    . refine closL_acc ?_
      rw [List.lookup_cons]
      cases hx:x==n with
      | true=>have e:=beq_iff_eq.mp hx;subst e;rfl
      | false=>exact h
    . exact closL_acc h
theorem closL_free{cells:List (Str×Addr)}:∀ {names:List (Str×NameKind)} {acc:List (Str×Addr)} {x:Str},(x,NameKind.free) ∈ names->(closL cells names acc).lookup x=some ((cells.lookup x).getD 0)
  | (n,k)::r,acc,x,h=>by
    unfold closL
    rcases List.mem_cons.mp h with e | h
    . cases e
      simp only [beq_self_eq_true,if_true]
      exact closL_acc (by rw [List.lookup_cons,beq_self_eq_true])
    . split
      . exact closL_free h
      . exact closL_free h
theorem cf_app:∀(names:List (Str×NameKind)) (n:Nat) (acc:List (Str×Addr)),cellsFrom n names acc=cellsFrom n names []++acc
  | [],_,_=>rfl
  | (x,k)::r,n,acc=>by
    unfold cellsFrom
    split
    . rw [cf_app r (n+1) ((x,n)::acc),cf_app r (n+1) [(x,n)],List.append_assoc];rfl
    . exact cf_app r n acc
theorem lookup_app{α:Type}(x:Str):∀(a b:List (Str×α)),(a++b).lookup x=(match a.lookup x with | some c=>some c | none=>b.lookup x)
  | [],b=>rfl
  | (k,v)::r,b=>by
    rw [List.cons_append,List.lookup_cons,List.lookup_cons]
    cases hx:x==k with
    | true=>rfl
    | false=>exact lookup_app x r b
theorem cf_has:∀ {names:List (Str×NameKind)} {n:Nat} {acc:List (Str×Addr)} {x:Str},(x,NameKind.cell) ∈ names->∃c,(cellsFrom n names acc).lookup x=some c
  | (y,k)::r,n,acc,x,h=>by
    unfold cellsFrom
    rcases List.mem_cons.mp h with e | h
    . obtain ⟨rfl,rfl⟩:=Prod.mk.inj e
      simp only [beq_self_eq_true,if_true]
      rw [cf_app,lookup_app]
      cases q:(cellsFrom (n+1) r []).lookup x with
      | some c=>exact ⟨c,rfl⟩
      | none=>exact ⟨n,by simp [List.lookup_cons]⟩
    . split
      . exact cf_has h
      . exact cf_has h
theorem cf_mem:∀ {names:List (Str×NameKind)} {n:Nat} {x:Str} {c:Addr},(x,c) ∈ cellsFrom n names []->(x,NameKind.cell) ∈ names
  | (y,k)::r,n,x,c,h=>by
    unfold cellsFrom at h
    split at h
    . rename_i hk
      rw [cf_app] at h
      rcases List.mem_append.mp h with q | q
      . exact List.mem_cons_of_mem _ (cf_mem q)
      . have hk':k = .cell:=by simpa using hk
        subst hk'
        have e:(x,c)=(y,n):=by simpa using q
        cases e
        exact List.mem_cons_self
    . exact List.mem_cons_of_mem _ (cf_mem h)
def relabelS(sc osc:Scope):Scope:=
  {sc with names:=sc.names.map fun (n,k)=>if (k == .free && osc.kind == .function && osc.names.lookup n==some .cell) then (n, .cell) else (n,k)}
theorem relabel_eq(sc:Scope)(env:Env):relabel sc env=relabelS sc env.scope:=rfl
theorem relabelS_lookup {osc : Scope} : ∀ {names : List (Str × NameKind)} {x : Str} {k : NameKind}, (names.map fun (p : Str × NameKind) => (match p with | (n, k) => if (k == NameKind.free && osc.kind == .function && osc.names.lookup n == some NameKind.cell) = true then (n, NameKind.cell) else (n, k))).lookup x = some k ->
    ∃k',names.lookup x=some k'/\(k'=k\/(k' = .free/\k = .cell))
  | [],_,_,h=>by simp at h
  | (n,k0)::r,x,k,h=>by
    rw [List.map_cons] at h
    by_cases hc:(k0==NameKind.free && osc.kind == .function && osc.names.lookup n==some NameKind.cell)=true
    . simp only [hc,if_true] at h
      rw [List.lookup_cons] at h
      cases hx:x==n with
      | true=>
        rw [hx] at h
        simp only [Option.some.injEq] at h
        subst h
        refine ⟨k0,by rw [List.lookup_cons,hx], .inr ⟨?_,rfl⟩⟩
        simp only [Bool.and_eq_true,beq_iff_eq] at hc
        exact hc.1.1
      | false=>
        rw [hx] at h
        obtain ⟨k',e,d⟩:=relabelS_lookup h
        exact ⟨k',by rw [List.lookup_cons,hx];exact e,d⟩
    . simp only [if_neg hc] at h
      rw [List.lookup_cons] at h
      cases hx:x==n with
      | true=>
        rw [hx] at h
        simp only [Option.some.injEq] at h
        subst h
        exact ⟨k0,by rw [List.lookup_cons,hx], .inl rfl⟩
      | false=>
        rw [hx] at h
        obtain ⟨k',e,d⟩:=relabelS_lookup h
        exact ⟨k',by rw [List.lookup_cons,hx];exact e,d⟩
theorem lookup_of_mem{α:Type}:∀ {l:List (Str×α)} {x:Str} {k:α},(l.map (·.1)).Nodup->(x,k) ∈ l->l.lookup x=some k
  | (y,j)::r,x,k,nd,h=>by
    rw [List.map_cons,List.nodup_cons] at nd
    rw [List.lookup_cons]
    rcases List.mem_cons.mp h with e | h'
    . cases e;rw [beq_self_eq_true]
    . have : (x == y) = false := by
        apply beq_eq_false_iff_ne.mpr
        intro e
        subst e
        exact nd.1 (List.mem_map.mpr ⟨_,h',rfl⟩)
      rw [this]
      exact lookup_of_mem nd.2 h'
def csOk(osc sc:Scope)(N N':List Str)(ix:List (Option Nat)):Bool:=
  decide (sc.kind = .function) && decide (osc.kind = .function) && sc.names.all (fun y=>decide (y.2 = .local->sc.names.lookup y.1=some .local)) &&
  sc.names.all (fun y=>decide (y.2 = .free->(osc.names.lookup y.1=some .cell\/osc.names.lookup y.1=some .free))) && decide (N'.Nodup) && decide ((sc.names.map (·.1)).Nodup) && decide (N'.length=ix.length) &&
  (List.range ix.length).all fun i=>match ix[i]? with
    | some (some j)=>decide (N[j]? = N'[i]?) && (match N'[i]? with | some x=>decide (sc.names.lookup x=some .free) | none=>false)
    | _=>true
structure CS (osc sc:Scope) (N N':List Str) (ix:List (Option Nat)):Prop where
  kind:sc.kind = .function
  okind:osc.kind = .function
  names:∀y ∈ sc.names,y.2 = .local->sc.names.lookup y.1=some .local
  free:∀y ∈ sc.names,y.2 = .free->osc.names.lookup y.1=some .cell\/osc.names.lookup y.1=some .free
  nd:N'.Nodup
  ns:(sc.names.map (·.1)).Nodup
  len:N'.length=ix.length
  ixs:∀(i j:Nat),ix[i]? = some (some j)->∃x,N'[i]? = some x/\N[j]? = some x/\sc.names.lookup x=some .free
theorem CS.of{osc sc:Scope}{N N':List Str}{ix:List (Option Nat)}(h:csOk osc sc N N' ix=true):CS osc sc N N' ix:=by
  unfold csOk at h
  simp only [Bool.and_eq_true,List.all_eq_true,decide_eq_true_eq] at h
  obtain ⟨⟨⟨⟨⟨⟨⟨h1,h2⟩,h3⟩,h4⟩,h5⟩,h8⟩,h6⟩,h7⟩:=h
  refine ⟨h1,h2,h3,h4,h5,h8,h6,fun i j e=> ?_⟩
  have hi:i<ix.length:=(List.getElem?_eq_some_iff.mp e).1
  have q:=h7 i (List.mem_range.mpr hi)
  rw [e] at q
  simp only [Bool.and_eq_true,decide_eq_true_eq] at q
  cases e2:N'[i]? with
  | none=>rw [e2] at q;exact absurd q.2 (by simp)
  | some x=>
    rw [e2] at q
    exact ⟨x,rfl,q.1,by simpa using q.2⟩
def subS(ix:List (Option Nat))(σ:L2.St):L2.St:=ix.map fun o=>match o with | some j=>(σ[j]?).join | none=>none
structure CB where
  C:Addr
  s₀:Shared
  H₀:Hp
  ex:List Addr
def cEnv(osc sc:Scope)(cl:List (Str×Addr))(C:Addr)(env:Env):Env:=
  {scope:=relabelS sc osc,locals:=C,globals:=env.globals,cells:=cellsFrom (C+1) sc.names cl,qual:=env.qual,func:=none,code:=env.code,frame:=env.frame,builtins:=env.builtins}
def cxC(X:Cx)(osc sc:Scope)(N':List Str)(b:CB):Cx where
  prog:=X.prog
  w:=X.w
  K:=X.K
  mg:=X.mg
  base:=X.base
  A:=X.A
  N:=N'
  s₀:=b.s₀
  H₀:=b.H₀
  env:=cEnv osc sc (closL X.env.cells sc.names []) b.C X.env
  outer:=X.stack
  stack:=X.stack
  ex:=b.ex
  fn:=fun x=>decide (sc.names.lookup x=some .cell)
  calm:=X.calm
  pn:= []
  xe:=fun _ _=>False
def accObj:Obj:={cls:= .type "list",dict:=none,data:= .seq ([]:List Value).toArray}
def dctObj:Obj:={cls:= .type "dict",data:= .dict #[]}
def blkHeap(h:Heap)(sc:Scope):Heap:=pushCells ((h.push accObj).push dctObj) sc.names
theorem blk_keeps{h:Heap}{sc:Scope}:∀b o,h.get? b=some o->(blkHeap h sc).get? b=some o:=fun b o e=>pushCells_keeps _ _ b o (Heap.get?_push_of_some _ (Heap.get?_push_of_some _ e))
theorem wpAny_newEnv_comp {M : Model} {A : Around} {E : Value -> Shared -> Prop} {s : Shared} {scope : Scope} {globals : Addr} {cl : List (Str × Addr)} {qual : Str} {env : Env} {Q : Env -> Shared -> Prop}
    (h:Q (newEnv scope s.heap.objs.size globals (cellsFrom (s.heap.objs.size+1) scope.names cl) qual none .none (some env) builtinsNs) {s with heap:=pushCells (s.heap.push dctObj) scope.names}) :
    wpAny M A (newFunctionEnv scope globals cl [] qual none .none (some env)) Q E s:=by
  simp only [newFunctionEnv,Option.isSome_some,if_true]
  refine wpAny_bind (wpAny_alloc ?_)
  refine wpAny_bind (wpAny_layCells _ (fun name kind cells=>by cases hkc:kind==NameKind.cell <;> simp [hkc]) _ _ _ _ ?_)
  rw [show ({s with heap:=s.heap.push {cls:= .type "dict",data:= .dict #[]} }:Shared).heap.objs.size=s.heap.objs.size+1 from Heap.size_push ..]
  simp only [List.forIn_nil]
  exact wpAny_bind (wpAny_pure (wpAny_pure h))
section
variable {X:Cx} {pins:List (Addr×Obj)} {σ:L2.St} {H:Hp} {s:Shared} {osc sc:Scope} {N':List Str} {ix:List (Option Nat)} {fp:List Addr}
theorem closes(I:Inv X pins σ H s)(cs:CS osc sc X.N N' ix)(ho:X.env.scope=osc):∀y ∈ sc.names,y.2 = .free->∃c,X.env.cells.lookup y.1=some c:=fun y hy hf=>by
  refine I.ok.has y.1 ?_
  have q:=cs.free y hy hf
  rw [<-ho] at q
  exact q
theorem blk_cell (I : Inv X pins σ H s) (cs : CS osc sc X.N N' ix) (ho : X.env.scope = osc) {C : Addr} {x : Str} {c : Addr} (h : (cellsFrom (C + 1) sc.names (closL X.env.cells sc.names [])).lookup x = some c) :
    ((x,c) ∈ cellsFrom (C+1) sc.names [] )\/((x,NameKind.free) ∈ sc.names/\X.env.cells.lookup x=some c):=by
  rw [cf_app,lookup_app] at h
  cases e:(cellsFrom (C+1) sc.names []).lookup x with
  | some d=>rw [e] at h;cases h;exact .inl (mem_of_lookup e)
  | none=>
    rw [e] at h
    rcases closL_of h with q | ⟨q,d⟩
    . cases q
    . obtain ⟨c',hc⟩:=closes I cs ho _ q rfl
      rw [show X.env.cells.lookup x=some c' from hc] at d
      exact .inr ⟨q,by rw [show X.env.cells.lookup x=some c' from hc];rw [d];rfl⟩
theorem inv_comp (I : Inv X pins σ H s) (cs : CS osc sc X.N N' ix) (ho : X.env.scope = osc) (hfp : ∀ b ∈ fp, FpOk X pins H b) (hlt : ∀ b ∈ fp, b < s.heap.objs.size) :
    Inv (cxC X osc sc N' ⟨s.heap.objs.size+1,s,H,fp ++ [s.heap.objs.size]⟩) [] (subS ix σ) H {s with heap:=blkHeap s.heap sc}:=by
  have okc:=cellsFrom_ok sc.names ((s.heap.push accObj).push dctObj) (s.heap.objs.size+2) [] ⟨fun _ _ hm=>(nomatch hm),List.Pairwise.nil⟩ (by rw [Heap.size_push,Heap.size_push];exact Nat.le_refl _)
  have esz:((s.heap.push accObj).push dctObj).objs.size=s.heap.objs.size+1+1:=by rw [Heap.size_push,Heap.size_push]
  rw [esz] at okc
  have cell:=fun {x:Str} {c:Addr}=>blk_cell (C:=s.heap.objs.size+1) (x:=x) (c:=c) I cs ho
  have oldc:∀ {x:Str} {c:Addr},X.env.cells.lookup x=some c -> @LT.lt Nat _ c s.heap.objs.size:=fun {x c} h=>(I.cell x c h).elim fun v hv=>hv.lt
  have ltS:∀ {h:Heap} {b:Addr} {o:Obj},h.get? b=some o -> @LT.lt Nat _ b h.objs.size:=fun e=>Heap.lt_size e
  have newc:∀ {x:Str} {c:Addr},(x,c) ∈ cellsFrom (s.heap.objs.size+1+1) sc.names []->s.heap.objs.size+2<=c:=fun {x c} h=>(okc.empty x c h).2
  have nsC:∃m,(blkHeap s.heap sc).Ns (s.heap.objs.size+1) m:=⟨_,by
    have q:=(Heap.Ns.new (s.heap.push accObj) (.type "dict")).keeps (pushCells_keeps sc.names _)
    rw [Heap.size_push] at q
    exact q⟩
  refine ⟨?ok,rfl,I.bare,Un.kept blk_keeps,?loc,?cell,I.hok.fresh (Nat.le_succ _),?freeC,?pin,I.hok.kept blk_keeps,?len⟩
  case ok=>
    refine ⟨I.ok.mod,cs.kind,I.ok.glob,I.ok.blt,Nat.le_succ _,?inj,?has,?cab,I.ok.hd,I.ok.frames, .inl rfl,?exf,I.bs,?bsz,?noex,?exfs,I.stack,I.stkFree⟩
    case inj=>
      intro x y c hx hy
      rcases cell hx with p | ⟨p,p'⟩ <;> rcases cell hy with q | ⟨q,q'⟩
      . exact name_of_addr okc.apart p q
      . have a1:=newc p;have a2:=oldc q';omega
      . have a1:=newc q;have a2:=oldc p';omega
      . exact I.ok.inj x y c p' q'
    case has=>
      intro x hx
      have key:∀k,(relabelS sc osc).names.lookup x=some k->(k = .cell\/k = .free)->∃c,(cellsFrom (s.heap.objs.size+1+1) sc.names (closL X.env.cells sc.names [])).lookup x=some c:=by
        intro k hk hk2
        obtain ⟨k',e,d⟩:=relabelS_lookup hk
        have hm:=mem_of_lookup e
        have:k' = .cell\/k' = .free:=by
          rcases d with d | d
          . rcases hk2 with r | r
            . exact .inl (d.trans r)
            . exact .inr (d.trans r)
          . exact .inr d.1
        rcases this with r | r
        . subst r;exact cf_has hm
        . subst r
          rw [cf_app,lookup_app,closL_free hm]
          cases (cellsFrom (s.heap.objs.size+1+1) sc.names []).lookup x with
          | some c=>exact ⟨c,rfl⟩
          | none=>exact ⟨_,rfl⟩
      rcases hx with hx | hx
      . exact key _ hx (.inl rfl)
      . exact key _ hx (.inr rfl)
    case cab=>
      intro x c hf hc
      have hf':sc.names.lookup x=some .cell:=of_decide_eq_true hf
      rcases cell hc with p | ⟨p,p'⟩
      . have:=newc p
        show s.heap.objs.size<=c
        omega
      . rw [lookup_of_mem cs.ns p] at hf'
        cases hf'
    case exf=>
      intro b hb
      rcases List.mem_append.mp hb with hb | hb
      . have hl : @LT.lt Nat _ b s.heap.objs.size:=hlt b hb
        obtain ⟨f0,f1,f2,f3,f4,f5⟩:=hfp b hb
        refine ⟨fun e=> ?_,fun x c hc e=> ?_⟩
        . have e:b=s.heap.objs.size+1:=e
          subst e
          omega
        . rcases cell hc with p | ⟨p,p'⟩
          . have:=newc p;subst e;omega
          . exact f4 x c p' e
      . have hb:b=s.heap.objs.size:=by simpa using hb
        subst hb
        refine ⟨fun e=>Nat.succ_ne_self _ (Eq.symm (show s.heap.objs.size=s.heap.objs.size+1 from e)),fun x c hc e=> ?_⟩
        rcases cell hc with p | ⟨p,p'⟩
        . have:=newc p;subst e;omega
        . have:=oldc p';subst e;omega
    case bsz=>exact Nat.le_trans I.ok.bsz I.sz
    case noex=>
      intro b o e hb
      have e:X.base.get? b=some o:=e
      rcases List.mem_append.mp hb with hb | hb
      . obtain ⟨f0,f1,f2,f3,f4,f5⟩:=hfp b hb
        rcases f3 with f3 | f3
        . exact I.ok.noex b o e f3
        . have:=ltS e
          have:=I.ok.bsz
          omega
      . have hb:b=s.heap.objs.size:=by simpa using hb
        have:=ltS e
        have:=I.ok.bsz
        have:=I.sz
        subst hb
        omega
    case exfs=>
      intro b hb hf
      have hf:=I.stkSub b hf
      rcases List.mem_append.mp hb with hb | hb
      . obtain ⟨f0,f1,f2,f3,f4,f5⟩:=hfp b hb
        rcases List.mem_cons.mp hf with e | hf
        . exact f1 e
        . exact f2 hf
      . have hb:b=s.heap.objs.size:=by simpa using hb
        rcases List.mem_cons.mp hf with e | hf
        . have l : @LT.lt Nat _ X.env.locals s.heap.objs.size:=I.lt
          rw [hb] at e
          rw [<-e] at l
          omega
        . exact I.nofs (Nat.le_of_eq hb.symm) hf
  case loc=>
    obtain ⟨m',hm'⟩:=nsC
    obtain ⟨m,hm,hl⟩:=I.loc
    refine ⟨m',hm',fun i x v hx hv hvis=> ?_⟩
    unfold subS at hv
    rw [List.getElem?_map] at hv
    cases e:ix[i]? with
    | none=>rw [e] at hv;cases hv
    | some o=>
      rw [e] at hv
      cases o with
      | none=>cases hv
      | some j=>
        simp only [Option.map_some,Option.some.injEq] at hv
        obtain ⟨y,h1,h2,h3⟩:=cs.ixs i j e
        have hx':N'[i]? = some x:=hx
        rw [h1] at hx'
        cases hx'
        have hj:σ[j]? = some (some v):=by
          cases q:σ[j]? with
          | none=>rw [q] at hv;cases hv
          | some z=>rw [q] at hv;simp only [Option.join_some] at hv;rw [hv]
        have hfree:=mem_of_lookup h3
        have hk:=cs.free _ hfree rfl
        rw [<-ho] at hk
        have hvis0:Vis X.env.scope x:=by
          rcases hk with r | r
          . exact .inr (.inl r)
          . exact .inr (.inr r)
        obtain ⟨u,ru,lk⟩:=hl j x v h2 hj hvis0
        refine ⟨u,ru, .inr ⟨?_,?_⟩⟩
        . rcases hvis with q | q | q
          . obtain ⟨k',e',d⟩:=relabelS_lookup q
            rw [h3] at e'
            cases e'
            rcases d with d | d
            . cases d
            . cases d.2
          . exact .inl q
          . exact .inr q
        . rcases lk with ⟨lk,_⟩ | ⟨_,c,hc,hcell⟩
          . have:X.env.scope.names.lookup x=some .local:=lk
            rw [this] at hk
            rcases hk with r | r <;> cases r
          . refine ⟨c,?_,hcell.keeps blk_keeps⟩
            show (cellsFrom (s.heap.objs.size+1+1) sc.names (closL X.env.cells sc.names [])).lookup x=some c
            rw [cf_app,lookup_app,closL_free hfree,hc]
            cases e2:(cellsFrom (s.heap.objs.size+1+1) sc.names []).lookup x with
            | some d=>
              have:=lookup_of_mem cs.ns (cf_mem (mem_of_lookup e2))
              rw [h3] at this
              cases this
            | none=>rfl
  case cell=>
    intro x c hc
    rcases cell hc with p | ⟨p,p'⟩
    . exact ⟨_,(okc.empty x c p).1⟩
    . obtain ⟨v,hv⟩:=I.cell x c p'
      exact ⟨v,hv.keeps blk_keeps⟩
  case freeC=>
    intro x c hc
    rcases cell hc with p | ⟨p,p'⟩
    . have:=newc p
      exact I.hok.fresh (by omega)
    . exact I.freeC x c p'
  case pin=>intro p hp;cases hp
  case len=>
    show (subS ix σ).length=N'.length
    unfold subS
    rw [List.length_map,cs.len]
def GK(S:Nat->Bool)(g:TG):Prop:=∀v σ H Q,g v σ H Q->g v σ H fun σ' H'=>Q σ' H'/\σ'.length=σ.length/\∀i:Nat,S i=false->σ'[i]? = σ[i]?
def PTs(X:Cx)(ifs:List Expr)(t:TT):Prop:=
  ∀(pins:List (Addr×Obj)) (s:Shared) (σ:L2.St) (H:Hp) (Q:Bool->Hp->Prop),Inv X pins σ H s->t σ H Q ->
    wpAny (model X.prog X.w) X.A (forIn ifs true fun c r=>if r=true then do let ok <-isTrue c X.env (eval c X.env);pure (ForInStep.yield ok) else pure (ForInStep.yield r)) (TP X pins σ Q) X.xe s
def tNoTest:TT:=fun _ H Q=>Q true H
theorem pts_nil{X:Cx}:PTs X [] tNoTest:=fun _ _ _ H _ I h=>wpAny_tests_nil ⟨H,I,h⟩
def tLCg(J:It)(σ0:L2.St)(g:TG)(tt:TT)(te:TE)(H1:Hp)(Q:VK):Prop:=∃W:Nat->Nat->List V->Hp->Prop,(∃m,W 0 m [] H1)/\∀i m ys H,W i m ys H->ys.length<sizeLine /\
  ((J.stop i H/\∀p,H p=none->Q (.ref p) (upd H p (.lst ys))) \/
   (J.go i H/\∃N:List V->Hp->Prop,(∀ys' H',N ys' H'->∃m',m'<m/\W (i+1) m' ys' H')/\∀x H',J.yld i H x H'->g x σ0 H' fun σ2 H2=>tt σ2 H2 fun b H3=>if b=true then te σ2 H3 fun y H4=>N (ys ++ [y]) H4 else N ys H3))
theorem codeAny_compLoop_any {prog : Program} {w : World} {A : Around} {R : Result -> Shared -> Prop} {s : Shared} {elt target iter : Expr} {ifs : List Expr} {scope : Scope} {pos : Pos} {it acc : Value} {env : Env} (I : Nat -> Shared -> Prop)
    (turn:∀n s,I n s->wpAny (model prog w) A (pyNext it) (fun r s₁=>match r with
      | none=>R (.ok .next) s₁
      | some v => wpAny (model prog w) A (letOwnedTupleGo target it v) (fun _ s₁ => wpAny (model prog w) A (assign target env v) (fun _ s₂ =>
          wpAny (model prog w) A (forIn ifs true fun c r=>if r=true then do let ok <-isTrue c env (eval c env);pure (ForInStep.yield ok) else pure (ForInStep.yield r)) (fun ok s₃=>
            if ok=true then wpAny (model prog w) A (eval elt env) (fun x s₄=>
              wpAny (model prog w) A (call (.builtin "list.append") [acc,x]) (fun _ s₅=>∃m,m<n/\I m s₅) (fun _ _=>False) s₄) (fun _ _=>False) s₃
            else ∃m,m<n/\I m s₃) (fun _ _=>False) s₂) (fun _ _=>False) s₁) (fun _ _=>False) s₁) (fun _ _=>False) s)
    (n:Nat) (h:I n s) :
    codeAny (model prog w) A (.compLoop (.ListComp elt [⟨target,iter,ifs,0⟩] scope pos) 0 it acc env) R s:=by
  refine codeAny_loop rfl I (fun n s hI=> ?_) n h
  show wpAny _ A ((compTurn (.ListComp elt [⟨target,iter,ifs,0⟩] scope pos) 0 it acc env).onRaise (fun x=>do noteFrame x env;theTreesLotGoes x)) _ _ s
  refine wpAny_noted ?_
  rw [compTurn_list]
  refine wpAny_bind (wpAny_standAt (wpAny_bind (wpAny_mono (turn n s hI) (fun r s₁ h₁=> ?_) fun _ _ h'=>h'.elim)))
  cases r with
  | none=>exact wpAny_pure h₁
  | some v=>
    refine wpAny_bind (wpAny_mono h₁ (fun _ s₁ h₁=> ?_) fun _ _ h'=>h'.elim)
    refine wpAny_bind (wpAny_mono h₁ (fun _ s₂ h₂=>wpAny_bind (wpAny_mono h₂ (fun ok s₃ h₃=> ?_) fun _ _ h'=>h'.elim)) fun _ _ h'=>h'.elim)
    cases ok with
    | false=>exact wpAny_pure ⟨rfl,h₃⟩
    | true=>
      exact wpAny_bind (wpAny_bind (wpAny_mono h₃ (fun x s₄ h₄=>wpAny_bind (wpAny_mono h₄ (fun _ s₅ h₅=>wpAny_pure (wpAny_pure ⟨rfl,h₅⟩)) fun _ _ h'=>h'.elim)) fun _ _ h'=>h'.elim))
theorem HOk_add{P:Program}{w:World}{H:Hp}{h:Heap}{a:Addr}{o:HO}(x:HOk P w H h)(hn:H a=none)(new:ObjOk P w (upd H a o) h a o):HOk P w (upd H a o) h:=fun b u e=>by
  by_cases hb:b=a
  . subst hb
    rw [upd_same] at e
    cases e
    exact new
  . rw [upd_ne hb] at e
    refine (x b u e).stay (fun _ _ _ q=>q) (fun c q=> ?_) fun c xs q=> ?_
    . rw [upd_ne (ne_of_none q hn)];exact q
    . rw [upd_ne (ne_of_none q hn)];exact q
def slotS(ix:List (Option Nat))(i:Nat):Bool:=match ix[i]? with | some (some _)=>false | _=>true
structure BlkEnd (X:Cx) (pins:List (Addr×Obj)) (σ:L2.St) (C D:Addr) (H:Hp) (ys:List V) (s':Shared):Prop where
  inv:Inv X pins σ (upd H D (.lst ys)) s'
  free:H D=none
  ns:∃m,s'.heap.Ns C m
  cfree:(upd H D (.lst ys)) C=none
  cl:C≠X.env.locals
  cn:X.s₀.heap.objs.size<=C
  cc:∀x c,X.env.cells.lookup x=some c->c≠C
  cp:∀p ∈ X.pn++pins,p.1≠C
theorem run_block {tg elt iter : Expr} {ifs : List Expr} {scope : Scope} {pos : Pos} {J : It} {it : Addr} {tn : Nat -> Heap -> Prop} {g : TG} {tt : TT} {te : TE} {Q : VK} {R : Result -> Shared -> Prop}
    (I2:Inv X pins σ H s) (cs:CS osc sc X.N N' ix) (ho:X.env.scope=osc) (hc:X.calm=true) (T:Turn X.prog X.w X.K tg J fp it tn) (st2:tn 0 s.heap) (f2:∀b ∈ fp,FpOk X pins H b)
    (hg:PG (cxC X osc sc N' ⟨s.heap.objs.size+1,s,H,fp ++ [s.heap.objs.size]⟩) tg g) (gk:GK (slotS ix) g)
    (ht:PTs (cxC X osc sc N' ⟨s.heap.objs.size+1,s,H,fp ++ [s.heap.objs.size]⟩) ifs tt) (he:PE (cxC X osc sc N' ⟨s.heap.objs.size+1,s,H,fp ++ [s.heap.objs.size]⟩) elt te)
    (rd:tLCg J (subS ix σ) g tt te H Q)
    (hR:∀ys H' s',BlkEnd X pins σ (s.heap.objs.size+1) s.heap.objs.size H' ys s'->Q (.ref s.heap.objs.size) (upd H' s.heap.objs.size (.lst ys))->R (.ok .next) s') :
    codeAny (model X.prog X.w) X.A (.compStart (.ListComp elt [⟨tg,iter,ifs,0⟩] scope pos) 0 (.ref it) (.ref s.heap.objs.size) (cEnv osc sc (closL X.env.cells sc.names []) (s.heap.objs.size+1) X.env)) R {s with heap:=blkHeap s.heap sc}:=by
  have ltS:∀ {h:Heap} {b:Addr} {o:Obj},h.get? b=some o -> @LT.lt Nat _ b h.objs.size:=fun e=>Heap.lt_size e
  have hlt:∀b ∈ fp,b<s.heap.objs.size:=fun b hb=>(T.obj 0 _ st2 b hb).elim fun o h=>Heap.lt_size h.1
  have I3:=inv_comp I2 cs ho f2 hlt
  generalize eX:cxC X osc sc N' ⟨s.heap.objs.size+1,s,H,fp ++ [s.heap.objs.size]⟩=X' at *
  have eE:cEnv osc sc (closL X.env.cells sc.names []) (s.heap.objs.size+1) X.env=X'.env:=by rw [<-eX];rfl
  have eP:X'.prog=X.prog:=by rw [<-eX];rfl
  have eW:X'.w=X.w:=by rw [<-eX];rfl
  have eK:X'.K=X.K:=by rw [<-eX];rfl
  have eA:X'.A=X.A:=by rw [<-eX];rfl
  have eC:X'.calm=true:=by rw [<-eX];exact hc
  have eL:X'.env.locals=s.heap.objs.size+1:=by rw [<-eX];rfl
  have eF:X'.fs=frs X.stack:=by rw [<-eX];rfl
  have eEx:X'.ex=fp ++ [s.heap.objs.size]:=by rw [<-eX];rfl
  have eN:X'.pn = []:=by rw [<-eX];rfl
  have eS:X'.s₀=s:=by rw [<-eX];rfl
  have eH:X'.H₀=H:=by rw [<-eX];rfl
  have exe:X'.xe=fun _ _=>False:=by rw [<-eX];rfl
  have okX:=I3.ok
  have mD:s.heap.objs.size ∈ X'.ex:=by rw [eEx];exact List.mem_append_right _ (List.mem_singleton.mpr rfl)
  have mF:∀b ∈ fp,b ∈ X'.ex:=fun b hb=>by rw [eEx];exact List.mem_append_left _ hb
  obtain ⟨W,⟨m0,w0⟩,turn⟩:=rd
  have stat:∀ {H':Hp} {o:Obj},(∀b ∈ fp,H' b=none)->∀b ∈ fp,FpOk X' [(s.heap.objs.size,o)] H' b:=fun {H' o} hn b hb=>by
    refine ⟨hn b hb,(okX.exf b (mF b hb)).1,okX.exfs b (mF b hb), .inl (mF b hb),(okX.exf b (mF b hb)).2,fun p hp e=> ?_⟩
    rw [eN] at hp
    have hp:p=(s.heap.objs.size,o):=by simpa using hp
    subst hp
    have l : @LT.lt Nat _ b s.heap.objs.size:=hlt b hb
    have e:s.heap.objs.size=b:=e
    rw [<-e] at l
    omega
  have pinD:∀ {σ':L2.St} {H':Hp} {s':Shared} {o:Obj},Inv X' [] σ' H' s'->s'.heap.get? s.heap.objs.size=some o->H' s.heap.objs.size=none->(∀v,o.data ≠ .cell v)->Inv X' [(s.heap.objs.size,o)] σ' H' s':=fun {σ' H' s' o} I e hn hd=>by
    refine I.pins_of fun p hp=> ?_
    have hp:p=(s.heap.objs.size,o):=by simpa using hp
    subst hp
    exact ⟨e,hn,(okX.exf _ mD).1,okX.exfs _ mD,hd⟩
  rw [eE]
  have I3':Inv X' [] (subS ix σ) H {s with heap:=blkHeap s.heap sc}:=I3
  have dat:∀(its:List Value) (k:Nat) (v:Option Value),({cls:= .type "list",data:= .seq its.toArray k}:Obj).data ≠ .cell v:=fun _ _ _ z=>nomatch z
  have acc0:(blkHeap s.heap sc).get? s.heap.objs.size=some {cls:= .type "list",data:= .seq ([]:List Value).toArray 0}:=pushCells_keeps _ _ _ _ (Heap.get?_push_of_some _ (Heap.get?_push_size _ rfl))
  have st3:tn 0 (blkHeap s.heap sc):=T.keep 0 _ _ st2 fun b hb o e=>blk_keeps b o e
  have loop:∀s3:Shared,s3={s with heap:=blkHeap s.heap sc}->codeAny (model X.prog X.w) X.A (.compLoop (.ListComp elt [⟨tg,iter,ifs,0⟩] scope pos) 0 (.ref it) (.ref s.heap.objs.size) X'.env) R s3:=by
    rintro s3 rfl
    refine codeAny_compLoop_any (fun n s'=>∃i ys H' its k,Inv X' [] (subS ix σ) H' s'/\tn i s'.heap/\(∀b ∈ fp,H' b=none)/\W i n ys H'/\s'.heap.get? s.heap.objs.size=some {cls:= .type "list",data:= .seq its.toArray k}/\Vals ys its/\H' s.heap.objs.size=none)
      ?_ m0 ⟨0,[],H,[],0,I3',st3,fun b hb=>(f2 b hb).1,w0,acc0, .nil,I2.hok.fresh (Nat.le_refl _)⟩
    rintro n s3 ⟨i,ys,H3,its,k,J3,t3,fr3,w3,a3,v3,d3⟩
    obtain ⟨hz,w3⟩:=turn i n ys H3 w3
    have J3p:=pinD J3 a3 d3 (dat its k)
    rcases w3 with ⟨stop,q⟩ | ⟨go,N,hN,step⟩
    . have TD:=T.done X' eP eW eK eC i [(s.heap.objs.size,_)] s3 (subS ix σ) H3 (fun _ _=>False) J3p (stat fr3) t3 stop
      rw [eA] at TD
      refine thn TD fun r s4 ⟨hr,I4⟩ => ?_
      subst hr
      have a4:=(I4.pin (s.heap.objs.size,_) (List.mem_append_right _ (List.mem_singleton.mpr rfl))).1
      have hd4:=I4.base
      rw [eF,eEx,eH,eS] at hd4
      refine hR ys H3 s4 ⟨?_,d3,?_,?_,?_,?_,?_,?_⟩ (q _ d3)
      . refine I2.call' (ch:=fp ++ [s.heap.objs.size]) (by have z:=I4.os;rw [eS] at z;exact z) ?_ ?_ I4.bare ?_
        . refine ⟨hd4.keep,hd4.slot,fun b o e n x=> ?_,hd4.there,fun b xs e=> ?_,fun b o u e=> ?_,fun b ps e=> ?_⟩
          . have l:=ltS e
            rw [upd_ne (by intro z;subst z;omega)]
            exact hd4.free b o e n x
          . have z:=hd4.tups b xs e
            rw [upd_ne (ne_of_none z d3)];exact z
          . have z:=hd4.frzs b o u e
            rw [upd_ne (ne_of_none z d3)];exact z
          . obtain ⟨more,z⟩:=hd4.tbls b ps e
            exact ⟨more,by rw [upd_ne (ne_of_none z d3)];exact z⟩
        . have hk:=I4.hok
          rw [eP,eW] at hk
          exact HOk_add hk d3 ⟨Nat.le_of_lt hz,its,k,v3,a4⟩
        . intro b hb
          rcases List.mem_append.mp hb with hb | hb
          . obtain ⟨f0,f1,f2,f3,f4,f5⟩:=f2 b hb
            exact ⟨f3,f1,f4,f5⟩
          . have hb:b=s.heap.objs.size:=by simpa using hb
            subst hb
            refine ⟨.inr I2.sz,fun e=> ?_,fun x c hx e=> ?_,fun p hp e=> ?_⟩
            . have l : @LT.lt Nat _ X.env.locals s.heap.objs.size:=I2.lt
              rw [<-e] at l
              omega
            . obtain ⟨v,hv⟩:=I2.cell x c hx
              have l : @LT.lt Nat _ c s.heap.objs.size:=hv.lt
              rw [e] at l
              omega
            . have l:=ltS (I2.pin p hp).1
              rw [e] at l
              omega
      . obtain ⟨m,hm,_⟩:=I4.loc
        rw [eL] at hm
        exact ⟨m,hm⟩
      . rw [upd_ne (Nat.succ_ne_self _)]
        have z:=I4.free
        rw [eL] at z
        exact z
      . intro e
        have l : @LT.lt Nat _ X.env.locals s.heap.objs.size:=I2.lt
        rw [<-e] at l
        omega
      . have:=I2.sz
        exact Nat.le_succ_of_le this
      . intro x c hx e
        obtain ⟨v,hv⟩:=I2.cell x c hx
        have l : @LT.lt Nat _ c s.heap.objs.size:=hv.lt
        rw [e] at l
        omega
      . intro p hp e
        have l:=ltS (I2.pin p hp).1
        rw [e] at l
        omega
    . have TI:=T.item X' eP eW eK eC i [(s.heap.objs.size,_)] s3 (subS ix σ) H3 (fun _ _=>False) J3p (stat fr3) t3 go
      rw [eA] at TI
      refine thn TI fun r s4 ⟨u,hr,h4⟩ => ?_
      subst hr
      refine thn h4 fun _ s5 ⟨x,H5,I5,r5,y5,st5,fr5⟩ => ?_
      have I5':=I5.pinned (stat fr5) (T.obj _ _ st5)
      have HG:=hg _ s5 (subS ix σ) H5 x u _ I5' r5 (gk _ _ _ _ (step x H5 y5))
      rw [eP,eW,eA,exe] at HG
      refine thn HG fun _ s6 ⟨σ6,H6,I6,q6,l6,k6⟩ => ?_
      have HT:=ht _ s6 σ6 H6 _ I6 q6
      rw [eP,eW,eA,exe] at HT
      refine thn HT fun b s7 ⟨H7,I7,q7⟩ => ?_
      have weak:∀ {ps:List (Addr×Obj)} {H':Hp} {s':Shared},Inv X' ps σ6 H' s'->Inv X' ps (subS ix σ) H' s':=fun I=>I.weak l6.symm fun j v e=>by
        have hs:slotS ix j=false:=by
          unfold slotS
          unfold subS at e
          rw [List.getElem?_map] at e
          cases e2:ix[j]? with
          | none=>rw [e2] at e;cases e
          | some o=>
            rw [e2] at e
            cases o with
            | none=>cases e
            | some z=>rfl
        rw [k6 j hs]
        exact e
      have pinA : ∀ {σ' : L2.St} {H' : Hp} {s' : Shared}, Inv X' ([(s.heap.objs.size, { cls := .type "list", data := .seq its.toArray k })] ++ pinsAt fp s5.heap) σ' H' s' ->
          s'.heap.get? s.heap.objs.size=some {cls:= .type "list",data:= .seq its.toArray k}/\H' s.heap.objs.size=none/\tn (i+1) s'.heap/\∀b ∈ fp,H' b=none:=fun {σ' H' s'} I=>by
        have z:=I.pin (s.heap.objs.size,_) (List.mem_append_right _ (List.mem_append_left _ (List.mem_singleton.mpr rfl)))
        refine ⟨z.1,z.2.1,T.keep _ _ _ st5 fun b hb o e=>(I.pin (b,o) (List.mem_append_right _ (List.mem_append_right _ (mem_pinsAt hb e)))).1,fun b hb=> ?_⟩
        obtain ⟨o,e,d⟩:=T.obj _ _ st5 b hb
        exact (I.pin (b,o) (List.mem_append_right _ (List.mem_append_right _ (mem_pinsAt hb e)))).2.1
      cases b with
      | false=>
        have q7:N ys H7:=q7
        obtain ⟨m',hm,w7⟩:=hN ys H7 q7
        obtain ⟨p1,p2,p3,p4⟩:=pinA I7
        exact ⟨m',hm,i+1,ys,H7,its,k,(weak I7).pins_of (fun _ z=>(nomatch z)),p3,p4,w7,p1,v3,p2⟩
      | true=>
        have HE:=he _ s7 σ6 H7 _ I7 q7
        rw [eP,eW,eA,exe] at HE
        refine thn HE fun y s8 ⟨z,H8,I8,r8,q8⟩ => ?_
        obtain ⟨m',hm,w8⟩:=hN _ H8 q8
        obtain ⟨p1,p2,p3,p4⟩:=pinA I8
        refine call_meets F.slot_list_append ⟨_,p1,rfl⟩ F.entry_list_append (F.args_list_append_2 _ _) (PySem.list_append s.heap.objs.size its.toArray k y (by rw [List.size_toArray, <-v3.length];omega)) ⟨p1,?_⟩
        have q:=PySem.IsL.update p1 (fun a=>a.push y)
        have other:∀b o,b≠s.heap.objs.size->s8.heap.get? b=some o->(s8.heap.update s.heap.objs.size (Obj.mapSeq fun a=>a.push y)).get? b=some o:=fun b o hb e=>(Heap.get?_update_other s8.heap _ (Ne.symm hb)).trans e
        have eq:its.toArray.push y=(its ++ [y]).toArray:=by simp
        have q:IsL (s8.heap.update s.heap.objs.size (Obj.mapSeq fun a=>a.push y)) s.heap.objs.size (its.toArray.push y) _:=q
        rw [eq] at q
        refine ⟨m',hm,i+1,ys ++ [z],H8,its ++ [y],_,?_,T.keep _ _ _ p3 fun b hb o e=>other b o (fun z=> ?_) e,p4,w8,q,v3.append (.cons r8 .nil),p2⟩
        . have I8w:Inv X' [] (subS ix σ) H8 s8:=(weak I8).pins_of fun _ z=>nomatch z
          refine I8w.turned (it:=s.heap.objs.size) other p2 (okX.exf _ mD).1 (.inl mD) (okX.exf _ mD).2 fun p hp=> ?_
          rw [eN] at hp
          cases hp
        . have l : @LT.lt Nat _ b s.heap.objs.size:=hlt b hb
          rw [z] at l
          omega
  exact codeAny_compStart_list (loop _ rfl) (T.self X.A 0 _ _ _ st3 (loop _ rfl))
def tLC(ix:List (Option Nat))(wi:TI)(g:CB->TG)(tt:CB->TT)(te:CB->TE):TE:=fun σ H Q=>wi σ H fun J H1=>∀b:CB,tLCg J (subS ix σ) (g b) (tt b) (te b) H1 Q
theorem pe_lc {tg elt iter : Expr} {ifs : List Expr} {pos : Pos} {wi : TI} {g : CB -> TG} {tt : CB -> TT} {te : CB -> TE} (hc : X.calm = true) (ho : X.env.scope = osc) {N : List Str} (hN : X.N = N) (hcs : csOk osc sc N N' ix = true) (hi : PI X tg iter wi)
    (hb:∀b:CB,PG (cxC X osc sc N' b) tg (g b)/\PTs (cxC X osc sc N' b) ifs (tt b)/\PE (cxC X osc sc N' b) elt (te b)) (gk:∀b:CB,GK (slotS ix) (g b))
    (hs:∀x,foldedSetIterable iter X.env x=pure x:=by intro _;rfl):PE X (.ListComp elt [⟨tg,iter,ifs,0⟩] sc pos) (tLC ix wi g tt te):=by
  subst hN
  have cs:=CS.of hcs
  intro pins s σ H Q I h
  rw [eval_ListComp]
  have hcl:=closureFor_eq (closes I cs ho)
  refine wpAny_comprehension_free (use:=none) rfl hs hcl cs.kind cs.names (thn (hi pins s σ H _ I h) fun v s1 h1=>thn h1 fun itv s2 h2=> ?_)
  obtain ⟨it,fp,tn,J,H2,e,I2,T,st2,f2,rd⟩:=h2
  subst e
  refine wpAny_newObj_type ?_
  refine wpAny_newEnv_comp ?_
  have hb':=hb ⟨s2.heap.objs.size+1,s2,H2,fp ++ [s2.heap.objs.size]⟩
  have rb:=run_block (scope:=sc) (pos:=pos) (iter:=iter) (R:=compPost (model X.prog X.w) X.A X.xe none (EP X pins σ Q) (.ref s2.heap.objs.size) (s2.heap.objs.size+1)) I2 cs ho hc T st2 f2 hb'.1 (gk _) hb'.2.1 hb'.2.2 (rd _) (fun ys H' s' B q=>by
    obtain ⟨m,hm⟩:=B.ns
    refine ⟨m,hm,fun h' hsb=> ?_⟩
    refine ⟨.ref s2.heap.objs.size,upd H' s2.heap.objs.size (.lst ys),?_,rfl,q⟩
    exact B.inv.turned (it:=s2.heap.objs.size+1) (fun b o hb e=>hsb.extBut b o hb e) B.cfree B.cl (.inr B.cn) B.cc B.cp)
  have sz:(s2.heap.push accObj).objs.size=s2.heap.objs.size+1:=Heap.size_push ..
  show codeAny _ _ (.compStart _ 0 (.ref it) (.ref s2.heap.objs.size) {newEnv sc (s2.heap.push accObj).objs.size X.env.globals (cellsFrom ((s2.heap.push accObj).objs.size+1) sc.names (closL X.env.cells sc.names [])) X.env.qual none .none (some X.env) builtinsNs with scope:=relabel sc X.env}) (compPost _ _ _ none _ (.ref s2.heap.objs.size) (s2.heap.push accObj).objs.size) _
  rw [sz,relabel_eq,ho]
  exact rb
def tSetC(i:Nat)(t:TE):TS:=fun D σ H=>t σ H fun v H1=>D.nx (σ.set i (some v)) H1
theorem ps_setC {tg elt iter : Expr} {ifs : List Expr} {pos py spos : Pos} {wi : TI} {g : CB -> TG} {tt : CB -> TT} {te : CB -> TE} {i : Nat} {y : Str} (hnd : X.N.Nodup) (hi' : X.N[i]? = some y) (hy : X.env.scope.names.lookup y = some .local)
    (hsw:swapsWith (.ListComp elt [⟨tg,iter,ifs,0⟩] sc pos) (some (.Name y py)) spos.line X.env=pure true)
    (hc:X.calm=true) (ho:X.env.scope=osc) {N:List Str} (hN:X.N=N) (hcs:csOk osc sc N N' ix=true) (hi:PI X tg iter wi)
    (hb:∀b:CB,PG (cxC X osc sc N' b) tg (g b)/\PTs (cxC X osc sc N' b) ifs (tt b)/\PE (cxC X osc sc N' b) elt (te b)) (gk:∀b:CB,GK (slotS ix) (g b))
    (hs:∀x,foldedSetIterable iter X.env x=pure x:=by intro _;rfl):PS X (.Assign [.Name y py] (.ListComp elt [⟨tg,iter,ifs,0⟩] sc pos) spos) (tSetC i (tLC ix wi g tt te)):=by
  have hN':=hN
  subst hN
  have cs:=CS.of hcs
  intro pins s σ H D I h
  rw [exec_Assign_Name_used _ _ _ _ hsw]
  have hcl:=closureFor_eq (closes I cs ho)
  refine wpAny_bind (wpAny_standAt (wpAny_bind ?_))
  show wpAny _ X.A (do let _ <-comprehension (.ListComp elt [⟨tg,iter,ifs,0⟩] sc pos) sc X.env _ (newList []) false (eval iter X.env) (some (assign (.Name y py) X.env))) _ _ s
  refine wpAny_bind (wpAny_mono (wpAny_comprehension_free (use:=some (assign (.Name y py) X.env)) (Q:=fun _ s'=>SP X pins D .next s') rfl hs hcl cs.kind cs.names
    (thn (hi pins s σ H _ I h) fun v s1 h1=>thn h1 fun itv s2 h2=> ?_)) (fun _ s' hq=>wpAny_pure (wpAny_pure hq)) fun _ _ e=>e)
  obtain ⟨it,fp,tn,J,H2,e,I2,T,st2,f2,rd⟩:=h2
  subst e
  refine wpAny_newObj_type ?_
  refine wpAny_newEnv_comp ?_
  have hb':=hb ⟨s2.heap.objs.size+1,s2,H2,fp ++ [s2.heap.objs.size]⟩
  have rb:=run_block (scope:=sc) (pos:=pos) (iter:=iter) (R:=compPost (model X.prog X.w) X.A X.xe (some (assign (.Name y py) X.env)) (fun _ s'=>SP X pins D .next s') (.ref s2.heap.objs.size) (s2.heap.objs.size+1)) I2 cs ho hc T st2 f2 hb'.1 (gk _) hb'.2.1 hb'.2.2 (rd _) (fun ys H' s' B q=>by
    show wpAny _ X.A (assign (.Name y py) X.env (.ref s2.heap.objs.size)) _ _ s'
    refine wpAny_assign_Name (store_ok2 (v:= .ref s2.heap.objs.size) B.inv hnd hi' (.inl hy) rfl (fun s'' I'' ⟨a,sb,ha⟩ => ?_) (.inr hy))
    have hne:s2.heap.objs.size+1≠a:=by
      rcases ha with ha | ha
      . rw [ha];exact B.cl
      . exact (B.cc y a ha).symm
    obtain ⟨m,hm⟩:=B.ns
    refine ⟨m,hm.sameBut sb hne,fun h' hsb=> ?_⟩
    exact ⟨_,_,I''.turned (it:=s2.heap.objs.size+1) (fun b o hb e=>hsb.extBut b o hb e) B.cfree B.cl (.inr B.cn) B.cc B.cp,q⟩)
  have sz:(s2.heap.push accObj).objs.size=s2.heap.objs.size+1:=Heap.size_push ..
  show codeAny _ _ (.compStart _ 0 (.ref it) (.ref s2.heap.objs.size) {newEnv sc (s2.heap.push accObj).objs.size X.env.globals (cellsFrom ((s2.heap.push accObj).objs.size+1) sc.names (closL X.env.cells sc.names [])) X.env.qual none .none (some X.env) builtinsNs with scope:=relabel sc X.env}) (compPost _ _ _ _ _ (.ref s2.heap.objs.size) (s2.heap.push accObj).objs.size) _
  rw [sz,relabel_eq,ho]
  exact rb
end
end Tf
namespace Tf
open PySem PySem.Spec PyProof.Rows L2
def Itz(K:PySem.W.Frag)(a b:Addr):It:=
  ⟨fun i H=>∃xs ys x y,SqL K H a xs/\SqL K H b ys/\xs[i]? = some x/\ys[i]? = some y,
   fun i H v H'=>∃p x y,H p=none/\v = .ref p/\H'=upd H p (.tup [x,y])/\(∀xs,SqL K H a xs->xs[i]? = some x)/\(∀ys,SqL K H b ys->ys[i]? = some y),
   fun i H=>∃xs ys,SqL K H a xs/\SqL K H b ys/\(xs.length<=i\/ys.length<=i)⟩
def tnZip(z TI TO i1 i2 l1 l2:Addr)(i:Nat)(h:Heap):Prop:=IsZip h z TI TO .none/\IsPair h TI (.ref i1) (.ref i2)/\(∃a b,IsPair h TO a b)/\h.IsListIter i1 l1 i/\h.IsListIter i2 l2 i
theorem turn_zip {P : Program} {w : World} {K : PySem.W.Frag} {elts : List Expr} {k : Nat} {pos : Pos} {z TI TO i1 i2 l1 l2 : Addr} (D : ZipApart z TI TO i1 i2 l1 l2) :
    Turn P w K (.Tuple elts k pos) (Itz K l1 l2) [z,TI,TO,i1,i2] z (tnZip z TI TO i1 i2 l1 l2) where
  mem:=by simp
  obj:=fun i h st b hb=>by
    obtain ⟨h1,h2,⟨a,c,h3⟩,⟨o4,h4,_,d4⟩,⟨o5,h5,_,d5⟩⟩:=st
    simp only [List.mem_cons,List.not_mem_nil,or_false] at hb
    rcases hb with rfl | rfl | rfl | rfl | rfl
    . exact ⟨_,h1,fun v e=>(nomatch e)⟩
    . exact ⟨_,h2,fun v e=>(nomatch e)⟩
    . exact ⟨_,h3,fun v e=>(nomatch e)⟩
    . exact ⟨_,h4,fun v e=>by rw [d4] at e;cases e⟩
    . exact ⟨_,h5,fun v e=>by rw [d5] at e;cases e⟩
  keep:=fun i h h' st kk=>by
    obtain ⟨h1,h2,⟨a,c,h3⟩,h4,h5⟩:=st
    exact ⟨kk z (by simp) _ h1,kk TI (by simp) _ h2,⟨a,c,kk TO (by simp) _ h3⟩,h4.at fun o e=>kk i1 (by simp) o e,h5.at fun o e=>kk i2 (by simp) o e⟩
  item:=by
    intro X hP hw hK hc i pins s σ H E I hf st hg
    subst hP hw hK
    obtain ⟨h1,h2,⟨a,c,h3⟩,h4,h5⟩:=st
    obtain ⟨xs,ys,x,y,q1,q2,hx,hy⟩:=hg
    obtain ⟨its,rv,p,hz⟩:=I.list q1
    obtain ⟨jts,rw',p',hz'⟩:=I.list q2
    obtain ⟨u,hu,ru⟩:=rv.get hx
    obtain ⟨u',hu',ru'⟩:=rw'.get hy
    have ltS:∀ {h:Heap} {b:Addr} {o:Obj},h.get? b=some o -> @LT.lt Nat _ b h.objs.size:=fun e=>Heap.lt_size e
    refine wpAny_pyNext_zip_item D h1 h2 h3 h4 h5 p.isList p'.isList (x:=u) (y:=u') (by simpa using hu) (by simpa using hu') fun h' a1 a2 a3 a4 a5 a6 hk=> ?_
    refine ⟨_,rfl,wpAny_letOwnedTupleGo_zip a1 fun h'' a1' sb=> ?_⟩
    have ch:∀b ∈ [z,TI,TO,i1,i2],H b=none:=fun b hb=>(hf b hb).1
    have kk:∀b o,b ∉ [z,TO,i1,i2]->s.heap.get? b=some o->h''.get? b=some o:=fun b o hb e=>by
      simp only [List.mem_cons,List.not_mem_nil,or_false,not_or] at hb
      exact sb.extBut b o hb.1 (hk b o hb.1 hb.2.1 hb.2.2.1 hb.2.2.2 e)
    have eT:h''.get? s.heap.objs.size=some {cls:= .type "tuple",data:= .seq #[u,u']}:=sb.extBut _ _ (fun e=>by have l:=ltS h1;rw [<-e] at l;omega) a5
    have sub:∀b,b ∈ [z,TO,i1,i2]->b ∈ [z,TI,TO,i1,i2]:=fun b hb=>by
      simp only [List.mem_cons,List.not_mem_nil,or_false] at hb ⊢
      rcases hb with r | r | r | r
      . exact .inl r
      . exact .inr (.inr (.inl r))
      . exact .inr (.inr (.inr (.inl r)))
      . exact .inr (.inr (.inr (.inr r)))
    have nT:H s.heap.objs.size=none:=I.hok.fresh (Nat.le_refl _)
    have hok1 : HOk X.prog X.w H h'' := fun b o e => (I.hok b o e).stay (fun d v hd q => kk d v (fun hm => by
        have n:=ch d (sub d hm)
        rcases hd with hd | hd
        . rw [hd,e] at n;cases n
        . rw [hd] at n;cases n) q) (fun _ q=>q) fun _ _ q=>q
    have hok2:HOk X.prog X.w (upd H s.heap.objs.size (.tup [x,y])) h'':=HOk_add hok1 nT ⟨by show 2<=sizeLine;decide,[u,u'], .cons ru (.cons ru' .nil),⟨_,eT,rfl,_,rfl⟩⟩
    have un:Un (frs X.stack) [z,TO,i1,i2] H (upd H s.heap.objs.size (.tup [x,y])) s.heap h'':=by
      refine ⟨fun b o e _ _ hx=>kk b o hx e,fun b o e _ _ hx=>⟨o.slots,kk b o hx e⟩,fun b o e n _=> ?_,fun b o e hx=>⟨o,kk b o hx e⟩,fun b zs e=> ?_,fun b o v e=> ?_,fun b ps e=>⟨#[],?_⟩⟩
      . have l:=ltS e
        rw [upd_ne (by intro q;subst q;omega)];exact n
      . rw [upd_ne (ne_of_none e nT)];exact e
      . rw [upd_ne (ne_of_none e nT)];exact e
      . rw [upd_ne (ne_of_none e nT)];simpa using e
    have I2:Inv X pins σ (upd H s.heap.objs.size (.tup [x,y])) {s with heap:=h'' }:=I.call' rfl un hok2 I.bare fun b hb=>by
      obtain ⟨f0,f1,f2,f3,f4,f5⟩:=hf b (sub b hb)
      exact ⟨f3,f1,f4,f5⟩
    refine ⟨.ref s.heap.objs.size,_,I2,rfl,⟨s.heap.objs.size,x,y,nT,rfl,rfl,fun zs hq=> ?_,fun zs hq=> ?_⟩,⟨a1',?_,⟨_,_,sb.extBut _ _ D.TOz a2⟩,a3.extBut sb.extBut D.i1z,a4.extBut sb.extBut D.i2z⟩,fun b hb=> ?_⟩
    . rw [I.list_inj hq q1];exact hx
    . rw [I.list_inj hq q2];exact hy
    . exact sb.extBut _ _ D.TIz (hk TI _ D.TIz D.TITO D.TIi1 D.TIi2 h2)
    . have n:=ch b hb
      obtain ⟨o,e⟩:∃o,s.heap.get? b=some o:=by
        simp only [List.mem_cons,List.not_mem_nil,or_false] at hb
        rcases hb with rfl | rfl | rfl | rfl | rfl
        . exact ⟨_,h1⟩
        . exact ⟨_,h2⟩
        . exact ⟨_,h3⟩
        . obtain ⟨o,e,_⟩:=h4;exact ⟨o,e⟩
        . obtain ⟨o,e,_⟩:=h5;exact ⟨o,e⟩
      have l:=ltS e
      rw [upd_ne (by intro q;subst q;omega)]
      exact n
  done:=by
    intro X hP hw hK hc i pins s σ H E I hf st hg
    subst hP hw hK
    obtain ⟨h1,h2,⟨a,c,h3⟩,h4,h5⟩:=st
    obtain ⟨xs,ys,q1,q2,he⟩:=hg
    obtain ⟨its,rv,p,hz⟩:=I.list q1
    obtain ⟨jts,rw',p',hz'⟩:=I.list q2
    have l1:=rv.length
    have l2:=rw'.length
    refine wpAny_pyNext_zip_end (I.ok.hd hc) D h1 h2 h3 h4 h5 p.isList p'.isList (by rcases he with e | e; · left; simp; omega
                                                                                     . right;simp;omega) fun h' hk=>⟨rfl,?_⟩
    have ch:∀b ∈ [z,TI,TO,i1,i2],H b=none:=fun b hb=>(hf b hb).1
    have sub:∀b,b ∈ [z,TO,i1,i2]->b ∈ [z,TI,TO,i1,i2]:=fun b hb=>by
      simp only [List.mem_cons,List.not_mem_nil,or_false] at hb ⊢
      rcases hb with r | r | r | r
      . exact .inl r
      . exact .inr (.inr (.inl r))
      . exact .inr (.inr (.inr (.inl r)))
      . exact .inr (.inr (.inr (.inr r)))
    have kk:∀b o,b ∉ [z,TO,i1,i2]->s.heap.get? b=some o->h'.get? b=some o:=fun b o hb e=>by
      simp only [List.mem_cons,List.not_mem_nil,or_false,not_or] at hb
      exact hk b o hb.1 hb.2.1 hb.2.2.1 hb.2.2.2 e
    have hok1 : HOk X.prog X.w H h' := fun b o e => (I.hok b o e).stay (fun d v hd q => kk d v (fun hm => by
        have n:=ch d (sub d hm)
        rcases hd with hd | hd
        . rw [hd,e] at n;cases n
        . rw [hd] at n;cases n) q) (fun _ q=>q) fun _ _ q=>q
    have un:Un (frs X.stack) [z,TO,i1,i2] H H s.heap h' :=
      ⟨fun b o e _ _ hx=>kk b o hx e,fun b o e _ _ hx=>⟨o.slots,kk b o hx e⟩,fun b o e n _=>n,fun b o e hx=>⟨o,kk b o hx e⟩,fun b zs e=>e,fun b o v e=>e,fun b ps e=>⟨#[],by simpa using e⟩⟩
    exact I.call' rfl un hok1 I.bare fun b hb=>by
      obtain ⟨f0,f1,f2,f3,f4,f5⟩:=hf b (sub b hb)
      exact ⟨f3,f1,f4,f5⟩
  self:=fun _ _ _ _ _ st h=>wpAny_pyIter_zip st.1 h
section
variable {X:Cx}
def iZip(K:PySem.W.Frag)(ta:TA):TI:=fun σ H R=>ta σ H fun vs H1=>∃l1 l2,vs = [.ref l1, .ref l2]/\(∃xs,SqL K H1 l1 xs)/\(∃ys,SqL K H1 l2 ys)/\R (Itz K l1 l2) H1
theorem pi_zip {a b : Expr} {ta : TA} {elts : List Expr} {k : Nat} {tp p pos : Pos} (hg : Gl X "zip") (hm : X.mg "zip" = none) (ha : PA X [a, b] ta) (hs : starEach [a, b] X.env = [(false, eval a X.env), (false, eval b X.env)] := by rfl) (hs2 : starEach [b] X.env = [(false, eval b X.env)] := by rfl) :
    PI X (.Tuple elts k tp) (.Call (.Name "zip" p) [a,b] [] pos) (iZip X.K ta):=by
  intro pins s σ H R I h
  refine Call_ (ld_blt I hg hm bt_zip (PyProof.Rows.callWith_type1 (thn (ha pos pins s σ H _ I h) fun us s1 ⟨vs,H1,I1,r1,q1⟩ => ?_) (by rw [hs,hs2]) (by rw [hs2];rfl)))
  obtain ⟨l1,l2,e,⟨xs,q1⟩,⟨ys,q2⟩,q⟩:=q1
  subst e
  obtain ⟨u,w',rfl,ru,rw'⟩:=vals2 r1
  cases (show u=Value.ref l1 from ru)
  cases (show w'=Value.ref l2 from rw')
  obtain ⟨its,rv,p1,hz⟩:=I1.list q1
  obtain ⟨jts,rv',p2,hz'⟩:=I1.list q2
  have lt1:l1<s1.heap.objs.size:=by obtain ⟨o,n,e,_⟩:=p1;exact Heap.lt_size e
  have lt2:l2<s1.heap.objs.size:=by obtain ⟨o,n,e,_⟩:=p2;exact Heap.lt_size e
  refine call_zip_2 p1.isList p2.isList fun h' a1 a2 a3 a4 a5 a6 hk=> ?_
  refine wpAny_pyIter_zip (s:={s1 with heap:=h' }) a1 ?_
  refine ⟨_,[s1.heap.objs.size+4,s1.heap.objs.size+2,s1.heap.objs.size+3,s1.heap.objs.size,s1.heap.objs.size+1],_,_,H1,rfl,I1.kept (t':=s1.toks) hk,turn_zip (zipApart_new lt1 lt2),⟨a1,a2,⟨_,_,a3⟩,a4,a5⟩,fun b hb=> ?_,q⟩
  have hb:s1.heap.objs.size<=b:=by
    simp only [List.mem_cons,List.not_mem_nil,or_false] at hb
    rcases hb with rfl | rfl | rfl | rfl | rfl
    . exact Nat.le_add_right _ _
    . exact Nat.le_add_right _ _
    . exact Nat.le_add_right _ _
    . exact Nat.le_refl _
    . exact Nat.le_add_right _ _
  exact I1.fpOk hb (I1.hok.fresh hb)
def Itd(hi:Int)(n:Nat):It:=⟨fun i _=>i<n,fun i H x H'=>H'=H/\x = .int (hi - i),fun i _=>n<=i⟩
theorem turn_down{P:Program}{w:World}{K:PySem.W.Frag}{tg:Expr}(it:Addr)(hi:Int)(n:Nat):Turn P w K tg (Itd hi n) [it] it (fun i h=>IsRangeIter h it (hi+(i:Nat)*(-1)) ((n:Int) - (i:Nat)) (-1)) where
  mem:=by simp
  obj:=fun i h st b hb=>by
    have e:b=it:=by simpa using hb
    subst e
    exact ⟨_,st,fun v z=>by
      have z':Data.fields _=Data.cell v:=z
      cases z'⟩
  keep:=fun i h h' st k=>k it (by simp) _ st
  item:=by
    intro X hP hw hK hc i pins s σ H E I hf st hg
    subst hP hw hK
    obtain ⟨f0,f1,f2,f3,f4,f5⟩:=hf it (by simp)
    have W:=Walks.range (prog:=X.prog) (w:=X.w) (I.ok.hd hc) it hi (-1) n
    refine W.item i s _ _ hg st fun v h' tk hv st' kk=> ?_
    obtain ⟨t,rfl⟩:=hv
    have I1:Inv X pins σ H {s with heap:=h',toks:=tk}:=I.turned (fun b o hb e=>kk b o (by simpa using hb) e) f0 f1 f3 f4 f5
    refine ⟨_,rfl,go_of (s:={s with heap:=h',toks:=tk}) (n:= "range_iterator") st' rfl rfl (by decide) ⟨.int (hi - i),H,I1,⟨t,?_⟩,⟨rfl,rfl⟩,st',fun b hb=>(hf b hb).1⟩⟩
    have:hi+(i:Int)*(-1)=hi - i:=by omega
    rw [this]
  done:=by
    intro X hP hw hK hc i pins s σ H E I hf st hg
    subst hP hw hK
    obtain ⟨f0,f1,f2,f3,f4,f5⟩:=hf it (by simp)
    exact wpAny_pyNext_range_end (I.ok.hd hc) st (by have:n<=i:=hg;omega) fun h' eb=>⟨rfl,I.turned (t':=s.toks) (fun b o hb e=>eb b o hb e) f0 f1 f3 f4 f5⟩
  self:=fun _ _ _ _ _ st h=>wpAny_pyIter_rangeiter st h
theorem small_down{a b:Int}(ha : -(2 ^ 62)<=a)(ha':a<2 ^ 62)(hb : -(2 ^ 62)<=b)(hb':b<2 ^ 62):Builtin.Range.small a b (-1)=true:=by
  unfold Builtin.Range.small
  unfold Builtin.Range.rangeSize
  simp only [Builtin.Range.rangeFitsLong,Bool.and_eq_true,Bool.or_eq_true,decide_eq_true_eq,beq_iff_eq,show ¬((-1:Int)>0) by decide,if_false,show -(-1:Int)=1 by decide,Int.ediv_one]
  split <;> omega
def iRngD(ta:TA):TI:=fun σ H R=>ta σ H fun vs H1=>∃i j:Int,vs = [.int i, .int j, .int (-1)]/\(-(2 ^ 62)<=i/\i<2 ^ 62 /\ -(2 ^ 62)<=j/\j<2 ^ 62)/\R (Itd i (i - j).toNat) H1
theorem pi_rangeD {tg : Expr} {a b c : Expr} {ta : TA} {p pos : Pos} (hg : Gl X "range") (hm : X.mg "range" = none) (ha : PA X [a, b, c] ta) (hs : starEach [a, b, c] X.env = (false, eval a X.env) :: starEach [b, c] X.env := by rfl) (hs2 : (backTo pos (starEach [b, c] X.env)).any (·.1) = false := by rfl) :
    PI X tg (.Call (.Name "range" p) [a,b,c] [] pos) (iRngD ta):=by
  intro pins s σ H R I h
  refine Call_ (ld_blt I hg hm bt_range (PyProof.Rows.callWith_type1 (thn (ha pos pins s σ H _ I h) fun us s1 ⟨vs,H1,I1,r1,q1⟩ => ?_) hs hs2))
  obtain ⟨i,j,e,⟨q1,q2,q3,q4⟩,q⟩:=q1
  subst e
  cases r1 with
  | cons r rr=>
    cases rr with
    | cons r' rr=>
      obtain ⟨u,rfl,t'',rfl⟩:=vals1 rr
      obtain ⟨t,rfl⟩:=r
      obtain ⟨t',rfl⟩:=r'
      refine call_range_3 (by decide) ?_ (.inl (PyProof.noPylong_of_log2 (by decide +kernel)))
      refine wpAny_pyIter_range (IsRange.new ..) (small_down q1 q2 q3 q4) ?_
      have I2:Inv X pins σ H1 {s1 with heap:=s1.heap.push {cls:= .type "range",data:= .fields #[.int i t, .int j t', .int (-1) t'']},toks:=s1.toks}:=I1.kept fun b o e=>Heap.get?_push_of_some _ e
      refine ⟨(s1.heap.push {cls:= .type "range",data:= .fields #[.int i t, .int j t', .int (-1) t'']}).objs.size,[(s1.heap.push {cls:= .type "range",data:= .fields #[.int i t, .int j t', .int (-1) t'']}).objs.size],_,_,H1,rfl,
        I2.kept (t':=s1.toks) fun b o e=>Heap.get?_push_of_some _ e,turn_down _ i (i - j).toNat,?_,fun b hb=> ?_,q⟩
      . have e1:i+((0:Nat):Int)*(-1)=i:=by simp
        have e2:(((i - j).toNat:Nat):Int) - ((0:Nat):Int)=Builtin.Range.rangeSize i j (-1):=by
          unfold Builtin.Range.rangeSize
          rw [if_neg (by decide),show -(-1:Int)=1 by decide,Int.ediv_one]
          split <;> omega
        show IsRangeIter _ _ (i+((0:Nat):Int)*(-1)) ((((i - j).toNat:Nat):Int) - ((0:Nat):Int)) (-1)
        rw [e1,e2]
        exact Heap.get?_push_size _ rfl
      . have e:b=(s1.heap.push {cls:= .type "range",data:= .fields #[.int i t, .int j t', .int (-1) t'']}).objs.size:=by simpa using hb
        subst e
        exact I2.fpOk (Nat.le_refl _) (I2.hok.fresh (Nat.le_refl _))
theorem call_sum(hc:X.calm=true):CallR X (.builtin "sum") (fun xs H Q=>∃p ns,xs = [.ref p]/\SqL X.K H p (ns.map V.int)/\Q (.int (List.sum ns)) H):=by
  intro pins s σ H xs us Q I r h
  obtain ⟨p,ns,rfl,hq,q⟩:=h
  obtain ⟨u,rfl,ru⟩:=vals1 r
  cases (show u=Value.ref p from ru)
  obtain ⟨its,rv,pl,hz⟩:=I.list hq
  have hi:=intsAre_of rv
  obtain ⟨zs,ez⟩:=hi.allInts.items
  have hl:s.heap.IsList p (intItems zs):=ez ▸ pl.isList
  have en:preSum (numAt zs) zs.size=ns.sum:=by
    rw [preSum_eq,List.take_of_length_le (by simp)]
    have:=hi.numsOf
    rw [<-this]
    have e2:its=(intItems zs).toList:=by rw [<-ez]
    rw [e2,nums_intItems]
  refine sum_intListG (I.ok.hd hc) hl fun h' tk t' hk=> ?_
  rw [en]
  exact ⟨.int ns.sum,H,I.kept hk,⟨t',rfl⟩,q⟩
section
variable {K:PySem.W.Frag} {σ0:L2.St} {g:TG} {tt:TT} {te:TE} {H:Hp} {Q:VK}
theorem Reps.snoc{vs:List V}{ds:List PyData}{v:V}{d:PyData}(h:Reps K H vs ds)(k:Rep K H v d):Reps K H (vs ++ [v]) (ds ++ [d]):=by
  induction vs generalizing ds with
  | nil=>cases h;exact .cons k .nil
  | cons x xs ih=>cases h with | cons a b=>exact .cons a (ih b)
theorem Reps.length:∀ {vs:List V} {ds:List PyData},Reps K H vs ds->vs.length=ds.length
  | _,_, .nil=>rfl
  | _,_, .cons _ h=>by rw [List.length_cons,List.length_cons,Reps.length h]
theorem Reps.get:∀ {vs:List V} {ds:List PyData} {i:Nat} {d:PyData},Reps K H vs ds->ds[i]? = some d->∃v,vs[i]? = some v/\Rep K H v d
  | _,_,_,_, .nil,e=>by simp at e
  | _,_,0,_, .cons r _,e=>by simp at e;subst e;exact ⟨_,rfl,r⟩
  | _,_,i+1,d, .cons _ t,e=>by
    obtain ⟨u,h1,h2⟩:=Reps.get (i:=i) (d:=d) t (by simpa using e)
    exact ⟨u,by simpa using h1,h2⟩
end
end
end Tf
namespace Dm
open PySem PySem.Spec PyProof.Rows L2 Tf
inductive Sl where
  | val (d:PyData)
  | own (ds:List PyData)
def Sl.dat:Sl->PyData
  | .val d=>d
  | .own ds=> .list ds
abbrev En:=List (Option Sl)
theorem same_upd2{H0 H:Hp}{p:Addr}{o:HO}(h:Same H0 H):Same (upd H0 p o) (upd H p o):=fun b u e=>by
  by_cases hb:b=p
  . subst hb;rw [upd_same] at e ⊢;exact e
  . rw [upd_ne hb] at e ⊢;exact h b u e
structure Ext (H0 H H0' H':Hp):Prop where
  s:Same H H'
  s0:Same H0 H0'
  s1:Same H0' H'
  own:∀a o,H a=some o->H0 a=none->H0' a=none
theorem Ext.refl{H0 H:Hp}(h:Same H0 H):Ext H0 H H0 H:=⟨Same.refl _,Same.refl _,h,fun _ _ _ h=>h⟩
theorem Ext.trans{H0 H H1 J1 H2 J2:Hp}(a:Ext H0 H H1 J1)(b:Ext H1 J1 H2 J2):Ext H0 H H2 J2:=
  ⟨a.s.trans b.s,a.s0.trans b.s0,b.s1,fun x o h h0=>b.own x o (a.s x o h) (a.own x o h h0)⟩
theorem Ext.chain{S0 HB H0 H H1 J1:Hp}(a:Ext S0 HB H0 H)(b:Ext H0 H H1 J1):Ext S0 HB H1 J1:=
  ⟨a.s.trans b.s,a.s0.trans b.s0,b.s1,fun x o h h0=>b.own x o (a.s x o h) (a.own x o h h0)⟩
theorem Ext.rebase{S0 HB H0 H:Hp}(a:Ext S0 HB H0 H):Ext H0 HB H0 H:=⟨a.s,Same.refl _,a.s1,fun _ _ _ h=>h⟩
theorem Ext.unbase{S0 HB H0 H H1 J1:Hp}(a:Ext S0 HB H0 H)(b:Ext H0 HB H1 J1):Ext S0 HB H1 J1:=
  ⟨b.s,a.s0.trans b.s0,b.s1,fun x o h h0=>b.own x o h (a.own x o h h0)⟩
theorem Ext.alloc{H0 H:Hp}{p:Addr}(h:Same H0 H)(hp:H p=none)(o:HO):Ext H0 H H0 (upd H p o) :=
  ⟨Same.upd hp o,Same.refl _,h.trans (Same.upd hp o),fun _ _ _ h=>h⟩
theorem Ext.allocF{H0 H:Hp}{p:Addr}(h:Same H0 H)(hp:H p=none)(o:HO):Ext H0 H (upd H0 p o) (upd H p o) :=
  ⟨Same.upd hp o,Same.upd (h.free hp) o,same_upd2 h,fun a o' ha h0=>by rw [upd_ne (ne_of_none ha hp)];exact h0⟩
section
variable {K:PySem.W.Frag}
def SlP(K:PySem.W.Frag)(H0 H:Hp)(v:V):Sl->Prop
  | .val d=>Rep K H0 v d
  | .own ds=>∃a vs,v = .ref a/\H a=some (.lst vs)/\Reps K H0 vs ds
def SlH(K:PySem.W.Frag)(HB H0 H:Hp)(v:V):Sl->Prop
  | .val d=>Rep K H0 v d
  | .own ds=>∃a vs,v = .ref a/\HB a=none/\H0 a=none/\H a=some (.lst vs)/\Reps K H0 vs ds
theorem SlH.p{HB H0 H:Hp}{v:V}:∀ {s:Sl},SlH K HB H0 H v s->SlP K H0 H v s
  | .val _,h=>h
  | .own _,⟨a,vs,e,_,_,h1,h2⟩=>⟨a,vs,e,h1,h2⟩
theorem SlH.base{HB HB' H0 H:Hp}{v:V}(s:Same HB HB'):∀ {r:Sl},SlH K HB' H0 H v r->SlH K HB H0 H v r
  | .val _,h=>h
  | .own _,⟨a,vs,e,h0,h1,h2,h3⟩=>⟨a,vs,e,s.free h0,h1,h2,h3⟩
theorem SlH.ext{HB H0 H H0' H':Hp}{v:V}(x:Ext H0 H H0' H'):∀ {r:Sl},SlH K HB H0 H v r->SlH K HB H0' H' v r
  | .val _,h=>Rep.same x.s0 h
  | .own _,⟨a,vs,e,h0,h1,h2,h3⟩=>⟨a,vs,e,h0,x.own a _ h2 h1,x.s _ _ h2,Reps.same x.s0 h3⟩
theorem SlP.ext{H0 H H0' H':Hp}{v:V}(x:Ext H0 H H0' H'):∀ {r:Sl},SlP K H0 H v r->SlP K H0' H' v r
  | .val _,h=>Rep.same x.s0 h
  | .own _,⟨a,vs,e,h2,h3⟩=>⟨a,vs,e,x.s _ _ h2,Reps.same x.s0 h3⟩
theorem SlP.rep{H0 H:Hp}{v:V}(s:Same H0 H):∀ {r:Sl},SlP K H0 H v r->Rep K H v r.dat
  | .val _,h=>Rep.same s h
  | .own _,⟨a,vs,e,h2,h3⟩=>by subst e;exact .list (SqL.of h2) (Reps.same s h3)
theorem SlP.lst{H0 H:Hp}{v:V}{ds:List PyData}(s:Same H0 H):∀ {r:Sl},SlP K H0 H v r->r.dat = .list ds->∃a vs,v = .ref a/\SqL K H a vs/\Reps K H0 vs ds
  | .val _,h,e=>by
    cases h with
    | list h1 h2=>cases e;exact ⟨_,_,rfl,s.seq h1,h2⟩
    | _=>cases e
  | .own _,⟨a,vs,e,h2,h3⟩,e2=>by cases e2;exact ⟨a,vs,e,SqL.of h2,h3⟩
theorem SlP.tup{H0 H:Hp}{v:V}{ds:List PyData}:∀ {r:Sl},SlP K H0 H v r->r.dat = .tuple ds->∃a vs,v = .ref a/\SqT K H0 a vs/\Reps K H0 vs ds
  | .val _,h,e=>by
    cases h with
    | tuple h1 h2=>cases e;exact ⟨_,_,rfl,h1,h2⟩
    | _=>cases e
  | .own _,_,e=>by cases e
theorem SlP.int{H0 H:Hp}{v:V}{i:Int}(h:SlP K H0 H v (.val (.int i))):v = .int i:=by cases (show Rep K H0 v (.int i) from h);rfl
theorem SlP.bool{H0 H:Hp}{v:V}{i:Bool}(h:SlP K H0 H v (.val (.bool i))):v = .bl i:=by cases (show Rep K H0 v (.bool i) from h);rfl
theorem SlP.str{H0 H:Hp}{v:V}{i:Str}(h:SlP K H0 H v (.val (.str i))):v = .str i:=by cases (show Rep K H0 v (.str i) from h);rfl
theorem SlP.none{H0 H:Hp}{v:V}(h:SlP K H0 H v (.val .none)):v = .non:=by cases (show Rep K H0 v .none from h);rfl
theorem rep_non{H:Hp}{v:V}{d:PyData}(h:Rep K H v d):v = .non↔d = .none:=by
  cases h <;> simp
structure ER (K:PySem.W.Frag) (HB H0 H:Hp) (σ:L2.St) (ρ:En):Prop where
  len:σ.length=ρ.length
  get:∀(i:Nat) s,ρ[i]? = some (some s)->∃v,σ[i]? = some (some v)/\SlH K HB H0 H v s
  apart:∀(i j:Nat) a ds es,i≠j->ρ[i]? = some (some (.own ds))->ρ[j]? = some (some (.own es))->σ[i]? = some (some (.ref a))->σ[j]? ≠ some (some (.ref a))
theorem ER.ext{HB H0 H H0' H':Hp}{σ:L2.St}{ρ:En}(x:Ext H0 H H0' H')(e:ER K HB H0 H σ ρ):ER K HB H0' H' σ ρ:=
  ⟨e.len,fun i s h=>by obtain ⟨v,h1,h2⟩:=e.get i s h;exact ⟨v,h1,h2.ext x⟩,e.apart⟩
structure Rl where
  r:Hp->Hp->Hp->L2.St->En->Prop
  slot:Nat->Prop
structure ST (R:Rl) (HB H0 H:Hp) (σ:L2.St) (ρ:En):Prop where
  r:R.r HB H0 H σ ρ
class RelOk (K:outParam PySem.W.Frag) (R:Rl):Prop where
  ext:∀ {HB H0 H H0' H':Hp} {σ:L2.St} {ρ:En},Ext H0 H H0' H'->R.r HB H0 H σ ρ->R.r HB H0' H' σ ρ
  get:∀ {HB H0 H:Hp} {σ:L2.St} {ρ:En} {i:Nat} {s:Sl},R.r HB H0 H σ ρ->R.slot i->ρ[i]? = some (some s)->∃v,σ[i]? = some (some v)/\SlH K HB H0 H v s
  set:∀ {HB H0 H H0' H':Hp} {σ:L2.St} {ρ:En} {i:Nat} {v:V} {s:Sl},R.r HB H0 H σ ρ->R.slot i->Ext H0 H H0' H'->Same HB H->SlH K H H0' H' v s->R.r HB H0' H' (σ.set i (some v)) (ρ.set i (some s))
  write:∀ {HB H0 H:Hp} {σ:L2.St} {ρ:En} {i:Nat} {a:Addr} {ds es:List PyData} {vs ys:List V},R.r HB H0 H σ ρ->R.slot i->ρ[i]? = some (some (.own ds))->σ[i]? = some (some (.ref a))->HB a=none->H0 a=none->H a=some (.lst vs)->Reps K H0 ys es->R.r HB H0 (upd H a (.lst ys)) σ (ρ.set i (some (.own es)))
  frz:∀ {S0 HB H0 H:Hp} {σ:L2.St} {ρ:En} {i:Nat} {ds:List PyData},R.r HB H0 H σ ρ->R.slot i->ρ[i]? = some (some (.own ds))->Ext S0 HB H0 H->∃H0',Ext S0 HB H0' H/\R.r HB H0' H σ (ρ.set i (some (.val (.list ds))))
theorem ST.ext{R:Rl} [RelOk K R] {HB H0 H H0' H':Hp} {σ:L2.St} {ρ:En} (x:Ext H0 H H0' H') (e:ST R HB H0 H σ ρ):ST R HB H0' H' σ ρ:=⟨RelOk.ext (K:=K) x e.r⟩
def PR(K:PySem.W.Frag):Rl:=⟨ER K,fun _=>True⟩
variable {R:Rl} [RelOk K R]
def RX{α:Type}(K:PySem.W.Frag)(R:Rl)(P:Hp->Hp->Hp->V->α->Prop)(te:TE)(f:En->Option α):Prop:=
  ∀(HB:Hp) (σ:L2.St) (ρ:En) (H0 H:Hp),Same H0 H->ST R HB H0 H σ ρ->∀r,f ρ=some r->∀Q:VK,(∀v H0' H',Ext H0 H H0' H'->P H H0' H' v r->Q v H')->te σ H Q
abbrev RE (K:PySem.W.Frag) (R:Rl):TE->(En->Option Sl)->Prop:=RX K R (fun H H0' H' v r=>SlH K H H0' H' v r)
abbrev RP (K:PySem.W.Frag) (R:Rl):TE->(En->Option Sl)->Prop:=RX K R (fun _ H0' H' v r=>SlP K H0' H' v r)
abbrev RV (K:PySem.W.Frag) (R:Rl):TE->(En->Option PyData)->Prop:=RX K R (fun _ H0' _ v d=>Rep K H0' v d)
def RT(K:PySem.W.Frag)(R:Rl)(tt:TT)(f:En->Option Bool):Prop:=
  ∀(HB:Hp) (σ:L2.St) (ρ:En) (H0 H:Hp),Same H0 H->ST R HB H0 H σ ρ->∀b,f ρ=some b->∀Q:Bool->Hp->Prop,(∀H0' H',Ext H0 H H0' H'->Q b H')->tt σ H Q
def RA(K:PySem.W.Frag)(R:Rl)(ta:TA)(f:En->Option (List PyData)):Prop:=
  ∀(HB:Hp) (σ:L2.St) (ρ:En) (H0 H:Hp),Same H0 H->ST R HB H0 H σ ρ->∀ds,f ρ=some ds->∀Q:List V->Hp->Prop,(∀vs H0' H',Ext H0 H H0' H'->Reps K H0' vs ds->Q vs H')->ta σ H Q
def RQ(K:PySem.W.Frag)(R:Rl)(ta:TA)(f:En->Option (List Sl)):Prop:=
  ∀(HB:Hp) (σ:L2.St) (ρ:En) (H0 H:Hp),Same H0 H->ST R HB H0 H σ ρ->∀ss,f ρ=some ss->∀Q:List V->Hp->Prop,(∀vs H0' H',Ext H0 H H0' H'->Paired (SlP K H0' H') vs ss->Q vs H')->ta σ H Q
theorem RE.rp{te:TE}{f:En->Option Sl}(h:RE K R te f):RP K R te f:=fun HB σ ρ H0 H s e r hr Q q=>h HB σ ρ H0 H s e r hr Q fun v H0' H' x p=>q v H0' H' x p.p
theorem frz_ext{H0 H H0' H':Hp}{a:Addr}{vs:List V}(x:Ext H0 H H0' H')(hn:H a=none)(h1:H0' a=none)(h2:H' a=some (.lst vs)):Ext H0 H (upd H0' a (.lst vs)) H' :=
  ⟨x.s,x.s0.trans (Same.upd h1 _),fun b u e=>by
    by_cases hb:b=a
    . subst hb;rw [upd_same] at e;rw [h2];exact e
    . rw [upd_ne hb] at e;exact x.s1 b u e,fun b o hb h0=>by
    rw [upd_ne (ne_of_none hb hn)];exact x.own b o hb h0⟩
def mDat(f:En->Option Sl):En->Option PyData:=fun ρ=>(f ρ).map Sl.dat
theorem RE.rv{te:TE}{f:En->Option Sl}(h:RE K R te f):RV K R te (mDat f):=fun HB σ ρ H0 H s e d hd Q q=>by
  obtain ⟨r,hr,rfl⟩:=Option.map_eq_some_iff.mp hd
  refine h HB σ ρ H0 H s e r hr Q fun v H0' H' x p=> ?_
  cases r with
  | val d=>exact q v H0' H' x p
  | own ds=>
    obtain ⟨a,vs,rfl,hn,h1,h2,h3⟩:=p
    exact q _ _ _ (frz_ext x hn h1 h2) (.list (SqL.of upd_same) (Reps.same (Same.upd h1 _) h3))
def mPk(i:Nat):En->Option Sl:=fun ρ=>(ρ[i]?).join
def mVar(i:Nat):En->Option Sl:=fun ρ=>match (ρ[i]?).join with
  | some (.val d)=>some (.val d)
  | _=>none
def mK(d:PyData):En->Option Sl:=fun _=>some (.val d)
theorem join_some{α:Type}{o:Option (Option α)}{a:α}(h:o.join=some a):o=some (some a):=by
  cases o with
  | none=>cases h
  | some b=>exact congrArg some h
theorem rp_var(i:Nat)(hs:R.slot i):RP K R (tVar i) (mPk i):=fun HB σ ρ H0 H s e r hr Q q=>by
  obtain ⟨v,h1,h2⟩:=RelOk.get (K:=K) e.r hs (join_some hr)
  exact ⟨v,h1,q v H0 H (Ext.refl s) h2.p⟩
theorem re_var(i:Nat)(hs:R.slot i):RE K R (tVar i) (mVar i):=fun HB σ ρ H0 H s e r hr Q q=>by
  unfold mVar at hr
  cases ej:(ρ[i]?).join with
  | none=>rw [ej] at hr;cases hr
  | some r' =>
    rw [ej] at hr
    cases r' with
    | own _=>cases hr
    | val d=>
      cases hr
      obtain ⟨v,h1,h2⟩:=RelOk.get (K:=K) e.r hs (join_some ej)
      exact ⟨v,h1,q v H0 H (Ext.refl s) h2⟩
theorem re_k{v:V}{d:PyData}(h:∀H0:Hp,Rep K H0 v d):RE K R (tC v) (mK d):=fun HB σ ρ H0 H s e r hr Q q=>by
  cases hr
  exact q v H0 H (Ext.refl s) (h H0)
def OpD(K:PySem.W.Frag)(r:R2)(op:Sl->Sl->Option Sl):Prop:=
  ∀(H0 H:Hp) (x y:V) (sx sy z:Sl),Same H0 H->SlP K H0 H x sx->SlP K H0 H y sy->op sx sy=some z->∀Q:VK,(∀v H0' H',Ext H0 H H0' H'->SlH K H H0' H' v z->Q v H')->r x y H Q
def UnD(K:PySem.W.Frag)(r:V->Hp->VK->Prop)(op:Sl->Option Sl):Prop:=
  ∀(H0 H:Hp) (x:V) (sx z:Sl),Same H0 H->SlP K H0 H x sx->op sx=some z->∀Q:VK,(∀v H0' H',Ext H0 H H0' H'->SlH K H H0' H' v z->Q v H')->r x H Q
def mBin(op:Sl->Sl->Option Sl)(fa fb:En->Option Sl):En->Option Sl:=fun ρ=>(fa ρ).bind fun a=>(fb ρ).bind fun b=>op a b
def mUn(op:Sl->Option Sl)(fa:En->Option Sl):En->Option Sl:=fun ρ=>(fa ρ).bind op
theorem re_bin{r:R2}{op:Sl->Sl->Option Sl}{ta tb:TE}{fa fb:En->Option Sl}(ho:OpD K r op)(ha:RP K R ta fa)(hb:RP K R tb fb):RE K R (tOp r ta tb) (mBin op fa fb):=fun HB σ ρ H0 H s e z hz Q q=>by
  obtain ⟨x,hx,hz⟩:=Option.bind_eq_some_iff.mp hz
  obtain ⟨y,hy,hz⟩:=Option.bind_eq_some_iff.mp hz
  refine ha HB σ ρ H0 H s e x hx _ fun v H1 J1 x1 p1=> ?_
  refine hb HB σ ρ H1 J1 x1.s1 (e.ext (K:=K) x1) y hy _ fun u H2 J2 x2 p2=> ?_
  exact ho H2 J2 v u x y z x2.s1 (p1.ext x2) p2 hz Q fun w H3 J3 x3 p3=>q w H3 J3 ((x1.trans x2).trans x3) (p3.base (x1.trans x2).s)
theorem re_un{r:V->Hp->VK->Prop}{op:Sl->Option Sl}{ta:TE}{fa:En->Option Sl}(ho:UnD K r op)(ha:RP K R ta fa):RE K R (tUn r ta) (mUn op fa):=fun HB σ ρ H0 H s e z hz Q q=>by
  obtain ⟨x,hx,hz⟩:=Option.bind_eq_some_iff.mp hz
  refine ha HB σ ρ H0 H s e x hx _ fun v H1 J1 x1 p1=> ?_
  exact ho H1 J1 v x z x1.s1 p1 hz Q fun w H3 J3 x3 p3=>q w H3 J3 (x1.trans x3) (p3.base x1.s)
def iop(g:Int->Int->Int):Sl->Sl->Option Sl
  | .val (.int i), .val (.int j)=>some (.val (.int (g i j)))
  | _,_=>none
open Classical in
noncomputable def iopC(C:Int->Int->Prop)(g:Int->Int->Int):Sl->Sl->Option Sl
  | .val (.int i), .val (.int j)=>if C i j then some (.val (.int (g i j))) else none
  | _,_=>none
def icmp(g:Int->Int->Bool):Sl->Sl->Option Sl
  | .val (.int i), .val (.int j)=>some (.val (.bool (g i j)))
  | _,_=>none
def iun(g:Int->Int):Sl->Option Sl
  | .val (.int i)=>some (.val (.int (g i)))
  | _=>none
theorem opd_iop{g:Int->Int->Int}:OpD K (rI0 fun i j=> .int (g i j)) (iop g):=fun H0 H x y sx sy z s px py hz Q q=>by
  unfold iop at hz
  split at hz
  . cases hz
    exact ⟨_,_,px.int,py.int,q _ _ _ (Ext.refl s) (.int _)⟩
  . cases hz
theorem opd_iopC{C:Int->Int->Prop}{g:Int->Int->Int}:OpD K (rI C fun i j=> .int (g i j)) (iopC C g):=fun H0 H x y sx sy z s px py hz Q q=>by
  unfold iopC at hz
  split at hz
  . split at hz
    . rename_i hc
      cases hz
      exact ⟨_,_,px.int,py.int,hc,q _ _ _ (Ext.refl s) (.int _)⟩
    . cases hz
  . cases hz
theorem opd_icmp{g:Int->Int->Bool}:OpD K (rI0 fun i j=> .bl (g i j)) (icmp g):=fun H0 H x y sx sy z s px py hz Q q=>by
  unfold icmp at hz
  split at hz
  . cases hz
    exact ⟨_,_,px.int,py.int,q _ _ _ (Ext.refl s) (.bool _)⟩
  . cases hz
theorem und_iun{g:Int->Int}:UnD K (rU fun i=> .int (g i)) (iun g):=fun H0 H x sx z s px hz Q q=>by
  unfold iun at hz
  split at hz
  . cases hz
    exact ⟨_,px.int,q _ _ _ (Ext.refl s) (.int _)⟩
  . cases hz
def eqD(a b:PyData):Option Bool:=if a.canLay0=true/\b.canLay0=true/\min a.depth b.depth<=60 then some (PyData.eqv a b) else none
def deq:Sl->Sl->Option Sl:=fun a b=>(eqD a.dat b.dat).map fun k=> .val (.bool k)
def dne:Sl->Sl->Option Sl:=fun a b=>(eqD a.dat b.dat).map fun k=> .val (.bool (!k))
theorem opd_eq:OpD K (rEqD K) deq:=fun H0 H x y sx sy z s px py hz Q q=>by
  obtain ⟨k,hk,rfl⟩:=Option.map_eq_some_iff.mp hz
  unfold eqD at hk
  split at hk
  . rename_i hc
    cases hk
    exact ⟨_,_,px.rep s,py.rep s,hc.1,hc.2.1,hc.2.2,q _ _ _ (Ext.refl s) (.bool _)⟩
  . cases hk
theorem opd_ne:OpD K (rNeD K) dne:=fun H0 H x y sx sy z s px py hz Q q=>by
  obtain ⟨k,hk,rfl⟩:=Option.map_eq_some_iff.mp hz
  unfold eqD at hk
  split at hk
  . rename_i hc
    cases hk
    exact ⟨_,_,px.rep s,py.rep s,hc.1,hc.2.1,hc.2.2,q _ _ _ (Ext.refl s) (.bool _)⟩
  . cases hk
def isNone:PyData->Bool
  | .none=>true
  | _=>false
def disN:Sl->Sl->Option Sl
  | a, .val .none=>some (.val (.bool (isNone a.dat)))
  | _,_=>none
def disNN:Sl->Sl->Option Sl
  | a, .val .none=>some (.val (.bool (!isNone a.dat)))
  | _,_=>none
theorem isNone_of{H0 H:Hp}{v:V}{r:Sl}(s:Same H0 H)(p:SlP K H0 H v r):decide (v = .non)=isNone r.dat:=by
  have h:=rep_non (p.rep s)
  cases e:r.dat <;> simp_all [isNone]
theorem opd_isN:OpD K (fun x y H Q=>y = .non/\Q (.bl (decide (x = .non))) H) disN:=fun H0 H x y sx sy z s px py hz Q q=>by
  unfold disN at hz
  split at hz
  . cases hz
    refine ⟨py.none,?_⟩
    rw [isNone_of s px]
    exact q _ _ _ (Ext.refl s) (.bool _)
  . cases hz
def dix:Sl->Sl->Option Sl
  | a, .val (.int i)=>match a.dat with
    | .list ds=>(atI ds i).map .val
    | .tuple ds=>(atI ds i).map .val
    | _=>none
  | _,_=>none
theorem Reps.atI{H:Hp}{vs:List V}{ds:List PyData}{i:Int}{d:PyData}(h:Reps K H vs ds)(e:atI ds i=some d):∃v,atI vs i=some v/\Rep K H v d:=by
  unfold L2.atI at e ⊢
  rw [h.length]
  cases ej:ixN ds.length i with
  | none=>rw [ej] at e;cases e
  | some j=>
    rw [ej] at e
    obtain ⟨v,h1,h2⟩:=Tf.Reps.get h (show ds[j]? = some d from e)
    exact ⟨v,h1,h2⟩
theorem opd_ix:OpD K (rIx K) dix:=fun H0 H x y sx sy z s px py hz Q q=>by
  unfold dix at hz
  split at hz
  . split at hz
    . rename_i i ds hd
      obtain ⟨d,he,rfl⟩:=Option.map_eq_some_iff.mp hz
      obtain ⟨a,vs,rfl,h1,h2⟩:=px.lst s hd
      obtain ⟨v,h3,h4⟩:=Reps.atI h2 he
      exact .inl ⟨a,vs,_,v,rfl,py.int,h1,h3,q _ _ _ (Ext.refl s) h4⟩
    . rename_i i ds hd
      obtain ⟨d,he,rfl⟩:=Option.map_eq_some_iff.mp hz
      obtain ⟨a,vs,rfl,h1,h2⟩:=px.tup hd
      obtain ⟨v,h3,h4⟩:=Reps.atI h2 he
      exact .inr (.inl ⟨a,vs,_,v,rfl,py.int,s.seqT h1,h3,q _ _ _ (Ext.refl s) h4⟩)
    . cases hz
  . cases hz
end
end Dm
namespace Dm
open PySem PySem.Spec PyProof.Rows L2 Tf
section
variable {K:PySem.W.Frag} {R:Rl} [RelOk K R]
def mNil:En->Option (List PyData):=fun _=>some []
def mCons(f:En->Option Sl)(g:En->Option (List PyData)):En->Option (List PyData):=fun ρ=>(f ρ).bind fun a=>(g ρ).bind fun as=>some (a.dat::as)
theorem ra_nil:RA K R tNil mNil:=fun HB σ ρ H0 H s e ds hd Q q=>by
  cases hd
  exact q [] H0 H (Ext.refl s) .nil
theorem ra_cons{te:TE}{ta:TA}{f:En->Option Sl}{g:En->Option (List PyData)}(hf:RE K R te f)(hg:RA K R ta g):RA K R (tCons te ta) (mCons f g):=fun HB σ ρ H0 H s e ds hd Q q=>by
  obtain ⟨a,ha,hd⟩:=Option.bind_eq_some_iff.mp hd
  obtain ⟨as,has,hd⟩:=Option.bind_eq_some_iff.mp hd
  cases hd
  refine hf.rv HB σ ρ H0 H s e a.dat (by unfold mDat;rw [ha];rfl) _ fun v H1 J1 x1 p1=> ?_
  exact hg HB σ ρ H1 J1 x1.s1 (e.ext (K:=K) x1) as has _ fun vs H2 J2 x2 p2=>q _ H2 J2 (x1.trans x2) (.cons (Rep.same x2.s0 p1) p2)
def mNilP:En->Option (List Sl):=fun _=>some []
def mConsP(f:En->Option Sl)(g:En->Option (List Sl)):En->Option (List Sl):=fun ρ=>(f ρ).bind fun a=>(g ρ).bind fun as=>some (a::as)
theorem rq_nil:RQ K R tNil mNilP:=fun HB σ ρ H0 H s e ds hd Q q=>by
  cases hd
  exact q [] H0 H (Ext.refl s) .nil
theorem rq_cons{te:TE}{ta:TA}{f:En->Option Sl}{g:En->Option (List Sl)}(hf:RP K R te f)(hg:RQ K R ta g):RQ K R (tCons te ta) (mConsP f g):=fun HB σ ρ H0 H s e ds hd Q q=>by
  obtain ⟨a,ha,hd⟩:=Option.bind_eq_some_iff.mp hd
  obtain ⟨as,has,hd⟩:=Option.bind_eq_some_iff.mp hd
  cases hd
  refine hf HB σ ρ H0 H s e a ha _ fun v H1 J1 x1 p1=> ?_
  exact hg HB σ ρ H1 J1 x1.s1 (e.ext (K:=K) x1) as has _ fun vs H2 J2 x2 p2=>q _ H2 J2 (x1.trans x2) (.cons (p1.ext x2) p2)
def mTup(f:En->Option (List PyData)):En->Option Sl:=fun ρ=>(f ρ).bind fun ds=>if ds.length<=sizeLine then some (.val (.tuple ds)) else none
def mLst(f:En->Option (List PyData)):En->Option Sl:=fun ρ=>(f ρ).bind fun ds=>if ds.length<=sizeLine then some (.own ds) else none
theorem re_tup{ta:TA}{f:En->Option (List PyData)}(h:RA K R ta f):RE K R (tTup ta) (mTup f):=fun HB σ ρ H0 H s e z hz Q q=>by
  obtain ⟨ds,hd,hz⟩:=Option.bind_eq_some_iff.mp hz
  split at hz
  . rename_i hl
    cases hz
    refine h HB σ ρ H0 H s e ds hd _ fun vs H1 J1 x1 p1=>⟨by rw [p1.length];exact hl,fun p hp=> ?_⟩
    exact q _ _ _ (x1.trans (Ext.allocF x1.s1 hp _)) (.tuple (SqT.of upd_same) (Reps.same (Same.upd (x1.s1.free hp) _) p1))
  . cases hz
theorem re_lst{ta:TA}{f:En->Option (List PyData)}(h:RA K R ta f):RE K R (tLst ta) (mLst f):=fun HB σ ρ H0 H s e z hz Q q=>by
  obtain ⟨ds,hd,hz⟩:=Option.bind_eq_some_iff.mp hz
  split at hz
  . rename_i hl
    cases hz
    refine h HB σ ρ H0 H s e ds hd _ fun vs H1 J1 x1 p1=>⟨by rw [p1.length];exact hl,fun p hp=> ?_⟩
    exact q _ _ _ (x1.trans (Ext.alloc x1.s1 hp _)) ⟨p,vs,rfl,x1.s.free hp,x1.s1.free hp,upd_same,p1⟩
  . cases hz
def spD(K:PySem.W.Frag)(F:List PyData->Option Sl):Sp:=fun vs H Q _=>∃H0 ds r,Same H0 H/\Reps K H0 vs ds/\F ds=some r/\∀v H0' H',Ext H0 H H0' H'->SlH K H H0' H' v r->Q v H'
def mCall(F:List PyData->Option Sl)(f:En->Option (List PyData)):En->Option Sl:=fun ρ=>(f ρ).bind F
theorem re_call{F:List PyData->Option Sl}{E:XK}{ta:TA}{f:En->Option (List PyData)}(h:RA K R ta f):RE K R (tCall (spD K F) [] E ta) (mCall F f):=fun HB σ ρ H0 H s e z hz Q q=>by
  obtain ⟨ds,hd,hz⟩:=Option.bind_eq_some_iff.mp hz
  refine h HB σ ρ H0 H s e ds hd _ fun vs H1 J1 x1 p1=> ?_
  rw [List.append_nil]
  exact ⟨H1,ds,z,x1.s1,p1,hz,fun v H2 J2 x2 p2=>q v H2 J2 (x1.trans x2) (p2.base x1.s)⟩
def CallD(K:PySem.W.Frag)(r:List V->Hp->VK->Prop)(F:List Sl->Option Sl):Prop:=
  ∀(H0 H:Hp) (vs:List V) (ss:List Sl) (z:Sl),Same H0 H->Paired (SlP K H0 H) vs ss->F ss=some z->∀Q:VK,(∀v H0' H',Ext H0 H H0' H'->SlH K H H0' H' v z->Q v H')->r vs H Q
def mCallP(F:List Sl->Option Sl)(f:En->Option (List Sl)):En->Option Sl:=fun ρ=>(f ρ).bind F
theorem re_callB{r:List V->Hp->VK->Prop}{F:List Sl->Option Sl}{ta:TA}{f:En->Option (List Sl)}(hc:CallD K r F)(h:RQ K R ta f):RE K R (tCB r ta) (mCallP F f):=fun HB σ ρ H0 H s e z hz Q q=>by
  obtain ⟨ss,hd,hz⟩:=Option.bind_eq_some_iff.mp hz
  refine h HB σ ρ H0 H s e ss hd _ fun vs H1 J1 x1 p1=> ?_
  exact hc H1 J1 vs ss z x1.s1 p1 hz Q fun v H2 J2 x2 p2=>q v H2 J2 (x1.trans x2) (p2.base x1.s)
theorem paired1{H0 H:Hp}{vs:List V}{a:Sl}(h:Paired (SlP K H0 H) vs [a]):∃v,vs = [v]/\SlP K H0 H v a:=by
  cases h with | cons h t=>cases t;exact ⟨_,rfl,h⟩
theorem paired2{H0 H:Hp}{vs:List V}{a b:Sl}(h:Paired (SlP K H0 H) vs [a,b]):∃v w,vs = [v,w]/\SlP K H0 H v a/\SlP K H0 H w b:=by
  cases h with | cons h t=>cases t with | cons h2 t=>cases t;exact ⟨_,_,rfl,h,h2⟩
def dLen:List Sl->Option Sl
  | [a]=>match a.dat with
    | .list ds=>some (.val (.int ds.length))
    | .tuple ds=>some (.val (.int ds.length))
    | _=>none
  | _=>none
theorem cd_len:CallD K (fun xs H Q=>∃p ys,xs = [.ref p]/\(SqL K H p ys\/SqT K H p ys)/\Q (.int ys.length) H) dLen:=fun H0 H vs ss z s p hz Q q=>by
  unfold dLen at hz
  split at hz
  . obtain ⟨v,rfl,pa⟩:=paired1 p
    split at hz
    . rename_i ds hd
      cases hz
      obtain ⟨a,vs,rfl,h1,h2⟩:=pa.lst s hd
      refine ⟨a,vs,rfl, .inl h1,?_⟩
      rw [h2.length]
      exact q _ _ _ (Ext.refl s) (.int _)
    . rename_i ds hd
      cases hz
      obtain ⟨a,vs,rfl,h1,h2⟩:=pa.tup hd
      refine ⟨a,vs,rfl, .inr (s.seqT h1),?_⟩
      rw [h2.length]
      exact q _ _ _ (Ext.refl s) (.int _)
    . cases hz
  . cases hz
def dAbs:List Sl->Option Sl
  | [.val (.int i)]=>some (.val (.int (if i<0 then -i else i)))
  | _=>none
theorem cd_abs:CallD K (fun xs H Q=>∃i,xs = [.int i]/\Q (.int (if i<0 then -i else i)) H) dAbs:=fun H0 H vs ss z s p hz Q q=>by
  unfold dAbs at hz
  split at hz
  . obtain ⟨v,rfl,pa⟩:=paired1 p
    cases hz
    exact ⟨_,by rw [pa.int],q _ _ _ (Ext.refl s) (.int _)⟩
  . cases hz
def dList:List Sl->Option Sl
  | [a]=>match a.dat with
    | .list ds=>some (.own ds)
    | .tuple ds=>some (.own ds)
    | _=>none
  | _=>none
theorem cd_list:CallD K (fun xs H Q=>∃p ys,xs = [.ref p]/\(SqL K H p ys\/SqT K H p ys)/\∀l,H l=none->Q (.ref l) (upd H l (.lst ys))) dList:=fun H0 H vs ss z s p hz Q q=>by
  unfold dList at hz
  split at hz
  . obtain ⟨v,rfl,pa⟩:=paired1 p
    split at hz
    . rename_i ds hd
      cases hz
      obtain ⟨a,vs,rfl,h1,h2⟩:=pa.lst s hd
      exact ⟨a,vs,rfl, .inl h1,fun l hl=>q _ _ _ (Ext.alloc s hl _) ⟨l,vs,rfl,hl,s.free hl,upd_same,h2⟩⟩
    . rename_i ds hd
      cases hz
      obtain ⟨a,vs,rfl,h1,h2⟩:=pa.tup hd
      exact ⟨a,vs,rfl, .inr (s.seqT h1),fun l hl=>q _ _ _ (Ext.alloc s hl _) ⟨l,vs,rfl,hl,s.free hl,upd_same,h2⟩⟩
    . cases hz
  . cases hz
def dTuple:List Sl->Option Sl
  | [a]=>match a.dat with
    | .list ds=>some (.val (.tuple ds))
    | .tuple ds=>some (.val (.tuple ds))
    | _=>none
  | _=>none
def intsOf:List PyData->Option (List Int)
  | []=>some []
  | .int i::r=>(intsOf r).map (i :: ·)
  | _::_=>none
theorem intsOf_eq:∀ {ds:List PyData} {ns:List Int},intsOf ds=some ns->ds=ns.map .int
  | [],ns,h=>by cases h;rfl
  | .int i::r,ns,h=>by
    obtain ⟨ms,h1,rfl⟩:=Option.map_eq_some_iff.mp (show (intsOf r).map (i :: ·)=some ns from h)
    rw [intsOf_eq h1];rfl
theorem intsOf_map:∀ns:List Int,intsOf (ns.map .int)=some ns
  | []=>rfl
  | i::r=>by show (intsOf (r.map .int)).map (i :: ·)=_;rw [intsOf_map r];rfl
theorem reps_ints{H:Hp}:∀ {vs:List V} {ns:List Int},Reps K H vs (ns.map .int)->vs=ns.map .int
  | _,[],h=>by cases h;rfl
  | _,n::r,h=>by
    cases h with
    | cons h t=>cases h;rw [reps_ints t];rfl
def dSum:List Sl->Option Sl
  | [a]=>match a.dat with
    | .list ds=>(intsOf ds).map fun ns=> .val (.int (List.sum ns))
    | _=>none
  | _=>none
theorem cd_sum:CallD K (fun xs H Q=>∃p ns,xs = [.ref p]/\SqL K H p (ns.map V.int)/\Q (.int (List.sum ns)) H) dSum:=fun H0 H vs ss z s p hz Q q=>by
  unfold dSum at hz
  split at hz
  . obtain ⟨v,rfl,pa⟩:=paired1 p
    split at hz
    . rename_i ds hd
      obtain ⟨ns,hn,rfl⟩:=Option.map_eq_some_iff.mp hz
      obtain ⟨a,vs,rfl,h1,h2⟩:=pa.lst s hd
      rw [intsOf_eq hn] at h2
      rw [reps_ints h2] at h1
      exact ⟨a,ns,rfl,h1,q _ _ _ (Ext.refl s) (.int _)⟩
    . cases hz
  . cases hz
def dInt:List Sl->Option Sl
  | [.val (.int i)]=>some (.val (.int i))
  | [.val (.bool k)]=>some (.val (.int (if k then 1 else 0)))
  | _=>none
theorem cd_int:CallD K (fun xs H Q=>(∃i,xs = [.int i]/\Q (.int i) H)\/∃k,xs = [.bl k]/\Q (.int (if k then 1 else 0)) H) dInt:=fun H0 H vs ss z s p hz Q q=>by
  unfold dInt at hz
  split at hz
  . obtain ⟨v,rfl,pa⟩:=paired1 p
    cases hz
    exact .inl ⟨_,by rw [pa.int],q _ _ _ (Ext.refl s) (.int _)⟩
  . obtain ⟨v,rfl,pa⟩:=paired1 p
    cases hz
    exact .inr ⟨_,by rw [pa.bool],q _ _ _ (Ext.refl s) (.int _)⟩
  . cases hz
def dMax:List Sl->Option Sl
  | [.val (.int i), .val (.int j)]=>some (.val (.int (if j>i then j else i)))
  | _=>none
theorem cd_max:CallD K (fun xs H Q=>∃i j,xs = [.int i, .int j]/\Q (.int (if j>i then j else i)) H) dMax:=fun H0 H vs ss z s p hz Q q=>by
  unfold dMax at hz
  split at hz
  . obtain ⟨v,w,rfl,pa,pb⟩:=paired2 p
    cases hz
    exact ⟨_,_,by rw [pa.int,pb.int],q _ _ _ (Ext.refl s) (.int _)⟩
  . cases hz
def tyD:PyData->Option String
  | .none=>some "NoneType"
  | .bool _=>some "bool"
  | .int _=>some "int"
  | .str _=>some "str"
  | .list _=>some "list"
  | .tuple _=>some "tuple"
  | _=>none
def isiD(n:String)(t:String):Option Bool:=
  if n = "int" then some (t == "int" || t == "bool") else if n = "bool" \/ n = "str" \/ n = "list" \/ n = "tuple" then some (t==n) else none
def mIsi(n:String)(f:En->Option Sl):En->Option Sl:=fun ρ=>(f ρ).bind fun a=>(tyD a.dat).bind fun t=>(isiD n t).map fun b=> .val (.bool b)
def mTest(f:En->Option Sl):En->Option Bool:=fun ρ=>(f ρ).bind fun a=>match a with
  | .val (.bool b)=>some b
  | _=>none
theorem mTest_some{f:En->Option Sl}{ρ:En}{b:Bool}(h:mTest f ρ=some b):f ρ=some (.val (.bool b)):=by
  obtain ⟨a,ha,h⟩:=Option.bind_eq_some_iff.mp h
  rw [ha]
  split at h
  . cases h;rfl
  . cases h
theorem rt_test{te:TE}{f:En->Option Sl}(h:RP K R te f):RT K R (tTest te) (mTest f):=fun HB σ ρ H0 H s e b hb Q q=>
  h HB σ ρ H0 H s e _ (mTest_some hb) _ fun v H1 J1 x1 p1=>⟨b,p1.bool,q _ _ x1⟩
theorem rt_b{te:TE}{f:En->Option Sl}(h:RP K R te f):RT K R (tB te) (mTest f):=fun HB σ ρ H0 H s e b hb Q q=>
  h HB σ ρ H0 H s e _ (mTest_some hb) _ fun v H1 J1 x1 p1=>⟨b,p1.bool,q _ _ x1⟩
def mAnd(f g:En->Option Bool):En->Option Bool:=fun ρ=>(f ρ).bind fun b=>if b then g ρ else some false
def mOr(f g:En->Option Bool):En->Option Bool:=fun ρ=>(f ρ).bind fun b=>if b then some true else g ρ
def mNot(f:En->Option Bool):En->Option Bool:=fun ρ=>(f ρ).map (!·)
theorem rt_or{t u:TT}{f g:En->Option Bool}(h:RT K R t f)(k:RT K R u g):RT K R (tOr t u) (mOr f g):=fun HB σ ρ H0 H s e b hb Q q=>by
  obtain ⟨c,hc,hb⟩:=Option.bind_eq_some_iff.mp hb
  refine h HB σ ρ H0 H s e c hc _ fun H1 J1 x1=> ?_
  cases c with
  | false=>exact iteF (k HB σ ρ H1 J1 x1.s1 (e.ext (K:=K) x1) b hb Q fun H2 J2 x2=>q _ _ (x1.trans x2))
  | true=>cases hb;exact iteT (q _ _ x1)
theorem rt_not{t:TT}{f:En->Option Bool}(h:RT K R t f):RT K R (tNot t) (mNot f):=fun HB σ ρ H0 H s e b hb Q q=>by
  obtain ⟨c,hc,rfl⟩:=Option.map_eq_some_iff.mp hb
  exact h HB σ ρ H0 H s e c hc _ fun H1 J1 x1=>q _ _ x1
def mAndV(f g:En->Option Sl):En->Option Sl:=fun ρ=>(mTest f ρ).bind fun b=>if b then g ρ else some (.val (.bool false))
def mOrV(f g:En->Option Sl):En->Option Sl:=fun ρ=>(mTest f ρ).bind fun b=>if b then some (.val (.bool true)) else g ρ
def mNotV(f:En->Option Sl):En->Option Sl:=fun ρ=>(mTest f ρ).map fun b=> .val (.bool (!b))
def mIfE(c:En->Option Bool)(f g:En->Option Sl):En->Option Sl:=fun ρ=>(c ρ).bind fun b=>if b then f ρ else g ρ
def RO(K:PySem.W.Frag)(R:Rl)(to:TO)(f:En->Option (Option Int)):Prop:=
  ∀(HB:Hp) (σ:L2.St) (ρ:En) (H0 H:Hp),Same H0 H->ST R HB H0 H σ ρ->∀o,f ρ=some o->∀Q:Option Int->Hp->Prop,(∀H0' H',Ext H0 H H0' H'->Q o H')->to σ H Q
def mNoPart:En->Option (Option Int):=fun _=>some none
def mPart(f:En->Option Sl):En->Option (Option Int):=fun ρ=>(f ρ).bind fun a=>match a with
  | .val (.int i)=>some (some i)
  | _=>none
theorem ro_none:RO K R tNoPart mNoPart:=fun HB σ ρ H0 H s e o ho Q q=>by cases ho;exact q _ _ (Ext.refl s)
theorem ro_some{te:TE}{f:En->Option Sl}(h:RP K R te f):RO K R (tPart te) (mPart f):=fun HB σ ρ H0 H s e o ho Q q=>by
  obtain ⟨a,ha,ho⟩:=Option.bind_eq_some_iff.mp ho
  split at ho
  . cases ho
    exact h HB σ ρ H0 H s e _ ha _ fun v H1 J1 x1 p1=>⟨_,p1.int,q _ _ x1⟩
  . cases ho
def cutD{α:Type}(xs:List α)(lo hi:Option Int):List α:=(xs.drop (HT.sIx xs.length 0 lo)).take (HT.sIx xs.length xs.length hi - HT.sIx xs.length 0 lo)
theorem Reps.drop{H:Hp}:∀ {vs:List V} {ds:List PyData} (n:Nat),Reps K H vs ds->Reps K H (vs.drop n) (ds.drop n)
  | _,_,0,h=>h
  | _,_,_+1, .nil=> .nil
  | _,_,n+1, .cons _ t=>Reps.drop n t
theorem Reps.take{H:Hp}:∀ {vs:List V} {ds:List PyData} (n:Nat),Reps K H vs ds->Reps K H (vs.take n) (ds.take n)
  | _,_,0,_=> .nil
  | _,_,_+1, .nil=> .nil
  | _,_,n+1, .cons h t=> .cons h (Reps.take n t)
theorem Reps.cut{H:Hp}{vs:List V}{ds:List PyData}(h:Reps K H vs ds)(lo hi:Option Int):Reps K H (cutV vs lo hi) (cutD ds lo hi):=by
  unfold cutV cutD
  rw [h.length]
  exact Reps.take _ (Reps.drop _ h)
def dSl(a:Sl)(lo hi:Option Int):Option Sl:=match a.dat with
  | .list ds=>some (.own (cutD ds lo hi))
  | .tuple ds=>if HT.sIx ds.length 0 lo=0/\HT.sIx ds.length ds.length hi=ds.length then none else some (.val (.tuple (cutD ds lo hi)))
  | _=>none
def mSl(f:En->Option Sl)(l h:En->Option (Option Int)):En->Option Sl:=fun ρ=>(f ρ).bind fun a=>(l ρ).bind fun lo=>(h ρ).bind fun hi=>dSl a lo hi
theorem re_sl{te:TE}{tl th:TO}{f:En->Option Sl}{fl fh:En->Option (Option Int)}(h:RP K R te f)(hl:RO K R tl fl)(hh:RO K R th fh):RE K R (tSl (fun x lo hi H Q=>rSlL K x lo hi H Q\/rSlT K x lo hi H Q) te tl th) (mSl f fl fh):=fun HB σ ρ H0 H s e z hz Q q=>by
  obtain ⟨a,ha,hz⟩:=Option.bind_eq_some_iff.mp hz
  obtain ⟨lo,hlo,hz⟩:=Option.bind_eq_some_iff.mp hz
  obtain ⟨hi,hhi,hz⟩:=Option.bind_eq_some_iff.mp hz
  refine h HB σ ρ H0 H s e a ha _ fun v H1 J1 x1 p1=> ?_
  refine hl HB σ ρ H1 J1 x1.s1 (e.ext (K:=K) x1) lo hlo _ fun H2 J2 x2=> ?_
  refine hh HB σ ρ H2 J2 x2.s1 ((e.ext (K:=K) x1).ext (K:=K) x2) hi hhi _ fun H3 J3 x3=> ?_
  have x:=(x1.trans x2).trans x3
  have p:=p1.ext (x2.trans x3)
  unfold dSl at hz
  split at hz
  . rename_i ds hd
    cases hz
    obtain ⟨b,vs,rfl,h1,h2⟩:=p.lst x.s1 hd
    exact .inl ⟨b,vs,rfl,h1,fun l hl=>q _ _ _ (x.trans (Ext.alloc x.s1 hl _)) ⟨l,_,rfl,x.s.free hl,x.s1.free hl,upd_same,Reps.cut h2 lo hi⟩⟩
  . rename_i ds hd
    split at hz
    . cases hz
    . rename_i hw
      cases hz
      obtain ⟨b,vs,rfl,h1,h2⟩:=p.tup hd
      refine .inr ⟨b,vs,rfl,x.s1.seqT h1,by rw [h2.length];exact hw,fun l hl=>q _ _ _ (x.trans (Ext.allocF x.s1 hl _)) (.tuple (SqT.of upd_same) (Reps.same (Same.upd (x.s1.free hl) _) (Reps.cut h2 lo hi)))⟩
  . cases hz
end
end Dm
namespace Dm
open PySem PySem.Spec PyProof.Rows L2 Tf
inductive Out where
  | nx (ρ:En) | rt (r:Sl) (ρ:En) | bk (ρ:En) | ct (ρ:En)
section
variable {K:PySem.W.Frag} {R:Rl} [RelOk K R]
def EndR(K:PySem.W.Frag)(R:Rl)(HB S0:Hp)(D:Ends):Out->Prop
  | .nx ρ=>∀σ H0 H,Ext S0 HB H0 H->ST R HB H0 H σ ρ->D.nx σ H
  | .bk ρ=>∀σ H0 H,Ext S0 HB H0 H->ST R HB H0 H σ ρ->D.bk σ H
  | .ct ρ=>∀σ H0 H,Ext S0 HB H0 H->ST R HB H0 H σ ρ->D.ct σ H
  | .rt r ρ=>∀v σ H0 H,Ext S0 HB H0 H->ST R HB H0 H σ ρ->SlH K HB H0 H v r->D.rt v H
def RS(K:PySem.W.Frag)(R:Rl)(ts:TS)(g:En->Option Out):Prop:=
  ∀(HB S0:Hp) (σ:L2.St) (ρ:En) (H0 H:Hp),Ext S0 HB H0 H->ST R HB H0 H σ ρ->∀o,g ρ=some o->∀D:Ends,EndR K R HB S0 D o->ts D σ H
def mNext:En->Option Out:=fun ρ=>some (.nx ρ)
def mBrk:En->Option Out:=fun ρ=>some (.bk ρ)
def mCt:En->Option Out:=fun ρ=>some (.ct ρ)
def mRetN:En->Option Out:=fun ρ=>some (.rt (.val .none) ρ)
theorem rs_next:RS K R tNext mNext:=fun HB S0 σ ρ H0 H x e o ho D d=>by cases ho;exact d σ H0 H x e
theorem rs_retN:RS K R tRetN mRetN:=fun HB S0 σ ρ H0 H x e o ho D d=>by cases ho;exact d .non σ H0 H x e .none
def mSeq(f g:En->Option Out):En->Option Out:=fun ρ=>(f ρ).bind fun o=>match o with
  | .nx ρ'=>g ρ'
  | o=>some o
theorem rs_seq{t u:TS}{f g:En->Option Out}(h:RS K R t f)(k:RS K R u g):RS K R (tSeq t u) (mSeq f g):=fun HB S0 σ ρ H0 H x e o ho D d=>by
  obtain ⟨o1,h1,ho⟩:=Option.bind_eq_some_iff.mp ho
  refine h HB S0 σ ρ H0 H x e o1 h1 { D with nx:=u D} ?_
  cases o1 with
  | nx ρ'=>exact fun σ' H0' H' x' e'=>k HB S0 σ' ρ' H0' H' x' e' o ho D d
  | rt r _=>cases ho;exact d
  | bk r=>cases ho;exact d
  | ct r=>cases ho;exact d
theorem ER.set{HB H0 H H0' H':Hp}{σ:L2.St}{ρ:En}{i:Nat}{v:V}{r:Sl}(e:ER K HB H0 H σ ρ)(x:Ext H0 H H0' H')(sb:Same HB H)(h:SlH K H H0' H' v r):ER K HB H0' H' (σ.set i (some v)) (ρ.set i (some r)):=by
  have e':=e.ext x
  refine ⟨by rw [List.length_set,List.length_set];exact e.len,fun j s hs=> ?_,fun j k a ds es hjk hj hk h1 h2=> ?_⟩
  . by_cases hj:i=j
    . subst hj
      rw [List.getElem?_set_self'] at hs ⊢
      cases hq:ρ[i]? with
      | none=>rw [hq] at hs;cases hs
      | some q=>
        rw [hq] at hs
        have hi:i<σ.length:=by rw [e.len];exact (List.getElem?_eq_some_iff.mp hq).1
        rw [List.getElem?_eq_getElem hi]
        cases hs
        exact ⟨v,rfl,h.base sb⟩
    . rw [List.getElem?_set_ne hj] at hs ⊢
      exact e'.get j s hs
  . have key : ∀ (j' k' : Nat) (b : Addr) ds' es', i = j' -> i ≠ k' -> (ρ.set i (some r))[j']? = some (some (.own ds')) -> ρ[k']? = some (some (.own es')) -> (σ.set i (some v))[j']? = some (some (.ref b)) -> σ[k']? ≠ some (some (.ref b)) := by
      clear hj hk h1 h2 hjk
      intro j' k' b ds' es' hij hik hj hk h1 h2
      subst hij
      rw [List.getElem?_set_self'] at hj h1
      cases hq:ρ[i]? with
      | none=>rw [hq] at hj;cases hj
      | some q=>
        rw [hq] at hj
        cases hj
        have hi:i<σ.length:=by rw [e.len];exact (List.getElem?_eq_some_iff.mp hq).1
        rw [List.getElem?_eq_getElem hi] at h1
        cases h1
        obtain ⟨a',vs,ea,hn,_⟩:=h
        cases ea
        obtain ⟨w,hw,hb⟩:=e.get k' _ hk
        rw [h2] at hw
        cases hw
        obtain ⟨b',ws,eb,_,_,hs,_⟩:=hb
        cases eb
        rw [hn] at hs
        cases hs
    by_cases hij:i=j
    . have hik:i≠k:=fun z=>hjk (hij.symm.trans z)
      rw [List.getElem?_set_ne hik] at hk h2
      exact key j k a ds es hij hik hj hk h1 h2
    . rw [List.getElem?_set_ne hij] at hj h1
      by_cases hik:i=k
      . exact key k j a es ds hik hij hk hj h2 h1
      . rw [List.getElem?_set_ne hik] at hk h2
        exact e.apart j k a ds es hjk hj hk h1 h2
def mAsg(i:Nat)(f:En->Option Sl):En->Option Out:=fun ρ=>(f ρ).map fun r=> .nx (ρ.set i (some r))
theorem rs_asg{te:TE}{f:En->Option Sl}{i:Nat}(hsl:R.slot i)(h:RE K R te f):RS K R (tAsg te (gName i)) (mAsg i f):=fun HB S0 σ ρ H0 H x e o ho D d=>by
  obtain ⟨r,hr,rfl⟩:=Option.map_eq_some_iff.mp ho
  exact h HB σ ρ H0 H x.s1 e r hr _ fun v H1 J1 x1 p1=>d _ H1 J1 (x.chain x1) ⟨RelOk.set e.r hsl x1 x.s p1⟩
theorem rs_asgC{te:TE}{f:En->Option Sl}{i:Nat}(hsl:R.slot i)(h:RE K R te f):RS K R (tSetC i te) (mAsg i f):=fun HB S0 σ ρ H0 H x e o ho D d=>by
  obtain ⟨r,hr,rfl⟩:=Option.map_eq_some_iff.mp ho
  exact h HB σ ρ H0 H x.s1 e r hr _ fun v H1 J1 x1 p1=>d _ H1 J1 (x.chain x1) ⟨RelOk.set e.r hsl x1 x.s p1⟩
def mRet(f:En->Option Sl):En->Option Out:=fun ρ=>(f ρ).map fun r=> .rt r ρ
theorem rs_ret{te:TE}{f:En->Option Sl}(h:RE K R te f):RS K R (tRet te) (mRet f):=fun HB S0 σ ρ H0 H x e o ho D d=>by
  obtain ⟨r,hr,rfl⟩:=Option.map_eq_some_iff.mp ho
  exact h HB σ ρ H0 H x.s1 e r hr _ fun v H1 J1 x1 p1=>d v σ H1 J1 (x.chain x1) (e.ext (K:=K) x1) (p1.base x.s)
theorem rs_retV(i:Nat)(hsl:R.slot i):RS K R (tRet (tVar i)) (mRet (mPk i)):=fun HB S0 σ ρ H0 H x e o ho D d=>by
  obtain ⟨r,hr,rfl⟩:=Option.map_eq_some_iff.mp ho
  obtain ⟨v,h1,h2⟩:=RelOk.get (K:=K) e.r hsl (join_some hr)
  exact ⟨v,h1,d v σ H0 H x e h2⟩
def mIf(c:En->Option Bool)(f g:En->Option Out):En->Option Out:=fun ρ=>(c ρ).bind fun b=>if b then f ρ else g ρ
theorem rs_if{c:TT}{t u:TS}{fc:En->Option Bool}{f g:En->Option Out}(hc:RT K R c fc)(h:RS K R t f)(k:RS K R u g):RS K R (tIfS c t u) (mIf fc f g):=fun HB S0 σ ρ H0 H x e o ho D d=>by
  obtain ⟨b,hb,ho⟩:=Option.bind_eq_some_iff.mp ho
  refine hc HB σ ρ H0 H x.s1 e b hb _ fun H1 J1 x1=> ?_
  cases b with
  | true=>exact iteT (h HB S0 σ ρ H1 J1 (x.chain x1) (e.ext (K:=K) x1) o ho D d)
  | false=>exact iteF (k HB S0 σ ρ H1 J1 (x.chain x1) (e.ext (K:=K) x1) o ho D d)
def mDrop(f:En->Option Sl):En->Option Out:=fun ρ=>(f ρ).map fun _=> .nx ρ
theorem Ext.write{S0 HB H0 H:Hp}{a:Addr}(x:Ext S0 HB H0 H)(hb:HB a=none)(h0:H0 a=none)(o:HO):Ext S0 HB H0 (upd H a o) :=
  ⟨fun b u e=>by rw [upd_ne (ne_of_none e hb)];exact x.s b u e,x.s0,fun b u e=>by rw [upd_ne (ne_of_none e h0)];exact x.s1 b u e,x.own⟩
theorem ER.write {HB H0 H : Hp} {σ : L2.St} {ρ : En} {i : Nat} {a : Addr} {ds es : List PyData} {ys : List V} (e : ER K HB H0 H σ ρ) (hi : ρ[i]? = some (some (.own ds))) (hs : σ[i]? = some (some (.ref a))) (hb : HB a = none) (h0 : H0 a = none) (hr : Reps K H0 ys es) :
    ER K HB H0 (upd H a (.lst ys)) σ (ρ.set i (some (.own es))):=by
  have own:∀(j:Nat),∀ts,(ρ.set i (some (.own es)))[j]? = some (some (.own ts))->∃ts',ρ[j]? = some (some (.own ts')):=by
    intro j ts h
    by_cases hj:i=j
    . subst hj;exact ⟨_,hi⟩
    . rw [List.getElem?_set_ne hj] at h;exact ⟨_,h⟩
  refine ⟨by rw [List.length_set];exact e.len,fun j s hq=> ?_,fun j k b ts us hjk hj hk h1 h2=> ?_⟩
  . by_cases hj:i=j
    . subst hj
      rw [List.getElem?_set_self',hi] at hq
      cases hq
      exact ⟨.ref a,hs,a,ys,rfl,hb,h0,upd_same,hr⟩
    . rw [List.getElem?_set_ne hj] at hq
      obtain ⟨v,h1,h2⟩:=e.get j s hq
      refine ⟨v,h1,?_⟩
      cases s with
      | val d=>exact h2
      | own ts=>
        obtain ⟨b,vs,rfl,g1,g2,g3,g4⟩:=h2
        refine ⟨b,vs,rfl,g1,g2,?_,g4⟩
        rw [upd_ne]
        . exact g3
        . rintro rfl
          exact e.apart i j b ds ts hj hi hq hs h1
  . obtain ⟨ts',hj⟩:=own j ts hj
    obtain ⟨us',hk⟩:=own k us hk
    exact e.apart j k b ts' us' hjk hj hk h1 h2
def mApp(i:Nat)(f:En->Option Sl):En->Option Out:=fun ρ=>match (ρ[i]?).join with
  | some (.own ds)=>(f ρ).bind fun r=>if ds.length<sizeLine then some (.nx (ρ.set i (some (.own (ds ++ [r.dat]))))) else none
  | _=>none
theorem own_of {HB H0 H : Hp} {σ : L2.St} {ρ : En} {i : Nat} {ds : List PyData} (e : ST R HB H0 H σ ρ) (hsl : R.slot i) (h : (ρ[i]?).join = some (.own ds)) :
    ∃a vs,ρ[i]? = some (some (.own ds))/\σ[i]? = some (some (.ref a))/\HB a=none/\H0 a=none/\H a=some (.lst vs)/\Reps K H0 vs ds:=by
  obtain ⟨v,h1,a,vs,rfl,g1,g2,g3,g4⟩:=RelOk.get (K:=K) e.r hsl (join_some h)
  exact ⟨a,vs,join_some h,h1,g1,g2,g3,g4⟩
def mSet(i:Nat)(fj f:En->Option Sl):En->Option Out:=fun ρ=>(f ρ).bind fun r=>match (ρ[i]?).join with
  | some (.own ds)=>(fj ρ).bind fun k=>match k with
    | .val (.int k)=>(ixN ds.length k).map fun j=> .nx (ρ.set i (some (.own (ds.set j r.dat))))
    | _=>none
  | _=>none
theorem Reps.set{H:Hp}{v:V}{d:PyData}(r:Rep K H v d):∀ {vs:List V} {ds:List PyData} (i:Nat),Reps K H vs ds->Reps K H (vs.set i v) (ds.set i d)
  | _,_,_, .nil=> .nil
  | _,_,0, .cons _ t=> .cons r t
  | _,_,i+1, .cons q t=> .cons q (Reps.set r i t)
theorem rs_set{te tj:TE}{f fj:En->Option Sl}{i:Nat}(hsl:R.slot i)(h:RE K R te f)(hj:RP K R tj fj):RS K R (tAsg te (gSub (tVar i) tj rSetL)) (mSet i fj f):=fun HB S0 σ ρ H0 H x e o ho D d=>by
  obtain ⟨r,hr,ho⟩:=Option.bind_eq_some_iff.mp ho
  split at ho
  . rename_i ds hown
    obtain ⟨k,hk,ho⟩:=Option.bind_eq_some_iff.mp ho
    split at ho
    . rename_i k
      obtain ⟨j,hix,rfl⟩:=Option.map_eq_some_iff.mp ho
      refine h.rv HB σ ρ H0 H x.s1 e r.dat (by unfold mDat;rw [hr];rfl) _ fun v H1 J1 x1 p1=> ?_
      obtain ⟨a,vs,hi,hs,g1,g2,g3,g4⟩:=own_of (K:=K) (e.ext (K:=K) x1) hsl hown
      refine ⟨.ref a,hs,?_⟩
      refine hj HB σ ρ H1 J1 x1.s1 (e.ext (K:=K) x1) _ hk _ fun w H2 J2 x2 p2=> ?_
      have l0:=x2.own a _ g3 g2
      refine ⟨a,vs,k,j,rfl,p2.int,x2.s _ _ g3,by rw [g4.length];exact hix,?_⟩
      exact d σ H2 _ (((x.chain x1).chain x2).write g1 l0 _) ⟨RelOk.write (K:=K) ((e.ext (K:=K) x1).ext (K:=K) x2).r hsl hi hs g1 l0 (x2.s _ _ g3) (Reps.set (Rep.same x2.s0 p1) j (Reps.same x2.s0 g4))⟩
    . cases ho
  . cases ho
def frz1(i:Nat)(ρ:En):En:=match (ρ[i]?).join with
  | some (.own ds)=>ρ.set i (some (.val (.list ds)))
  | _=>ρ
def mFrz(i:Nat)(g:En->Option Out):En->Option Out:=fun ρ=>g (frz1 i ρ)
theorem ER.frz{S0 HB H0 H:Hp}{σ:L2.St}{ρ:En}{i:Nat}{ds:List PyData}(e:ER K HB H0 H σ ρ)(hi:ρ[i]? = some (some (.own ds)))(x:Ext S0 HB H0 H):∃a vs,H a=some (.lst vs)/\Ext S0 HB (upd H0 a (.lst vs)) H/\ER K HB (upd H0 a (.lst vs)) H σ (ρ.set i (some (.val (.list ds)))):=by
  obtain ⟨v,hs,a,vs,rfl,g1,g2,g3,g4⟩:=e.get i _ hi
  have s0:Same H0 (upd H0 a (.lst vs)):=Same.upd g2 _
  have x' : Ext S0 HB (upd H0 a (.lst vs)) H := ⟨x.s, x.s0.trans s0, fun b u q => by
      by_cases hb:b=a
      . subst hb;rw [upd_same] at q;rw [g3];exact q
      . rw [upd_ne hb] at q;exact x.s1 b u q,fun b u q q0=>by rw [upd_ne (ne_of_none q g1)];exact x.own b u q q0⟩
  refine ⟨a,vs,g3,x',⟨by rw [List.length_set];exact e.len,fun j s hq=> ?_,fun j k b ts us hjk h1 h2 h3 h4=> ?_⟩⟩
  . by_cases hij:i=j
    . subst hij
      rw [List.getElem?_set_self',hi] at hq
      cases hq
      exact ⟨.ref a,hs, .list (SqL.of upd_same) (Reps.same s0 g4)⟩
    . rw [List.getElem?_set_ne hij] at hq
      obtain ⟨v,h1,h2⟩:=e.get j s hq
      refine ⟨v,h1,?_⟩
      cases s with
      | val d=>exact Rep.same s0 h2
      | own ts=>
        obtain ⟨b,ws,rfl,q1,q2,q3,q4⟩:=h2
        refine ⟨b,ws,rfl,q1,?_,q3,Reps.same s0 q4⟩
        rw [upd_ne]
        . exact q2
        . rintro rfl
          exact e.apart i j b ds ts hij hi hq hs h1
  . have hij : i ≠ j := by
      rintro rfl
      rw [List.getElem?_set_self',hi] at h1
      cases h1
    have hik:i≠k:=by
      rintro rfl
      rw [List.getElem?_set_self',hi] at h2
      cases h2
    rw [List.getElem?_set_ne hij] at h1
    rw [List.getElem?_set_ne hik] at h2
    exact e.apart j k b ts us hjk h1 h2 h3 h4
instance relOk_PR:RelOk K (PR K) where
  ext:=fun x e=>ER.ext x e
  get:=fun e _ h=>ER.get e _ _ h
  set:=fun e _ x s h=>ER.set e x s h
  write:=fun e _ h1 h2 h3 h4 _ h5=>ER.write e h1 h2 h3 h4 h5
  frz:=fun e _ h x=>by obtain ⟨a,vs,_,h1,h2⟩:=ER.frz e h x;exact ⟨_,h1,h2⟩
theorem rs_frz{ts:TS}{g:En->Option Out}(i:Nat)(hsl:R.slot i)(h:RS K R ts g):RS K R ts (mFrz i g):=fun HB S0 σ ρ H0 H x e o ho D d=>by
  unfold mFrz frz1 at ho
  split at ho
  . rename_i ds hj
    obtain ⟨H0',x',e'⟩:=RelOk.frz (K:=K) e.r hsl (join_some hj) x
    exact h HB S0 σ _ H0' H x' ⟨e'⟩ o ho D d
  . exact h HB S0 σ ρ H0 H x e o ho D d
def RG(K:PySem.W.Frag)(R:Rl)(g:TG)(fg:PyData->En->Option En):Prop:=
  ∀(HB:Hp) (σ:L2.St) (ρ ρ':En) (H0 H:Hp) (v:V) (d:PyData),Same H0 H->Same HB H->ST R HB H0 H σ ρ->Rep K H0 v d->fg d ρ=some ρ'->∀Q:L2.St->Hp->Prop,(∀σ',ST R HB H0 H σ' ρ'->Q σ' H)->g v σ H Q
def gVar(i:Nat):PyData->En->Option En:=fun d ρ=>some (ρ.set i (some (.val d)))
theorem rg_name(i:Nat)(hsl:R.slot i):RG K R (gName i) (gVar i):=fun HB σ ρ ρ' H0 H v d s sb e r h Q q=>by
  cases h
  exact q _ ⟨RelOk.set (K:=K) e.r hsl (Ext.refl s) sb (show SlH K H H0 H v (.val d) from r)⟩
def gsAll:List (PyData->En->Option En)->List PyData->En->Option En
  | [],[],ρ=>some ρ
  | g::gs,d::ds,ρ=>(g d ρ).bind fun ρ'=>gsAll gs ds ρ'
  | _,_,_=>none
def gTupD(gs:List (PyData->En->Option En)):PyData->En->Option En:=fun d ρ=>match d with
  | .tuple ds=>if ds.length=gs.length then gsAll gs ds ρ else none
  | _=>none
def RGs(K:PySem.W.Frag)(R:Rl)(g:TGs)(gs:List (PyData->En->Option En)):Prop:=
  ∀(HB:Hp) (σ:L2.St) (ρ ρ':En) (H0 H:Hp) (vs:List V) (ds:List PyData),Same H0 H->Same HB H->ST R HB H0 H σ ρ->Reps K H0 vs ds->gsAll gs ds ρ=some ρ'->∀Q:L2.St->Hp->Prop,(∀σ',ST R HB H0 H σ' ρ'->Q σ' H)->g vs σ H Q
theorem rgs_nil:RGs K R gNil []:=fun HB σ ρ ρ' H0 H vs ds s sb e r h Q q=>by
  cases r with
  | nil=>cases h;exact ⟨rfl,q _ e⟩
  | cons _ _=>cases h
theorem rgs_cons{g:TG}{u:TGs}{fg:PyData->En->Option En}{gs:List (PyData->En->Option En)}(h1:RG K R g fg)(h2:RGs K R u gs):RGs K R (gCons g u) (fg::gs):=fun HB σ ρ ρ' H0 H vs ds s sb e r h Q q=>by
  cases r with
  | nil=>cases h
  | cons r1 r2=>
    obtain ⟨ρ1,e1,h⟩:=Option.bind_eq_some_iff.mp (show (fg _ ρ).bind _=some ρ' from h)
    exact ⟨_,_,rfl,h1 HB σ ρ ρ1 H0 H _ _ s sb e r1 e1 _ fun σ' e'=>h2 HB σ' ρ1 ρ' H0 H _ _ s sb e' r2 h Q q⟩
theorem rg_tup{g:TGs}{gs:List (PyData->En->Option En)}{n:Nat}(hn:n=gs.length)(h:RGs K R g gs):RG K R (gTup K n g) (gTupD gs):=fun HB σ ρ ρ' H0 H v d s sb e r hd Q q=>by
  unfold gTupD at hd
  split at hd
  . split at hd
    . rename_i ds hl
      cases r with
      | tuple r1 r2=>exact ⟨_,_,rfl,s.seqT r1,by rw [r2.length,hl,hn],h HB σ ρ ρ' H0 H _ _ s sb e r2 hd Q q⟩
    . cases hd
  . cases hd
def ItR(K:PySem.W.Frag)(H0:Hp)(J:It)(ds:List PyData):Prop:=∀H0' H',Same H0 H0'->Same H0' H'->∀i:Nat,(∀d,ds[i]? = some d->J.go i H'/\∀x H2,J.yld i H' x H2->∃H02,Ext H0' H' H02 H2/\Rep K H02 x d)/\(ds.length<=i->J.stop i H')
def RI(K:PySem.W.Frag)(R:Rl)(wi:TI)(f:En->Option (List PyData)):Prop:=
  ∀(HB:Hp) (σ:L2.St) (ρ:En) (H0 H:Hp),Same H0 H->ST R HB H0 H σ ρ->∀ds,f ρ=some ds->∀R:It->Hp->Prop,(∀J H0' H',Ext H0 H H0' H'->ItR K H0' J ds->R J H')->wi σ H R
def mItems(f:En->Option Sl):En->Option (List PyData):=fun ρ=>(f ρ).bind fun a=>match a.dat with
  | .list ds=>some ds
  | _=>none
def mItemsT(f:En->Option Sl):En->Option (List PyData):=fun ρ=>(f ρ).bind fun a=>match a.dat with
  | .tuple ds=>some ds
  | _=>none
theorem it_list{H0:Hp}{a:Addr}{vs:List V}{ds:List PyData}(h:SqL K H0 a vs)(r:Reps K H0 vs ds):ItR K H0 (Itl K a) ds:=fun H0' H' s s' i=>by
  have h':=s'.seq (s.seq h)
  refine ⟨fun d hd=> ?_,fun hi=>⟨vs,h',by rw [r.length];exact hi⟩⟩
  obtain ⟨v,e1,e2⟩:=Tf.Reps.get r hd
  refine ⟨⟨vs,v,h',e1⟩,fun x H2 y=> ?_⟩
  obtain ⟨rfl,y⟩:=y
  have:=y vs h'
  rw [e1] at this
  cases this
  exact ⟨H0',Ext.refl s',Rep.same s e2⟩
theorem ri_list{te:TE}{f:En->Option Sl}(h:RE K R te f):RI K R (iList K te) (mItems f):=fun HB σ ρ H0 H s e ds hd R q=>by
  obtain ⟨a,ha,hd⟩:=Option.bind_eq_some_iff.mp hd
  split at hd
  . rename_i es he
    cases hd
    refine h.rv HB σ ρ H0 H s e a.dat (by unfold mDat;rw [ha];rfl) _ fun v H1 J1 x1 p1=> ?_
    rw [he] at p1
    cases p1 with
    | list h1 h2=>exact ⟨_,rfl,⟨_,x1.s1.seq h1⟩,q _ _ _ x1 (it_list h1 h2)⟩
  . cases hd
def rngD(lo:Int)(n:Nat):List PyData:=(List.range n).map fun i=> .int (lo+(i:Nat))
theorem rngD_get{lo:Int}{n i:Nat}:(rngD lo n)[i]? = if i<n then some (.int (lo+(i:Nat))) else none:=by
  unfold rngD
  rw [List.getElem?_map]
  by_cases h:i<n
  . rw [List.getElem?_range h,if_pos h];rfl
  . rw [if_neg h,List.getElem?_eq_none (by simpa using h)];rfl
theorem it_range{H0:Hp}{lo:Int}{n:Nat}:ItR K H0 (Itr lo n) (rngD lo n):=fun H0' H' s s' i=>by
  refine ⟨fun d hd=> ?_,fun hi=>show n<=i by simpa [rngD] using hi⟩
  rw [rngD_get] at hd
  split at hd
  . rename_i hi
    cases hd
    exact ⟨hi,fun x H2 y=>by obtain ⟨rfl,rfl⟩:=y;exact ⟨H0',Ext.refl s', .int _⟩⟩
  . cases hd
def inB(i:Int):Prop:= -(2 ^ 62)<=i/\i<2 ^ 62
noncomputable instance (i:Int):Decidable (inB i):=Classical.propDecidable _
noncomputable def mRng1(f:En->Option (List Sl)):En->Option (List PyData):=fun ρ=>(f ρ).bind fun a=>match a with
  | [.val (.int j)]=>if inB j then some (rngD 0 j.toNat) else none
  | _=>none
theorem ri_range1{ta:TA}{f:En->Option (List Sl)}(h:RQ K R ta f):RI K R (iRng1 ta) (mRng1 f):=fun HB σ ρ H0 H s e ds hd R q=>by
  obtain ⟨a,ha,hd⟩:=Option.bind_eq_some_iff.mp hd
  split at hd
  . split at hd
    . rename_i j hb
      cases hd
      refine h HB σ ρ H0 H s e _ ha _ fun vs H1 J1 x1 p1=> ?_
      obtain ⟨v,rfl,pa⟩:=paired1 p1
      exact ⟨j,by rw [pa.int],hb.1,hb.2,q _ _ _ x1 it_range⟩
    . cases hd
  . cases hd
noncomputable def mRng2(f:En->Option (List Sl)):En->Option (List PyData):=fun ρ=>(f ρ).bind fun a=>match a with
  | [.val (.int i), .val (.int j)]=>if inB i/\inB j then some (rngD i (j - i).toNat) else none
  | _=>none
theorem ri_range2{ta:TA}{f:En->Option (List Sl)}(h:RQ K R ta f):RI K R (iRng2 ta) (mRng2 f):=fun HB σ ρ H0 H s e ds hd R q=>by
  obtain ⟨a,ha,hd⟩:=Option.bind_eq_some_iff.mp hd
  split at hd
  . split at hd
    . rename_i i j hb
      cases hd
      refine h HB σ ρ H0 H s e _ ha _ fun vs H1 J1 x1 p1=> ?_
      obtain ⟨v,w,rfl,pa,pb⟩:=paired2 p1
      exact ⟨i,j,by rw [pa.int,pb.int],⟨hb.1.1,hb.1.2,hb.2.1,hb.2.2⟩,q _ _ _ x1 it_range⟩
    . cases hd
  . cases hd
def rngDn(hi:Int)(n:Nat):List PyData:=(List.range n).map fun i=> .int (hi - (i:Nat))
theorem it_down{H0:Hp}{hi:Int}{n:Nat}:ItR K H0 (Itd hi n) (rngDn hi n):=fun H0' H' s s' i=>by
  refine ⟨fun d hd=> ?_,fun h=>show n<=i by simpa [rngDn] using h⟩
  unfold rngDn at hd
  rw [List.getElem?_map] at hd
  by_cases h:i<n
  . rw [List.getElem?_range h] at hd
    cases hd
    exact ⟨h,fun x H2 y=>by obtain ⟨rfl,rfl⟩:=y;exact ⟨H0',Ext.refl s', .int _⟩⟩
  . rw [List.getElem?_eq_none (by simpa using h)] at hd;cases hd
noncomputable def mRngD(f:En->Option (List Sl)):En->Option (List PyData):=fun ρ=>(f ρ).bind fun a=>match a with
  | [.val (.int i), .val (.int j), .val (.int (-1))]=>if inB i/\inB j then some (rngDn i (i - j).toNat) else none
  | _=>none
theorem paired3{H0 H:Hp}{vs:List V}{a b c:Sl}(h:Paired (SlP K H0 H) vs [a,b,c]):∃v w u,vs = [v,w,u]/\SlP K H0 H v a/\SlP K H0 H w b/\SlP K H0 H u c:=by
  cases h with | cons h t=>cases t with | cons h2 t=>cases t with | cons h3 t=>cases t;exact ⟨_,_,_,rfl,h,h2,h3⟩
theorem ri_rangeD{ta:TA}{f:En->Option (List Sl)}(h:RQ K R ta f):RI K R (iRngD ta) (mRngD f):=fun HB σ ρ H0 H s e ds hd R q=>by
  obtain ⟨a,ha,hd⟩:=Option.bind_eq_some_iff.mp hd
  split at hd
  . split at hd
    . rename_i i j hb
      cases hd
      refine h HB σ ρ H0 H s e _ ha _ fun vs H1 J1 x1 p1=> ?_
      obtain ⟨v,w,u,rfl,pa,pb,pc⟩:=paired3 p1
      exact ⟨i,j,by rw [pa.int,pb.int,pc.int],⟨hb.1.1,hb.1.2,hb.2.1,hb.2.2⟩,q _ _ _ x1 it_down⟩
    . cases hd
  . cases hd
def zipD(xs ys:List PyData):List PyData:=List.zipWith (fun x y=> .tuple [x,y]) xs ys
theorem it_zip{H0:Hp}{a b:Addr}{vs ws:List V}{ds es:List PyData}(h:SqL K H0 a vs)(r:Reps K H0 vs ds)(h2:SqL K H0 b ws)(r2:Reps K H0 ws es):ItR K H0 (Itz K a b) (zipD ds es):=fun H0' H' s s' i=>by
  have h':=s'.seq (s.seq h)
  have h2':=s'.seq (s.seq h2)
  refine ⟨fun d hd=> ?_,fun hi=>⟨vs,ws,h',h2',?_⟩⟩
  . unfold zipD at hd
    rw [List.getElem?_zipWith] at hd
    cases e1:ds[i]? with
    | none=>rw [e1] at hd;cases hd
    | some x=>
      cases e2:es[i]? with
      | none=>rw [e1,e2] at hd;cases hd
      | some y=>
        rw [e1,e2] at hd
        cases hd
        obtain ⟨v,q1,q2⟩:=Tf.Reps.get r e1
        obtain ⟨w,q3,q4⟩:=Tf.Reps.get r2 e2
        refine ⟨⟨vs,ws,v,w,h',h2',q1,q3⟩,fun z H2 yl=> ?_⟩
        obtain ⟨p,x',y',hp,rfl,rfl,hx,hy⟩:=yl
        have:=hx vs h'
        rw [q1] at this
        cases this
        have:=hy ws h2'
        rw [q3] at this
        cases this
        refine ⟨_,Ext.allocF s' hp _, .tuple (SqT.of upd_same) ?_⟩
        have s2:=s.trans (Same.upd (s'.free hp) (.tup [v,w]))
        exact .cons (Rep.same s2 q2) (.cons (Rep.same s2 q4) .nil)
  . rw [r.length,r2.length]
    unfold zipD at hi
    rw [List.length_zipWith] at hi
    omega
def mZip(f:En->Option (List PyData)):En->Option (List PyData):=fun ρ=>(f ρ).bind fun a=>match a with
  | [.list xs, .list ys]=>some (zipD xs ys)
  | _=>none
theorem ri_zip{ta:TA}{f:En->Option (List PyData)}(h:RA K R ta f):RI K R (iZip K ta) (mZip f):=fun HB σ ρ H0 H s e ds hd R q=>by
  obtain ⟨a,ha,hd⟩:=Option.bind_eq_some_iff.mp hd
  split at hd
  . cases hd
    refine h HB σ ρ H0 H s e _ ha _ fun vs H1 J1 x1 p1=> ?_
    cases p1 with | cons p1 t=>cases t with | cons p2 t=>
      cases t
      cases p1 with | list a1 a2=>cases p2 with | list b1 b2=>
        exact ⟨_,_,rfl,⟨_,x1.s1.seq a1⟩,⟨_,x1.s1.seq b1⟩,q _ _ _ x1 (it_zip a1 a2 b1 b2)⟩
  . cases hd
def forM(fg:PyData->En->Option En)(gb:En->Option Out):List PyData->En->Option Out
  | [],ρ=>some (.nx ρ)
  | d::ds,ρ=>(fg d ρ).bind fun ρ1=>(gb ρ1).bind fun o=>match o with
    | .nx ρ2=>forM fg gb ds ρ2
    | .ct ρ2=>forM fg gb ds ρ2
    | .bk ρ2=>some (.nx ρ2)
    | .rt r ρ2=>some (.rt r ρ2)
def mFor(fi:En->Option (List PyData))(fg:PyData->En->Option En)(gb:En->Option Out):En->Option Out:=fun ρ=>(fi ρ).bind fun ds=>forM fg gb ds ρ
theorem forM_drop {fg : PyData -> En -> Option En} {gb : En -> Option Out} {ds : List PyData} {i : Nat} {d : PyData} {ρ : En} (h : ds[i]? = some d) : forM fg gb (ds.drop i) ρ = (fg d ρ).bind fun ρ1 => (gb ρ1).bind fun o => match o with
    | .nx ρ2=>forM fg gb (ds.drop (i+1)) ρ2
    | .ct ρ2=>forM fg gb (ds.drop (i+1)) ρ2
    | .bk ρ2=>some (.nx ρ2)
    | .rt r ρ2=>some (.rt r ρ2):=by
  obtain ⟨hi,e⟩:=List.getElem?_eq_some_iff.mp h
  rw [List.drop_eq_getElem_cons hi,e]
  rfl
theorem rs_for{wi:TI}{g:TG}{tb:TS}{fi:En->Option (List PyData)}{fg:PyData->En->Option En}{gb:En->Option Out}(hi:RI K R wi fi)(hg:RG K R g fg)(hb:RS K R tb gb):RS K R (tFor wi g tb) (mFor fi fg gb):=fun HB S0 σ ρ H0 H x e o ho D d=>by
  obtain ⟨ds,hds,ho⟩:=Option.bind_eq_some_iff.mp ho
  refine hi HB σ ρ H0 H x.s1 e ds hds _ fun J H1 J1 x1 it=> ?_
  have x':=x.chain x1
  refine ⟨fun i m σ H=>m=ds.length - i/\((∃ρ H0',i<=ds.length/\Ext H1 HB H0' H/\ST R HB H0' H σ ρ/\forM fg gb (ds.drop i) ρ=some o)),⟨_,rfl,ρ,H1,Nat.zero_le _,x'.rebase,e.ext (K:=K) x1,ho⟩,?_⟩
  rintro i m σ1 H2 ⟨rfl,ρ1,H0',hile,xx,e1,hf⟩
  obtain ⟨ig,is⟩:=it H0' H2 xx.s0 xx.s1 i
  by_cases hlt:i<ds.length
  . right
    obtain ⟨go,yl⟩:=ig ds[i] (by simp [hlt])
    rw [forM_drop (d:=ds[i]) (by simp [hlt])] at hf
    obtain ⟨ρ2,hr2,hf⟩:=Option.bind_eq_some_iff.mp hf
    obtain ⟨o2,ho2,hf⟩:=Option.bind_eq_some_iff.mp hf
    refine ⟨go,fun σ' H'=>∃ρ H0',Ext H1 HB H0' H'/\ST R HB H0' H' σ' ρ/\forM fg gb (ds.drop (i+1)) ρ=some o,fun σ' H' ⟨ρ',H0'',a1,a2,a3⟩=>⟨ds.length - (i+1),by omega,rfl,ρ',H0'',hlt,a1,a2,a3⟩,fun v H3 y=> ?_⟩
    obtain ⟨H03,x3,r3⟩:=yl v H3 y
    have xx3:=xx.chain x3
    refine hg HB σ1 ρ1 ρ2 H03 H3 v _ xx3.s1 xx3.s (e1.ext (K:=K) x3) r3 hr2 _ fun σ2 e2=> ?_
    refine hb HB H1 σ2 ρ2 H03 H3 xx3 e2 o2 ho2 _ ?_
    cases o2 with
    | nx ρ3=>exact fun σ' H0'' H' a b=>⟨ρ3,H0'',a,b,hf⟩
    | ct ρ3=>exact fun σ' H0'' H' a b=>⟨ρ3,H0'',a,b,hf⟩
    | bk ρ3=>cases hf;exact fun σ' H0'' H' a b=>d σ' H0'' H' (x'.unbase a) b
    | rt r ρ3=>cases hf;exact fun v σ' H0'' H' a b c=>d v σ' H0'' H' (x'.unbase a) b c
  . left
    refine ⟨is (by omega),?_⟩
    rw [List.drop_eq_nil_of_le (by omega)] at hf
    cases hf
    exact d σ1 H0' H2 (x'.unbase xx) e1
def whileF(c:En->Option Bool)(b:En->Option Out):Nat->En->Option Out
  | 0,_=>none
  | n + 1, ρ => (c ρ).bind fun k => if k then (b ρ).bind fun o => match o with
      | .nx ρ2=>whileF c b n ρ2
      | .ct ρ2=>whileF c b n ρ2
      | .bk ρ2=>some (.nx ρ2)
      | .rt r ρ2=>some (.rt r ρ2)
    else some (.nx ρ)
open Classical in
noncomputable def mWhile(c:En->Option Bool)(b:En->Option Out):En->Option Out:=fun ρ=>if h:∃o n,whileF c b n ρ=some o then some h.choose else none
theorem whileF_mono{c:En->Option Bool}{b:En->Option Out}:∀ {n:Nat} {ρ:En} {o:Out},whileF c b n ρ=some o->∀m,n<=m->whileF c b m ρ=some o
  | 0,_,_,h,_,_=>by cases h
  | n+1,ρ,o,h,m,hm=>by
    obtain ⟨m,rfl⟩:∃k,m=k+1:=⟨m - 1,by omega⟩
    unfold whileF at h ⊢
    obtain ⟨k,hk,h⟩:=Option.bind_eq_some_iff.mp h
    rw [hk]
    cases k with
    | false=>exact h
    | true=>
      show Option.bind _ _=_
      simp only [if_true] at h
      obtain ⟨o2,h2,h⟩:=Option.bind_eq_some_iff.mp h
      rw [h2]
      cases o2 with
      | nx ρ2=>exact whileF_mono (n:=n) h m (by omega)
      | ct ρ2=>exact whileF_mono (n:=n) h m (by omega)
      | bk ρ2=>exact h
      | rt r _=>exact h
theorem mWhile_of{c:En->Option Bool}{b:En->Option Out}{ρ:En}{o:Out}{n:Nat}(h:whileF c b n ρ=some o):mWhile c b ρ=some o:=by
  have hx:∃o n,whileF c b n ρ=some o:=⟨o,n,h⟩
  unfold mWhile
  rw [dif_pos hx]
  obtain ⟨m,hm⟩:=hx.choose_spec
  have h1:=whileF_mono h (max n m) (Nat.le_max_left _ _)
  have h2:=whileF_mono hm (max n m) (Nat.le_max_right _ _)
  rw [<-h2,h1]
theorem mWhile_fuel{c:En->Option Bool}{b:En->Option Out}{ρ:En}{o:Out}(h:mWhile c b ρ=some o):∃n,whileF c b n ρ=some o:=by
  unfold mWhile at h
  split at h
  . rename_i hx
    obtain ⟨m,hm⟩:=hx.choose_spec
    cases h
    exact ⟨m,hm⟩
  . cases h
theorem rs_while{c:TT}{tb:TS}{fc:En->Option Bool}{gb:En->Option Out}(hc:RT K R c fc)(hb:RS K R tb gb):RS K R (tWhile c tb) (mWhile fc gb):=fun HB S0 σ ρ H0 H x e o ho D d=>by
  obtain ⟨n,hn⟩:=mWhile_fuel ho
  refine ⟨fun m σ H=>∃ρ H0,Ext S0 HB H0 H/\ST R HB H0 H σ ρ/\whileF fc gb m ρ=some o,⟨n,ρ,H0,x,e,hn⟩,?_⟩
  rintro m σ1 H1 ⟨ρ1,H01,x1,e1,hw⟩
  cases m with
  | zero=>cases hw
  | succ m=>
    unfold whileF at hw
    obtain ⟨k,hk,hw⟩:=Option.bind_eq_some_iff.mp hw
    refine hc HB σ1 ρ1 H01 H1 x1.s1 e1 k hk _ fun H2 J2 x2=> ?_
    have x12:=x1.chain x2
    cases k with
    | false=>cases hw;exact iteF (d σ1 H2 J2 x12 (e1.ext (K:=K) x2))
    | true=>
      simp only [if_true] at hw
      obtain ⟨o2,h2,hw⟩:=Option.bind_eq_some_iff.mp hw
      refine iteT ⟨fun σ' H'=>∃ρ H0,Ext S0 HB H0 H'/\ST R HB H0 H' σ' ρ/\whileF fc gb m ρ=some o,fun σ' H' h=>⟨m,Nat.lt_succ_self m,h⟩,?_⟩
      refine hb HB S0 σ1 ρ1 H2 J2 x12 (e1.ext (K:=K) x2) o2 h2 _ ?_
      cases o2 with
      | nx ρ3=>exact fun σ' H0'' H' a b=>⟨ρ3,H0'',a,b,hw⟩
      | ct ρ3=>exact fun σ' H0'' H' a b=>⟨ρ3,H0'',a,b,hw⟩
      | bk ρ3=>cases hw;exact fun σ' H0'' H' a b=>d σ' H0'' H' a b
      | rt r ρ3=>cases hw;exact fun v σ' H0'' H' a b c=>d v σ' H0'' H' a b c
def mAsgT(g:PyData->En->Option En)(f:En->Option Sl):En->Option Out:=fun ρ=>(f ρ).bind fun r=>(g r.dat ρ).map .nx
theorem rs_asgT{te:TE}{g:TG}{f:En->Option Sl}{fg:PyData->En->Option En}(h:RE K R te f)(hg:RG K R g fg):RS K R (tAsg te g) (mAsgT fg f):=fun HB S0 σ ρ H0 H x e o ho D d=>by
  obtain ⟨r,hr,ho⟩:=Option.bind_eq_some_iff.mp ho
  obtain ⟨ρ',hg',rfl⟩:=Option.map_eq_some_iff.mp ho
  refine h.rv HB σ ρ H0 H x.s1 e r.dat (by unfold mDat;rw [hr];rfl) _ fun v H1 J1 x1 p1=> ?_
  have x':=x.chain x1
  exact hg HB σ ρ ρ' H1 J1 v _ x'.s1 x'.s (e.ext (K:=K) x1) p1 hg' _ fun σ' e'=>d σ' H1 J1 x' e'
def mPar(i j:Nat)(f:En->Option (List PyData)):En->Option Out:=fun ρ=>(f ρ).bind fun ds=>match ds with
  | [a,b]=>some (.nx ((ρ.set i (some (.val a))).set j (some (.val b))))
  | _=>none
theorem rs_par{i j:Nat}(hsi:R.slot i)(hsj:R.slot j){ta:TA}{f:En->Option (List PyData)}(h:RA K R ta f):RS K R (tPar i j ta) (mPar i j f):=fun HB S0 σ ρ H0 H x e o ho D d=>by
  obtain ⟨ds,hd,ho⟩:=Option.bind_eq_some_iff.mp ho
  split at ho
  . cases ho
    refine h HB σ ρ H0 H x.s1 e _ hd _ fun vs H1 J1 x1 p1=> ?_
    cases p1 with | cons p1 t=>cases t with | cons p2 t=>
      cases t
      have x':=x.chain x1
      have e1:=RelOk.set (K:=K) (e.ext (K:=K) x1).r hsi (Ext.refl x'.s1) x'.s (show SlH K J1 H1 J1 _ (.val _) from p1)
      have e2:=RelOk.set (K:=K) e1 hsj (Ext.refl x'.s1) x'.s (show SlH K J1 H1 J1 _ (.val _) from p2)
      exact ⟨_,_,rfl,d _ H1 J1 x' ⟨e2⟩⟩
  . cases ho
end
end Dm
namespace Dm
open PySem PySem.Spec PyProof.Rows L2 Tf
section
variable {K:PySem.W.Frag}
def subE(ix:List (Option Nat))(ρ:En):En:=ix.map fun o=>match o with | some j=>(ρ[j]?).join | none=>none
theorem ix_inj:∀ {ix:List (Option Nat)},(ix.filterMap id).Nodup->∀ {i k j:Nat},ix[i]? = some (some j)->ix[k]? = some (some j)->i=k
  | [],_,i,k,j,h,_=>by simp at h
  | o::r,hn,i,k,j,h1,h2=>by
    have hr:(r.filterMap id).Nodup:=by
      cases o with
      | none=>simpa using hn
      | some a=>have hn:(a::r.filterMap id).Nodup:=hn;exact (List.nodup_cons.mp hn).2
    have out:∀ {k:Nat},o=some j->r[k]? = some (some j)->False:=by
      intro k ho hk
      subst ho
      have hn:(j::r.filterMap id).Nodup:=hn
      exact (List.nodup_cons.mp hn).1 (List.mem_filterMap.mpr ⟨some j,List.mem_of_getElem? hk,rfl⟩)
    cases i with
    | zero=>
      cases k with
      | zero=>rfl
      | succ k=>simp at h1 h2;exact (out h1 h2).elim
    | succ i=>
      cases k with
      | zero=>simp at h1 h2;exact (out h2 h1).elim
      | succ k=>simp at h1 h2;rw [ix_inj hr h1 h2]
theorem subE_get{ix:List (Option Nat)}{ρ:En}{i:Nat}{s:Sl}(h:(subE ix ρ)[i]? = some (some s)):∃j,ix[i]? = some (some j)/\ρ[j]? = some (some s):=by
  unfold subE at h
  rw [List.getElem?_map] at h
  cases e:ix[i]? with
  | none=>rw [e] at h;cases h
  | some o=>
    rw [e] at h
    cases o with
    | none=>cases h
    | some j=>exact ⟨j,rfl,join_some (Option.some.inj h)⟩
theorem subS_get{ix:List (Option Nat)}{σ:L2.St}{i j:Nat}(h:ix[i]? = some (some j)):(subS ix σ)[i]? = some (σ[j]?).join:=by
  unfold subS
  rw [List.getElem?_map,h]
  rfl
theorem ER.sub{HB H0 H:Hp}{σ:L2.St}{ρ:En}{ix:List (Option Nat)}(hx:(ix.filterMap id).Nodup)(e:ER K HB H0 H σ ρ):ER K (fun _=>none) H0 H (subS ix σ) (subE ix ρ):=by
  refine ⟨by unfold subS subE;rw [List.length_map,List.length_map],fun i s h=> ?_,fun i k a ds es hik h1 h2 h3 h4=> ?_⟩
  . obtain ⟨j,h1,h2⟩:=subE_get h
    obtain ⟨v,h3,h4⟩:=e.get j s h2
    refine ⟨v,by rw [subS_get h1,h3];rfl,?_⟩
    cases s with
    | val d=>exact h4
    | own ds=>
      obtain ⟨a,vs,q1,_,q2⟩:=h4
      exact ⟨a,vs,q1,rfl,q2⟩
  . obtain ⟨j,g1,g2⟩:=subE_get h1
    obtain ⟨l,g3,g4⟩:=subE_get h2
    have hjl:j≠l:=by
      rintro rfl
      exact hik (ix_inj hx g1 g3)
    rw [subS_get g1] at h3
    rw [subS_get g3] at h4
    exact e.apart j l a ds es hjl g2 g4 (join_some (Option.some.inj h3)) (join_some (Option.some.inj h4))
def compM(f:PyData->Option (Option PyData)):List PyData->Option (List PyData)
  | []=>some []
  | d::ds=>(f d).bind fun r=>(compM f ds).map fun rest=>match r with
    | some x=>x::rest
    | none=>rest
def elM(fg:PyData->En->Option En)(ft:En->Option Bool)(fe:En->Option Sl)(ρ0:En):PyData->Option (Option PyData):=fun d=>(fg d ρ0).bind fun ρ'=>(ft ρ').bind fun b=>if b then (fe ρ').map (fun r=>some r.dat) else some none
def mLC(sb:En->En)(fi:En->Option (List PyData))(fg:PyData->En->Option En)(ft:En->Option Bool)(fe:En->Option Sl):En->Option Sl:=fun ρ=>(fi ρ).bind fun ds=>
  if ds.length<sizeLine then (compM (elM fg ft fe (sb ρ)) ds).map .own else none
def mYes:En->Option Bool:=fun _=>some true
theorem rt_yes{R:Rl}:RT K R tNoTest mYes:=fun HB σ ρ H0 H s e b hb Q q=>by cases hb;exact q _ _ (Ext.refl s)
theorem re_lc {R R' : Rl} [RelOk K R] [RelOk K R'] {sb : En -> En} {ix : List (Option Nat)} {wi : TI} {g : CB -> TG} {tt : CB -> TT} {te : CB -> TE} {fi : En -> Option (List PyData)} {fg : PyData -> En -> Option En} {ft : En -> Option Bool} {fe : En -> Option Sl}
    (hx:∀(HB:Hp) (σ:L2.St) (ρ:En) (H0 H:Hp),R.r HB H0 H σ ρ->R'.r (fun _=>none) H0 H (subS ix σ) (sb ρ))
    (hi:RI K R wi fi) (hg:∀b,RG K R' (g b) fg) (ht:∀b,RT K R' (tt b) ft) (he:∀b,RE K R' (te b) fe):RE K R (tLC ix wi g tt te) (mLC sb fi fg ft fe):=fun HB σ ρ H0 H s e z hz Q q=>by
  obtain ⟨ds,hds,hz⟩:=Option.bind_eq_some_iff.mp hz
  split at hz
  . rename_i hlen
    obtain ⟨all,hall,rfl⟩:=Option.map_eq_some_iff.mp hz
    refine hi HB σ ρ H0 H s e ds hds _ fun J H1 J1 x1 it b=> ?_
    have e1:ST R' (fun _=>none) H1 J1 (subS ix σ) (sb ρ):=⟨hx HB σ ρ H1 J1 (e.ext (K:=K) x1).r⟩
    refine ⟨fun i m ys H=>m=ds.length - i/\i<=ds.length/\∃H0' es rest,Ext H1 J1 H0' H/\Reps K H0' ys es/\es.length<=i/\compM (elM fg ft fe (sb ρ)) (ds.drop i)=some rest/\es++rest=all,⟨_,rfl,Nat.zero_le _,H1,[],all,Ext.refl x1.s1, .nil,Nat.le_refl _,hall,rfl⟩,?_⟩
    rintro i m ys H2 ⟨rfl,hile,H0',es,rest,xx,hr,hel,hc,hsum⟩
    obtain ⟨ig,is⟩:=it H0' H2 xx.s0 xx.s1 i
    refine ⟨by rw [hr.length];omega,?_⟩
    by_cases hlt:i<ds.length
    . right
      obtain ⟨go,yl⟩:=ig ds[i] (by simp [hlt])
      rw [List.drop_eq_getElem_cons hlt] at hc
      obtain ⟨r,hr1,hc⟩:=Option.bind_eq_some_iff.mp (show (elM fg ft fe (sb ρ) ds[i]).bind _=some rest from hc)
      obtain ⟨rest',hr2,hc⟩:=Option.map_eq_some_iff.mp hc
      refine ⟨go,fun ys' H'=>∃H0' es rest,Ext H1 J1 H0' H'/\Reps K H0' ys' es/\es.length<=i+1/\compM (elM fg ft fe (sb ρ)) (ds.drop (i+1))=some rest/\es++rest=all,fun ys' H' h=>⟨ds.length - (i+1),by omega,rfl,hlt,h⟩,fun v H3 y=> ?_⟩
      obtain ⟨H03,x3,r3⟩:=yl v H3 y
      obtain ⟨ρ',hg',hb'⟩:=Option.bind_eq_some_iff.mp hr1
      obtain ⟨bb,hbb,hb'⟩:=Option.bind_eq_some_iff.mp hb'
      have xx3:=xx.trans x3
      refine hg b (fun _=>none) _ _ ρ' H03 H3 v _ x3.s1 (fun _ _ h=>by cases h) (e1.ext (K:=K) xx3) r3 hg' _ fun σ2 e2=> ?_
      refine ht b _ σ2 ρ' H03 H3 x3.s1 e2 bb hbb _ fun H4 J4 x4=> ?_
      cases bb with
      | true=>
        refine iteT ?_
        obtain ⟨rr,hrr,rfl⟩:=Option.map_eq_some_iff.mp (show (fe ρ').map (fun r=>some r.dat)=some r from hb')
        refine (he b).rv _ σ2 ρ' H4 J4 x4.s1 (e2.ext (K:=K) x4) rr.dat (by unfold mDat;rw [hrr];rfl) _ fun w H5 J5 x5 p5=> ?_
        refine ⟨H5,es ++ [rr.dat],rest',(xx3.trans x4).trans x5,Tf.Reps.snoc (Reps.same ((x3.s0.trans x4.s0).trans x5.s0) hr) p5,by rw [List.length_append];simpa using hel,hr2,?_⟩
        rw [<-hsum, <-hc,List.append_assoc]
        rfl
      | false=>
        refine iteF ?_
        cases hb'
        exact ⟨H4,es,rest',xx3.trans x4,Reps.same (x3.s0.trans x4.s0) hr,by omega,hr2,by rw [<-hsum, <-hc]⟩
    . left
      have hi':i=ds.length:=by omega
      refine ⟨is (by omega),fun p hp=> ?_⟩
      rw [List.drop_eq_nil_of_le (by omega)] at hc
      cases hc
      rw [List.append_nil] at hsum
      subst hsum
      have xy:=x1.trans xx
      exact q _ _ _ (xy.trans (Ext.alloc xx.s1 hp _)) ⟨p,ys,rfl,xy.s.free hp,xx.s1.free hp,upd_same,hr⟩
  . cases hz
def runD(n:Nat)(g:En->Option Out)(k:Nat):List PyData->Option Sl:=fun ds=>if ds.length=k then (g (ds.map (fun d=>some (.val d))++List.replicate (n - ds.length) none)).bind fun o=>match o with
  | .rt r _=>some r
  | .nx _=>some (.val .none)
  | _=>none else none
theorem Reps.lenV{H:Hp}{vs:List V}{ds:List PyData}(h:Reps K H vs ds):vs.length=ds.length:=h.length
theorem er_start{N:List Str}{H0 H:Hp}{vs:List V}{ds:List PyData}(h:Reps K H0 vs ds):ER K H H0 H (L2.start N vs) (ds.map (fun d=>some (.val d))++List.replicate (N.length - ds.length) none):=by
  have hl:=h.length
  have noown:∀(i:Nat) s,(ds.map (fun d=>some (Sl.val d))++List.replicate (N.length - ds.length) none)[i]? = some (some s)->∃d,ds[i]? = some d/\s = .val d:=by
    intro i s hs
    by_cases hi:i<ds.length
    . rw [List.getElem?_append_left (by simpa using hi),List.getElem?_map,List.getElem?_eq_getElem hi] at hs
      cases hs
      exact ⟨_,List.getElem?_eq_getElem hi,rfl⟩
    . rw [List.getElem?_append_right (by simpa using hi),List.getElem?_replicate] at hs
      split at hs <;> cases hs
  refine ⟨?_,fun i s hs=> ?_,fun i j a xs ys _ h1 _ _ _=> ?_⟩
  . unfold L2.start
    simp only [List.length_append,List.length_map,List.length_replicate,hl]
  . obtain ⟨d,hd,rfl⟩:=noown i s hs
    obtain ⟨v,h1,h2⟩:=Tf.Reps.get h hd
    refine ⟨v,?_,h2⟩
    unfold L2.start
    have hi:i<vs.length:=(List.getElem?_eq_some_iff.mp h1).1
    rw [List.getElem?_append_left (by simpa using hi),List.getElem?_map,h1]
    rfl
  . obtain ⟨d,_,e⟩:=noown i _ h1
    cases e
section
variable {P:Program} {w:World} {mg:Str->Option Value} {base:Heap}
def DSs(X:Cx)(R:Rl)(st:List Stmt)(g:En->Option Out):Prop:=∃t,PSs X st t/\RS X.K R t g
theorem fnD {x qual : Str} {st : Stmt} {f : Addr} {fd : FuncData} {N ps : List Str} {k n m : Nat} {g : En -> Option Out} (F : Fun K x qual st f fd) (S : FnScope N ps (defScope st)) (hn : N.length = n) (hm : ps.length = m)
    (hb:∀(cdv:Value) (A:Around) (outer:List Env) (s:Shared) (H:Hp) (E:XK),Room k (A.deeper (envOfC qual (defScope st) s.heap.objs.size f cdv))->DSs (cxOf CX0 P w K mg base N qual (defScope st) f cdv A outer s H E).nox (PR K) (defBody st) g) :
    FnOk P w K mg base CX0 (k+1) f fd ps (spD K (runD n g m)):=by
  subst hn hm
  refine F.ok S (fun vs H Q E h=> ?_) fun cdv A outer s H vs Q E hr h=> ?_
  . obtain ⟨H0,ds,r,s,hr,hf,_⟩:=h
    unfold runD at hf
    split at hf
    . rename_i hl
      rw [hr.length,hl]
    . cases hf
  . obtain ⟨t,ht,rs⟩:=hb cdv A outer s H E hr
    refine ⟨t,ht,?_⟩
    obtain ⟨H0,ds,r,s0,hr,hf,q⟩:=h
    unfold runD at hf
    split at hf
    . obtain ⟨o,ho,hf⟩:=Option.bind_eq_some_iff.mp hf
      refine rs H H0 _ _ H0 H (Ext.refl s0) ⟨er_start hr⟩ o ho _ ?_
      cases o with
      | rt r' _=>cases hf;exact fun v σ H1 J1 a _ b=>q v H1 J1 a b
      | nx _=>cases hf;exact fun σ H1 J1 a b=>q .non H1 J1 a .none
      | bk _=>cases hf
      | ct _=>cases hf
    . cases hf
end
end
theorem law_imp{K:PySem.W.Frag}{F:List PyData->Option Sl}(hL:∀ns:List Int,ns.length<=63->F [.list (ns.map .int)]=some (.val (.bool true))){vs:List V}{H:Hp}{Q:VK}{E:XK}(h:spLaw K vs H Q E):spD K F vs H Q E:=by
  obtain ⟨a,ns,rfl,h1,h2,q⟩:=h
  have allI:∀ns:List Int,Reps K H (ns.map V.int) (ns.map .int):=fun ns=>by
    induction ns with
    | nil=>exact .nil
    | cons n r ih=>exact .cons (.int n) ih
  refine ⟨H,[.list (ns.map .int)], .val (.bool true),Same.refl H, .cons (.list h1 (allI ns)) .nil,hL ns h2,fun v H0' H' x p=> ?_⟩
  cases (show Rep K H0' v (.bool true) from p)
  exact q H'
section
variable {X:Cx} {R R':Rl} [RelOk X.K R] [RelOk X.K R'] {a b c e:Expr} {pos p:Pos} {f g fa fb fc:En->Option Sl}
def DE(X:Cx)(R:Rl)(e:Expr)(f:En->Option Sl):Prop:=∃te,PE X e te/\RE X.K R te f
def DP(X:Cx)(R:Rl)(e:Expr)(f:En->Option Sl):Prop:=∃te,PE X e te/\RP X.K R te f
def DA(X:Cx)(R:Rl)(es:List Expr)(f:En->Option (List PyData)):Prop:=∃ta,PA X es ta/\RA X.K R ta f
def DQ(X:Cx)(R:Rl)(es:List Expr)(f:En->Option (List Sl)):Prop:=∃ta,PA X es ta/\RQ X.K R ta f
def DT(X:Cx)(R:Rl)(e:Expr)(f:En->Option Bool):Prop:=∃tt,PT X e tt/\RT X.K R tt f
def DW(X:Cx)(R:Rl)(e:Expr)(f:En->Option Bool):Prop:=∃tt,PW X e tt/\RT X.K R tt f
def DO(X:Cx)(R:Rl)(e:Option Expr)(f:En->Option (Option Int)):Prop:=∃to,PO X e to/\RO X.K R to f
def DS(X:Cx)(R:Rl)(st:Stmt)(g:En->Option Out):Prop:=∃t,PS X st t/\RS X.K R t g
def DG(X:Cx)(R:Rl)(e:Expr)(g:PyData->En->Option En):Prop:=∃t,PG X e t/\RG X.K R t g
def DGs(X:Cx)(R:Rl)(es:List Expr)(gs:List (PyData->En->Option En)):Prop:=∃t,PGs X es t/\RGs X.K R t gs
def DI(X:Cx)(R:Rl)(tg e:Expr)(f:En->Option (List PyData)):Prop:=∃wi,PI X tg e wi/\RI X.K R wi f
theorem DE.dp(h:DE X R e f):DP X R e f:=by obtain ⟨t,h1,h2⟩:=h;exact ⟨t,h1,h2.rp⟩
theorem dp_var (i : Nat) {x : Str} (hN : X.N[i]? = some x := by rfl) (hv : Vis X.env.scope x := by first | exact Or.inl rfl | exact Or.inr (Or.inl rfl) | exact Or.inr (Or.inr rfl)) (hd : (x == ("__debug__" : Str)) = false := by decide)
    (hcd:(x==("__classdict__" : Str))=false:=by decide) (hsl:R.slot i:=by first | exact True.intro | exact ⟨of_decide_eq_true rfl,of_decide_eq_true rfl⟩):DP X R (.Name x pos) (mPk i):=⟨_,pe_var hN hv hd hcd,rp_var i hsl⟩
theorem de_var (i : Nat) {x : Str} (hN : X.N[i]? = some x := by rfl) (hv : Vis X.env.scope x := by first | exact Or.inl rfl | exact Or.inr (Or.inl rfl) | exact Or.inr (Or.inr rfl)) (hd : (x == ("__debug__" : Str)) = false := by decide)
    (hcd:(x==("__classdict__" : Str))=false:=by decide) (hsl:R.slot i:=by first | exact True.intro | exact ⟨of_decide_eq_true rfl,of_decide_eq_true rfl⟩):DE X R (.Name x pos) (mVar i):=⟨_,pe_var hN hv hd hcd,re_var i hsl⟩
theorem de_int{i:Int}{j}:DE X R (.Constant (.int i) j pos) (mK (.int i)):=⟨_,pe_int,re_k fun _=> .int i⟩
theorem de_bool{i:Bool}{j}:DE X R (.Constant (.bool i) j pos) (mK (.bool i)):=⟨_,pe_bl,re_k fun _=> .bool i⟩
theorem de_none{j}:DE X R (.Constant .none j pos) (mK .none):=⟨_,pe_non,re_k fun _=> .none⟩
theorem de_str{i:Str}{j}:DE X R (.Constant (.str i) j pos) (mK (.str i)):=⟨_,pe_str,re_k fun _=> .str i⟩
theorem de_glob {x:Str} {v:V} {u:Value} {d:PyData} (hm:X.mg x=some u) (r:RelV v u) (h:∀H0:Hp,Rep X.K H0 v d) (hg:Gl X x:=by rfl) (hd:(x==("__debug__" : Str))=false:=by decide):DE X R (.Name x pos) (mK d):=⟨_,pe_glob hg hm r hd,re_k h⟩
theorem de_op{o:Operator}{r:R2}{op:Sl->Sl->Option Sl}(ho:OpR X (binaryOp o) r)(hd:OpD X.K r op)(ha:DP X R a fa)(hb:DP X R b fb):DE X R (.BinOp a o b pos) (mBin op fa fb):=by
  obtain ⟨ta,h1,h2⟩:=ha
  obtain ⟨tb,h3,h4⟩:=hb
  exact ⟨_,pe_op ho h1 h3,re_bin hd h2 h4⟩
def dAddI:Sl->Sl->Option Sl:=iop fun i j=>i+j
def dSub:Sl->Sl->Option Sl:=iop fun i j=>i - j
def CMulA(i j:Int):Prop:=CMul i j\/CMulB i j
theorem op_mulA:OpR X (binaryOp .Mult) (rI CMulA fun i j=> .int (i*j)):=opI fun _ _ _ _ _ _ _ hc q=>by
  rcases hc with hc | ⟨n,m,h1,h2,h3⟩
  . exact mul_int q hc.ok
  . exact mul_int q (mulOk h1 h2 h3)
noncomputable def dMulI:Sl->Sl->Option Sl:=iopC CMulA fun i j=>i*j
noncomputable def dFdiv:Sl->Sl->Option Sl:=iopC CDivB fun i j=>i.fdiv j
noncomputable def dMod:Sl->Sl->Option Sl:=iopC (fun _ j=>j≠0) fun i j=>i.fmod j
noncomputable def dPow:Sl->Sl->Option Sl:=iopC CPow fun i j=>i ^ j.toNat
noncomputable def dShr:Sl->Sl->Option Sl:=iopC (fun _ j=>0<=j) fun i j=>i / 2 ^ j.toNat
theorem de_sub(ha:DP X R a fa)(hb:DP X R b fb):DE X R (.BinOp a .Sub b pos) (mBin dSub fa fb):=de_op op_sub opd_iop ha hb
theorem de_fdiv(ha:DP X R a fa)(hb:DP X R b fb):DE X R (.BinOp a .FloorDiv b pos) (mBin dFdiv fa fb):=de_op op_fdivB opd_iopC ha hb
theorem de_mod(ha:DP X R a fa)(hb:DP X R b fb):DE X R (.BinOp a .Mod b pos) (mBin dMod fa fb):=de_op op_modN opd_iopC ha hb
theorem de_pow(ha:DP X R a fa)(hb:DP X R b fb):DE X R (.BinOp a .Pow b pos) (mBin dPow fa fb):=de_op op_pow opd_iopC ha hb
theorem de_shr(ha:DP X R a fa)(hb:DP X R b fb):DE X R (.BinOp a .RShift b pos) (mBin dShr fa fb):=de_op op_shr opd_iopC ha hb
def rCatG(K:PySem.W.Frag):R2:=fun x y H Q=>∃l b xs zs,x = .ref l/\y = .ref b/\SqL K H l xs/\SqL K H b zs/\xs.length+zs.length<=sizeLine/\∀p,H p=none->Q (.ref p) (upd H p (.lst (xs++zs)))
theorem op_catG:OpR X (binaryOp .Add) (rCatG X.K):=by
  intro pins s σ H x y v u Q I rx ry h
  obtain ⟨l,b,xs,zs,rfl,rfl,hH,hB,hz,q⟩:=h
  cases rx
  cases ry
  obtain ⟨its,r,p1,_⟩:=I.list hH
  obtain ⟨its2,r2,p2,_⟩:=I.list hB
  obtain ⟨⟨cls,dd,data,sl⟩,n,ho,hc,hd1,hd⟩:=id p1
  obtain ⟨⟨cls2,dd2,data2,sl2⟩,n2,ho2,hc2,hd2',hd2⟩:=id p2
  simp only at hc hd hc2 hd2
  subst hc hd hc2 hd2
  have l1:=r.length
  have l2:=r2.length
  refine concat_meets ⟨_,ho,rfl⟩ ⟨_,ho2,rfl⟩ noFill_list_add seq_list_add PySem.F.slot_list_add PySem.F.entry_list_add (PySem.F.args_list_add_2 _ _) (list_addW l b its.toArray its2.toArray n n2 dd dd2 sl sl2 (by rw [List.size_toArray,List.size_toArray];omega)) ⟨ho,ho2,?_⟩
  have ea:its.toArray++its2.toArray=(its++its2).toArray:=by simp
  rw [ea]
  exact ⟨.ref _,_,I.lnew (t':=s.toks) (r.append r2) (by rw [List.length_append];omega),rfl,q _ I.fresh⟩
def rCatT0(K:PySem.W.Frag):R2:=fun x y H Q=>∃a b ys,x = .ref a/\y = .ref b/\SqT K H a []/\SqT K H b ys/\Q (.ref b) H
theorem op_catT0:OpR X (binaryOp .Add) (rCatT0 X.K):=by
  intro pins s σ H x y v u Q I rx ry h
  obtain ⟨a,b,ys,rfl,rfl,ha,hb,q⟩:=h
  cases rx
  cases ry
  obtain ⟨its,r1,p1,_⟩:=I.tuple ha
  obtain ⟨its2,r2,p2,_⟩:=I.tuple hb
  cases r1
  obtain ⟨⟨cls,dd,data,sl⟩,ho,hc,n,hd⟩:=id p1
  obtain ⟨⟨cls2,dd2,data2,sl2⟩,ho2,hc2,n2,hd2⟩:=id p2
  simp only at hc hd hc2 hd2
  subst hc hd hc2 hd2
  exact concat_meets ⟨_, ho, rfl⟩ ⟨_, ho2, rfl⟩ noFill_tuple_add seq_tuple_add PySem.F.slot_tuple_add PySem.F.entry_tuple_add (PySem.F.args_tuple_add_2 _ _)
      (tuple_addW0 a b ([]:List Value).toArray its2.toArray n n2 dd dd2 sl sl2 (by simp)) ⟨ho,ho2, .ref b,H,I,rfl,q⟩
def rAddA(K:PySem.W.Frag):R2:=fun x y H Q=>rI0 (fun i j=> .int (i+j)) x y H Q\/rCatG K x y H Q\/rCatT0 K x y H Q\/rCatT K x y H Q\/(∃i j,x = .str i/\y = .str j/\i.length+j.length<=sizeLine/\Q (.str (i++j)) H)
theorem op_addA:OpR X (binaryOp .Add) (rAddA X.K):=op_add.or (op_catG.or (op_catT0.or (op_catT.or op_add_str)))
def dAdd(a b:Sl):Option Sl:=match a.dat,b.dat with
  | .int i, .int j=>some (.val (.int (i+j)))
  | .list xs, .list ys=>if xs.length+ys.length<=sizeLine then some (.own (xs++ys)) else none
  | .tuple xs, .tuple ys=>if xs.length+ys.length<=sizeLine then some (.val (.tuple (xs++ys))) else none
  | .str i, .str j=>if i.length+j.length<=sizeLine then some (.val (.str (i++j))) else none
  | _,_=>none
theorem SlP.atom{K:PySem.W.Frag}{H0 H:Hp}{v:V}{d:PyData}:∀ {r:Sl},SlP K H0 H v r->r.dat=d->(∀ds,d ≠ .list ds)->Rep K H0 v d
  | .val _,h,e,_=>by cases e;exact h
  | .own _,_,e,n=>absurd e.symm (n _)
theorem Reps.append{K:PySem.W.Frag}{H:Hp}:∀ {vs ws:List V} {ds es:List PyData},Reps K H vs ds->Reps K H ws es->Reps K H (vs++ws) (ds++es)
  | _,_,_,_, .nil,h=>h
  | _,_,_,_, .cons a t,h=> .cons a (Reps.append t h)
theorem opd_add{K:PySem.W.Frag}:OpD K (rAddA K) dAdd:=fun H0 H x y sx sy z s px py hz Q q=>by
  unfold dAdd at hz
  split at hz
  . rename_i i j e1 e2
    cases hz
    cases px.atom e1 (fun _ h=>nomatch h)
    cases py.atom e2 (fun _ h=>nomatch h)
    exact .inl ⟨_,_,rfl,rfl,q _ _ _ (Ext.refl s) (.int _)⟩
  . rename_i xs ys e1 e2
    split at hz
    . rename_i hl
      cases hz
      obtain ⟨a,vs,rfl,h1,h2⟩:=px.lst s e1
      obtain ⟨b,ws,rfl,h3,h4⟩:=py.lst s e2
      exact .inr (.inl ⟨a,b,vs,ws,rfl,rfl,h1,h3,by rw [h2.length,h4.length];exact hl,fun p hp=>q _ _ _ (Ext.alloc s hp _) ⟨p,_,rfl,hp,s.free hp,upd_same,Reps.append h2 h4⟩⟩)
    . cases hz
  . rename_i xs ys e1 e2
    split at hz
    . rename_i hl
      cases hz
      obtain ⟨a,vs,rfl,h1,h2⟩:=px.tup e1
      obtain ⟨b,ws,rfl,h3,h4⟩:=py.tup e2
      by_cases hv:vs = []
      . subst hv
        cases h2
        exact .inr (.inr (.inl ⟨a,b,ws,rfl,rfl,s.seqT h1,s.seqT h3,q _ _ _ (Ext.refl s) (.tuple h3 h4)⟩))
      . refine .inr (.inr (.inr (.inl ⟨a,b,vs,ws,rfl,rfl,s.seqT h1,s.seqT h3,hv,by rw [h2.length,h4.length];exact hl,fun hw=> ?_,fun hw p hp=> ?_⟩)))
        . subst hw
          cases h4
          rw [List.append_nil] at q
          exact q _ _ _ (Ext.refl s) (.tuple h1 h2)
        . exact q _ _ _ (Ext.allocF s hp _) (.tuple (SqT.of upd_same) (Reps.same (Same.upd (s.free hp) _) (Reps.append h2 h4)))
    . cases hz
  . rename_i i j e1 e2
    split at hz
    . rename_i hl
      cases hz
      cases px.atom e1 (fun _ h=>nomatch h)
      cases py.atom e2 (fun _ h=>nomatch h)
      exact .inr (.inr (.inr (.inr ⟨_,_,rfl,rfl,hl,q _ _ _ (Ext.refl s) (.str _)⟩)))
    . cases hz
  . cases hz
theorem de_add(ha:DP X R a fa)(hb:DP X R b fb):DE X R (.BinOp a .Add b pos) (mBin dAdd fa fb):=de_op op_addA opd_add ha hb
noncomputable def dRep(a b:Sl):Option Sl:=match a,b with
  | .own xs, .val (.int k)=>if -(2 ^ 63)<=k/\k<2 ^ 63/\xs.length*k.toNat<=sizeLine then some (.own (List.replicate k.toNat xs).flatten) else none
  | a,b=>dMulI a b
theorem Reps.rep{K:PySem.W.Frag}{H:Hp}{vs:List V}{ds:List PyData}(h:Reps K H vs ds):∀k:Nat,Reps K H (List.replicate k vs).flatten (List.replicate k ds).flatten
  | 0=> .nil
  | k+1=>by
    rw [List.replicate_succ,List.replicate_succ,List.flatten_cons,List.flatten_cons]
    exact Reps.append h (Reps.rep h k)
theorem opd_rep{K:PySem.W.Frag}:OpD K (fun x y H Q=>rRep x y H Q\/rI CMulA (fun i j=> .int (i*j)) x y H Q) dRep:=fun H0 H x y sx sy z s px py hz Q q=>by
  unfold dRep at hz
  split at hz
  . split at hz
    . rename_i hl
      cases hz
      obtain ⟨a,vs,rfl,h1,h2⟩:=px
      exact .inl ⟨a,_,vs,rfl,py.int,h1,hl.1,hl.2.1,by rw [h2.length];exact hl.2.2,fun p hp=>q _ _ _ (Ext.alloc s hp _) ⟨p,_,rfl,hp,s.free hp,upd_same,Reps.rep h2 _⟩⟩
    . cases hz
  . exact .inr (opd_iopC H0 H x y _ _ z s px py hz Q q)
theorem de_mul(ha:DP X R a fa)(hb:DP X R b fb):DE X R (.BinOp a .Mult b pos) (mBin dRep fa fb):=de_op (op_rep.or op_mulA) opd_rep ha hb
theorem de_neg(ha:DP X R a fa):DE X R (.UnaryOp .USub a pos) (mUn (iun fun i=> -i) fa):=by
  obtain ⟨ta,h1,h2⟩:=ha
  exact ⟨_,pe_un un_neg h1,re_un und_iun h2⟩
theorem de_cmp{o:CmpOp}{r:R2}{op:Sl->Sl->Option Sl}(ho:OpR X (compareOp o) r)(hd:OpD X.K r op)(ha:DP X R a fa)(hb:DP X R b fb)(hm:behindInMarks o b=false):DE X R (.Compare a [o] [b] pos) (mBin op fa fb):=by
  obtain ⟨ta,h1,h2⟩:=ha
  obtain ⟨tb,h3,h4⟩:=hb
  exact ⟨_,pe_cmpR ho h1 h3 hm,re_bin hd h2 h4⟩
theorem dt_cmp{o:CmpOp}{r:R2}{op:Sl->Sl->Option Sl}(ho:OpR X (compareOp o) r)(hd:OpD X.K r op)(ha:DP X R a fa)(hb:DP X R b fb)(hm:behindInMarks o b=false):DT X R (.Compare a [o] [b] pos) (mTest (mBin op fa fb)):=by
  obtain ⟨ta,h1,h2⟩:=ha
  obtain ⟨tb,h3,h4⟩:=hb
  exact ⟨_,pt_cmpR ho h1 h3 hm,rt_test (re_bin hd h2 h4).rp⟩
def dLt:Sl->Sl->Option Sl:=icmp fun i j=>decide (i<j)
def dLe:Sl->Sl->Option Sl:=icmp fun i j=>decide (i<=j)
def dGt:Sl->Sl->Option Sl:=icmp fun i j=>decide (j<i)
def dGe:Sl->Sl->Option Sl:=icmp fun i j=>decide (j<=i)
theorem de_lt(ha:DP X R a fa)(hb:DP X R b fb):DE X R (.Compare a [.Lt] [b] pos) (mBin dLt fa fb):=de_cmp op_lt opd_icmp ha hb (nomark _)
theorem de_eq(hu:X.A.units+64<cLine)(ha:DP X R a fa)(hb:DP X R b fb):DE X R (.Compare a [.Eq] [b] pos) (mBin deq fa fb):=de_cmp (op_eqD hu) opd_eq ha hb (nomark _)
theorem dt_lt(ha:DP X R a fa)(hb:DP X R b fb):DT X R (.Compare a [.Lt] [b] pos) (mTest (mBin dLt fa fb)):=dt_cmp op_lt opd_icmp ha hb (nomark _)
theorem dt_eq(hu:X.A.units+64<cLine)(ha:DP X R a fa)(hb:DP X R b fb):DT X R (.Compare a [.Eq] [b] pos) (mTest (mBin deq fa fb)):=dt_cmp (op_eqD hu) opd_eq ha hb (nomark _)
theorem dt_ne(hu:X.A.units+64<cLine)(ha:DP X R a fa)(hb:DP X R b fb):DT X R (.Compare a [.NotEq] [b] pos) (mTest (mBin dne fa fb)):=dt_cmp (op_neD hu) opd_ne ha hb (nomark _)
theorem dt_isN(ha:DP X R a fa)(hb:DP X R b fb):DT X R (.Compare a [.Is] [b] pos) (mTest (mBin disN fa fb)):=dt_cmp op_isN opd_isN ha hb (nomark _)
theorem dt_val(h:DP X R e f)(he:∀whole,isTrue e X.env whole=(do let v <-whole;standAt e.pos;holding [v] (truthy v)):=by intro _;rfl):DT X R e (mTest f):=by
  obtain ⟨t,h1,h2⟩:=h
  exact ⟨_,pt_val h1 he,rt_b h2⟩
variable {ft gt:En->Option Bool} {rest:List Expr}
theorem dt_w(h:DW X R e ft):DT X R e ft:=by obtain ⟨t,h1,h2⟩:=h;exact ⟨t,h1.pt,h2⟩
theorem dw_or1(h:DT X R a ft):DW X R (.BoolOp .Or [a] pos) ft:=by obtain ⟨t,h1,h2⟩:=h;exact ⟨t,pw_or1 h1,h2⟩
theorem dw_or(h:DT X R a ft)(k:DW X R (.BoolOp .Or (b::rest) pos) gt):DW X R (.BoolOp .Or (a::b::rest) pos) (mOr ft gt):=by obtain ⟨t,h1,h2⟩:=h;obtain ⟨u,h3,h4⟩:=k;exact ⟨_,pw_or h1 h3,rt_or h2 h4⟩
theorem dt_not(h:DT X R a ft):DT X R (.UnaryOp .Not a pos) (mNot ft):=by obtain ⟨t,h1,h2⟩:=h;exact ⟨_,pt_not h1,rt_not h2⟩
theorem de_ix(ha:DP X R a fa)(hb:DP X R b fb)(hs:PlainIx b:=by intro _ _;rfl):DE X R (.Subscript a b pos) (mBin dix fa fb):=by
  obtain ⟨ta,h1,h2⟩:=ha
  obtain ⟨tb,h3,h4⟩:=hb
  exact ⟨_,pe_ix ix_seq h1 h3 hs,re_bin opd_ix h2 h4⟩
variable {lo hi:Option Expr} {fl fh:En->Option (Option Int)} {p2:Pos}
theorem do_none:DO X R none mNoPart:=⟨_,po_none,ro_none⟩
theorem do_some(h:DP X R e f):DO X R (some e) (mPart f):=by obtain ⟨t,h1,h2⟩:=h;exact ⟨_,po_some h1,ro_some h2⟩
theorem de_sl(h:DP X R e f)(hl:DO X R lo fl)(hh:DO X R hi fh):DE X R (.Subscript e (.Slice lo hi none p2) pos) (mSl f fl fh):=by
  obtain ⟨t,h1,h2⟩:=h;obtain ⟨u,h3,h4⟩:=hl;obtain ⟨v,h5,h6⟩:=hh
  exact ⟨_,pe_slice (sl_list.or sl_tup) h1 h3 h5,re_sl h2 h4 h6⟩
variable {es:List Expr} {fs:En->Option (List PyData)} {fq:En->Option (List Sl)}
theorem da_nil:DA X R [] mNil:=⟨_,pa_nil,ra_nil⟩
theorem da_cons(h:DE X R e f)(k:DA X R es fs)(hs:starEach (e::es) X.env=(false,eval e X.env)::starEach es X.env:=by rfl):DA X R (e::es) (mCons f fs):=by obtain ⟨t,h1,h2⟩:=h;obtain ⟨u,h3,h4⟩:=k;exact ⟨_,pa_cons h1 h3 hs,ra_cons h2 h4⟩
theorem dq_nil:DQ X R [] mNilP:=⟨_,pa_nil,rq_nil⟩
theorem dq_cons(h:DP X R e f)(k:DQ X R es fq)(hs:starEach (e::es) X.env=(false,eval e X.env)::starEach es X.env:=by rfl):DQ X R (e::es) (mConsP f fq):=by obtain ⟨t,h1,h2⟩:=h;obtain ⟨u,h3,h4⟩:=k;exact ⟨_,pa_cons h1 h3 hs,rq_cons h2 h4⟩
theorem de_tup{x1}(h:DA X R es fs):DE X R (.Tuple es x1 pos) (mTup fs):=by obtain ⟨t,h1,h2⟩:=h;exact ⟨_,pe_tup h1,re_tup h2⟩
theorem de_lst(h:DA X R es fs):DE X R (.List es pos) (mLst fs):=by obtain ⟨t,h1,h2⟩:=h;exact ⟨_,pe_lst h1,re_lst h2⟩
theorem de_call {k j : Nat} {x : Str} {ps : List Str} {F : List PyData -> Option Sl} (D : Tf.Def X.prog X.w X.K X.mg X.base j x ps (spD X.K F)) (hr : Room k X.A) (h : DA X R (e :: es) fs) (hj : j <= k := by decide) (hg : Gl X x := by rfl)
    (hdb:(x==("__debug__" : Str))=false:=by decide) (he:starEach (e::es) X.env=(false,eval e X.env)::starEach es X.env:=by rfl) (hpl:(backTo pos (starEach es X.env)).any (·.1)=false:=by rfl):DE X R (.Call (.Name x p) (e::es) [] pos) (mCall F fs):=by
  obtain ⟨t,h1,h2⟩:=h
  exact ⟨_,pe_callD D hr h1 hj hg hdb he hpl,re_call h2⟩
theorem de_blt {x : Str} {id : String} {r : List V -> Hp -> VK -> Prop} {F : List Sl -> Option Sl} (hc : CallR X (.builtin id) r) (hd : CallD X.K r F) (hv : bootBuiltins x = some (.builtin id)) (hm : X.mg x = none) (h : DQ X R (e :: es) fq) (hg : Gl X x := by rfl) (hn : x ≠ "__name__" := by decide) (hdb : (x == ("__debug__" : Str)) = false := by decide)
    (he:starEach (e::es) X.env=(false,eval e X.env)::starEach es X.env:=by rfl) (hpl:(backTo pos (starEach es X.env)).any (·.1)=false:=by rfl):DE X R (.Call (.Name x p) (e::es) [] pos) (mCallP F fq):=by
  obtain ⟨t,h1,h2⟩:=h
  exact ⟨_,pe_callB hc hg hm hv h1 hn hdb he hpl,re_callB hd h2⟩
theorem de_ty {x : Str} {id : String} {r : List V -> Hp -> VK -> Prop} {F : List Sl -> Option Sl} (hc : CallR X (.type id) r) (hd : CallD X.K r F) (hv : bootBuiltins x = some (.type id)) (hm : X.mg x = none) (h : DQ X R (e :: es) fq) (hg : Gl X x := by rfl) (hn : x ≠ "__name__" := by decide) (hdb : (x == ("__debug__" : Str)) = false := by decide)
    (he:starEach (e::es) X.env=(false,eval e X.env)::starEach es X.env:=by rfl) (hpl:(backTo pos (starEach es X.env)).any (·.1)=false:=by rfl):DE X R (.Call (.Name x p) (e::es) [] pos) (mCallP F fq):=by
  obtain ⟨t,h1,h2⟩:=h
  exact ⟨_,pe_callTy hc hg hm hv h1 hn hdb he hpl,re_callB hd h2⟩
def GlobC(K:PySem.W.Frag)(mg:Str->Option Value)(x:Str)(d:PyData):Prop:=∃v u,mg x=some u/\RelV v u/\∀H0:Hp,Rep K H0 v d
theorem de_globC {x:Str} {d:PyData} (h:GlobC X.K X.mg x d) (hg:Gl X x:=by rfl) (hd:(x==("__debug__" : Str))=false:=by decide):DE X R (.Name x pos) (mK d):=by
  obtain ⟨v,u,h1,h2,h3⟩:=h
  exact de_glob h1 h2 h3 hg hd
theorem pr_sub{K:PySem.W.Frag}{ix:List (Option Nat)}(hx:(ix.filterMap id).Nodup:=by decide):∀(HB:Hp) (σ:L2.St) (ρ:En) (H0 H:Hp),(PR K).r HB H0 H σ ρ->(PR K).r (fun _=>none) H0 H (subS ix σ) (subE ix ρ):=fun HB σ ρ H0 H e=>ER.sub hx e
variable {st:Stmt} {sts:List Stmt} {gs gs':En->Option Out} {x y:Str} {pos':Pos} {i j:Nat}
theorem dss_nil:DSs X R [] mNext:=⟨_,pss_nil,rs_next⟩
theorem dss_one(h:DS X R st gs):DSs X R [st] gs:=by obtain ⟨t,h1,h2⟩:=h;exact ⟨_,pss_one h1,h2⟩
theorem dss_cons(h:DS X R st gs)(k:DSs X R sts gs'):DSs X R (st::sts) (mSeq gs gs'):=by obtain ⟨t,h1,h2⟩:=h;obtain ⟨u,h3,h4⟩:=k;exact ⟨_,pss_cons h1 h3,rs_seq h2 h4⟩
theorem ds_frz(i:Nat)(h:DS X R st gs)(hsl:R.slot i:=by first | exact True.intro | exact ⟨of_decide_eq_true rfl,of_decide_eq_true rfl⟩):DS X R st (mFrz i gs):=by obtain ⟨t,h1,h2⟩:=h;exact ⟨_,h1,rs_frz i hsl h2⟩
theorem ds_set (i : Nat) (h : DE X R e f) (hN : X.N.Nodup) (hi : X.N[i]? = some x := by rfl) (hx : Loc X.env.scope x := by first | exact Or.inl rfl | exact Or.inr rfl) (hs : swapsWith e (some (.Name x pos')) pos.line X.env = pure false := by rfl) (hf : X.fn x = true \/ X.env.scope.names.lookup x = some .local := by first | exact .inl rfl | exact .inr rfl) (hsl : R.slot i := by first | exact True.intro | exact ⟨of_decide_eq_true rfl, of_decide_eq_true rfl⟩) :
    DS X R (.Assign [.Name x pos'] e pos) (mAsg i f):=by obtain ⟨t,h1,h2⟩:=h;exact ⟨_,ps_set hN hi hx h1 hs hf,rs_asg hsl h2⟩
theorem ds_ret(h:DE X R e f):DS X R (.Return (some e) pos) (mRet f):=by obtain ⟨t,h1,h2⟩:=h;exact ⟨_,ps_ret h1,rs_ret h2⟩
theorem ds_retV (i : Nat) (hN : X.N[i]? = some x := by rfl) (hv : Vis X.env.scope x := by first | exact Or.inl rfl | exact Or.inr (Or.inl rfl) | exact Or.inr (Or.inr rfl)) (hd : (x == ("__debug__" : Str)) = false := by decide)
    (hcd:(x==("__classdict__" : Str))=false:=by decide) (hsl:R.slot i:=by first | exact True.intro | exact ⟨of_decide_eq_true rfl,of_decide_eq_true rfl⟩):DS X R (.Return (some (.Name x pos')) pos) (mRet (mPk i)):=⟨_,ps_ret (pe_var hN hv hd hcd),rs_retV i hsl⟩
theorem ds_retN:DS X R (.Return none pos) mRetN:=⟨_,ps_retN,rs_retN⟩
theorem ds_if{A B:List Stmt}(hc:DT X R c ft)(h:DSs X R A gs)(k:DSs X R B gs'):DS X R (.If c A B pos) (mIf ft gs gs'):=by obtain ⟨t,h1,h2⟩:=hc;obtain ⟨u,h3,h4⟩:=h;obtain ⟨v,h5,h6⟩:=k;exact ⟨_,ps_if h1 h3 h5,rs_if h2 h4 h6⟩
theorem ds_while(hp:PassesOwn (model X.prog X.w) X.A X.env X.xe)(hc:DT X R c ft)(h:DSs X R sts gs):DS X R (.While c sts [] pos) (mWhile ft gs):=by obtain ⟨t,h1,h2⟩:=hc;obtain ⟨u,h3,h4⟩:=h;exact ⟨_,ps_while hp h1 h3,rs_while h2 h4⟩
variable {tg:Expr} {fi:En->Option (List PyData)} {fg:PyData->En->Option En} {gg:List (PyData->En->Option En)}
theorem ds_for(hp:PassesOwn (model X.prog X.w) X.A X.env X.xe)(hi:DI X R tg e fi)(hg:DG X R tg fg)(h:DSs X R sts gs)(hc:X.calm=true:=by rfl)(hs:∀x,foldedSetIterable e X.env x=pure x:=by intro _;rfl):DS X R (.For tg e sts [] pos) (mFor fi fg gs):=by
  obtain ⟨t,h1,h2⟩:=hi;obtain ⟨u,h3,h4⟩:=hg;obtain ⟨v,h5,h6⟩:=h;exact ⟨_,ps_for hp hc h1 h3 h5 hs,rs_for h2 h4 h6⟩
theorem dg_name(i:Nat)(hN:X.N.Nodup)(hi:X.N[i]? = some x:=by rfl)(hx:Loc X.env.scope x:=by first | exact Or.inl rfl | exact Or.inr rfl)(hf:X.fn x=true\/X.env.scope.names.lookup x=some .local:=by first | exact .inl rfl | exact .inr rfl)(hsl:R.slot i:=by first | exact True.intro | exact ⟨of_decide_eq_true rfl,of_decide_eq_true rfl⟩):DG X R (.Name x pos) (gVar i):=⟨_,pg_name hN hi hx hf,rg_name i hsl⟩
theorem dgs_nil:DGs X R [] []:=⟨_,pgs_nil,rgs_nil⟩
theorem dgs_cons(h:DG X R e fg)(k:DGs X R es gg)(hs:(assignEach (e::es) X.env).map (·.2)=assign e X.env::(assignEach es X.env).map (·.2):=by rfl):DGs X R (e::es) (fg::gg):=by obtain ⟨t,h1,h2⟩:=h;obtain ⟨u,h3,h4⟩:=k;exact ⟨_,pgs_cons h1 h3 hs,rgs_cons h2 h4⟩
theorem dg_tup{k}{n:Nat}(h:DGs X R es gg)(hl:n=gg.length:=by rfl)(hc:X.calm=true:=by rfl)(hn:(assignEach es X.env).length=n:=by rfl)(hst:(assignEach es X.env).findIdx? (·.1)=none:=by rfl):DG X R (.Tuple es k pos) (gTupD gg):=by
  obtain ⟨t,h1,h2⟩:=h;exact ⟨_,pg_tup hc h1 hn hst,rg_tup hl h2⟩
theorem di_list(h:DE X R e f):DI X R tg e (mItems f):=by obtain ⟨t,h1,h2⟩:=h;exact ⟨_,pi_list h1,ri_list h2⟩
theorem di_range1 (hm:X.mg "range" = none) (h:DQ X R [a] fq) (hg:Gl X "range" :=by rfl) (hs:starEach [a] X.env = [(false,eval a X.env)]:=by rfl):DI X R tg (.Call (.Name "range" p) [a] [] pos) (mRng1 fq):=by obtain ⟨t,h1,h2⟩:=h;exact ⟨_,pi_range1 hg hm h1 hs,ri_range1 h2⟩
theorem di_range2 (hm:X.mg "range" = none) (h:DQ X R [a,b] fq) (hg:Gl X "range" :=by rfl) (hs:starEach [a,b] X.env = [(false,eval a X.env),(false,eval b X.env)]:=by rfl) (hs2:starEach [b] X.env = [(false,eval b X.env)]:=by rfl):DI X R tg (.Call (.Name "range" p) [a,b] [] pos) (mRng2 fq):=by
  obtain ⟨t,h1,h2⟩:=h;exact ⟨_,pi_range2 hg hm h1 hs hs2,ri_range2 h2⟩
theorem di_rangeD (hm:X.mg "range" = none) (h:DQ X R [a,b,c] fq) (hg:Gl X "range" :=by rfl) (hs:starEach [a,b,c] X.env=(false,eval a X.env)::starEach [b,c] X.env:=by rfl) (hs2:(backTo pos (starEach [b,c] X.env)).any (·.1)=false:=by rfl):DI X R tg (.Call (.Name "range" p) [a,b,c] [] pos) (mRngD fq):=by
  obtain ⟨t,h1,h2⟩:=h;exact ⟨_,pi_rangeD hg hm h1 hs hs2,ri_rangeD h2⟩
theorem di_zip {elts:List Expr} {k} {tp:Pos} (hm:X.mg "zip" = none) (h:DA X R [a,b] fs) (hg:Gl X "zip" :=by rfl) (hs:starEach [a,b] X.env = [(false,eval a X.env),(false,eval b X.env)]:=by rfl) (hs2:starEach [b] X.env = [(false,eval b X.env)]:=by rfl):DI X R (.Tuple elts k tp) (.Call (.Name "zip" p) [a,b] [] pos) (mZip fs):=by
  obtain ⟨t,h1,h2⟩:=h;exact ⟨_,pi_zip hg hm h1 hs hs2,ri_zip h2⟩
theorem ds_asgT(h:DE X R e f)(hg:DG X R tg fg)(hs:swapsWithSole [tg] e pos.line X.env=pure false:=by rfl)(hw:swappedStores [tg] e X.env=pure none:=by rfl)(h1:(assignEach [tg] X.env).map (·.2) = [assign tg X.env]:=by rfl):DS X R (.Assign [tg] e pos) (mAsgT fg f):=by
  obtain ⟨t,a1,a2⟩:=h;obtain ⟨u,b1,b2⟩:=hg;exact ⟨_,ps_asg a1 b1 hs hw h1,rs_asgT a2 b2⟩
theorem ds_par (i j : Nat) {px py pt : Pos} {kt k2 pt2} (h : DA X R [a, b] fs) (hN : X.N.Nodup) (hi : X.N[i]? = some x := by rfl) (hj : X.N[j]? = some y := by rfl) (hij : i ≠ j := by decide)
    (hx:X.env.scope.names.lookup x=some .local:=by rfl) (hy:X.env.scope.names.lookup y=some .local:=by rfl)
    (hw:swappedStores [.Tuple [.Name x px, .Name y py] kt pt] (.Tuple [a,b] k2 pt2) X.env=pure (some [x,y]):=by rfl)
    (hs:swapsWithSole [.Tuple [.Name x px, .Name y py] kt pt] (.Tuple [a,b] k2 pt2) pos.line X.env=pure false:=by rfl) (hc:X.calm=true:=by rfl) (hsi:R.slot i:=by first | exact True.intro | exact ⟨of_decide_eq_true rfl,of_decide_eq_true rfl⟩) (hsj:R.slot j:=by first | exact True.intro | exact ⟨of_decide_eq_true rfl,of_decide_eq_true rfl⟩):DS X R (.Assign [.Tuple [.Name x px, .Name y py] kt pt] (.Tuple [a,b] k2 pt2) pos) (mPar i j fs):=by
  obtain ⟨t,h1,h2⟩:=h;exact ⟨_,ps_par hc hN hi hj hij hx hy h1 hw hs,rs_par hsi hsj h2⟩
theorem ds_setI (i : Nat) {px ps : Pos} (h : DE X R e f) (hj : DP X R a fa) (hN : X.N[i]? = some x := by rfl) (hv : Vis X.env.scope x := by first | exact Or.inl rfl | exact Or.inr (Or.inl rfl) | exact Or.inr (Or.inr rfl)) (hd : (x == ("__debug__" : Str)) = false := by decide) (hcd : (x == ("__classdict__" : Str)) = false := by decide)
    (ha:∀v,assign (.Subscript (.Name x px) a ps) X.env v=(do
      let ov <-holding [v] (eval (.Name x px) X.env)
      let iv <-holding [v,ov] (eval a X.env)
      standAt ps
      holding [v,ov,iv] (setItem ov iv v)
      release [v,ov,iv] []):=by intro _;rfl)
    (hs:swapsWithSole [.Subscript (.Name x px) a ps] e pos.line X.env=pure false:=by rfl) (hw:swappedStores [.Subscript (.Name x px) a ps] e X.env=pure none:=by rfl) (h1:(assignEach [.Subscript (.Name x px) a ps] X.env).map (·.2) = [assign (.Subscript (.Name x px) a ps) X.env]:=by rfl) (hsl:R.slot i:=by first | exact True.intro | exact ⟨of_decide_eq_true rfl,of_decide_eq_true rfl⟩) :
    DS X R (.Assign [.Subscript (.Name x px) a ps] e pos) (mSet i fa f):=by
  obtain ⟨t,a1,a2⟩:=h;obtain ⟨u,b1,b2⟩:=hj
  exact ⟨_,ps_asg a1 (pg_sub (pe_var hN hv hd hcd) b1 set_list ha) hs hw h1,rs_set hsl a2 b2⟩
theorem cx_scope1{CX:CXT}{P:Program}{w:World}{K:PySem.W.Frag}{mg:Str->Option Value}{base:Heap}{N:List Str}{qual:Str}{scope:Scope}{f:Addr}{cd:Value}{A:Around}{outer:List Env}{s:Shared}{H:Hp}{E:XK}:(cxOf CX P w K mg base N qual scope f cd A outer s H E).nox.env.scope=scope:=rfl
theorem cx_names1{CX:CXT}{P:Program}{w:World}{K:PySem.W.Frag}{mg:Str->Option Value}{base:Heap}{N:List Str}{qual:Str}{scope:Scope}{f:Addr}{cd:Value}{A:Around}{outer:List Env}{s:Shared}{H:Hp}{E:XK}:(cxOf CX P w K mg base N qual scope f cd A outer s H E).nox.N=N:=rfl
theorem cxC_names{X:Cx}{osc sc:Scope}{N':List Str}{b:CB}:(cxC X osc sc N' b).N=N':=rfl
theorem cxC_scope{X:Cx}{osc sc:Scope}{N':List Str}{b:CB}:(cxC X osc sc N' b).env.scope=relabelS sc osc:=rfl
def GKm(S:Nat->Bool)(g:TG):Prop:=∀v σ H Q Q',g v σ H Q->(∀σ' H',Q σ' H'->σ'.length=σ.length->(∀i:Nat,S i=false->σ'[i]? = σ[i]?)->Q' σ' H')->g v σ H Q'
def GKs(S:Nat->Bool)(g:TGs):Prop:=∀v σ H Q Q',g v σ H Q->(∀σ' H',Q σ' H'->σ'.length=σ.length->(∀i:Nat,S i=false->σ'[i]? = σ[i]?)->Q' σ' H')->g v σ H Q'
theorem GKm.gk{S:Nat->Bool}{t:TG}(h:GKm S t):GK S t:=fun v σ H Q q=>h v σ H Q _ q fun _ _ a b c=>⟨a,b,c⟩
theorem gkm_name{S:Nat->Bool}{i:Nat}(h:S i=true):GKm S (gName i):=fun v σ H Q Q' q k=>k _ _ q (List.length_set ..) fun j hj=>by
  rw [List.getElem?_set_ne]
  intro e
  subst e
  rw [h] at hj
  cases hj
theorem gks_nil{S:Nat->Bool}:GKs S gNil:=fun v σ H Q Q' q k=>⟨q.1,k _ _ q.2 rfl fun _ _=>rfl⟩
theorem gks_cons{S:Nat->Bool}{t:TG}{u:TGs}(h:GKm S t)(k:GKs S u):GKs S (gCons t u):=fun v σ H Q Q' q w=>by
  obtain ⟨x,r,e,q⟩:=q
  refine ⟨x,r,e,h x σ H _ _ q fun σ' H' q' l1 k1=>k r σ' H' _ _ q' fun σ2 H2 q2 l2 k2=>w σ2 H2 q2 (l2.trans l1) fun i hi=>(k2 i hi).trans (k1 i hi)⟩
theorem gkm_tup{S:Nat->Bool}{u:TGs}{K:PySem.W.Frag}{n:Nat}(k:GKs S u):GKm S (gTup K n u):=fun v σ H Q Q' q w=>by
  obtain ⟨a,xs,e,h1,h2,q⟩:=q
  exact ⟨a,xs,e,h1,h2,k xs σ H _ _ q w⟩
def DGk(X:Cx)(R:Rl)(S:Nat->Bool)(e:Expr)(g:PyData->En->Option En):Prop:=∃t,PG X e t/\RG X.K R t g/\GKm S t
def DGks(X:Cx)(R:Rl)(S:Nat->Bool)(es:List Expr)(gs:List (PyData->En->Option En)):Prop:=∃t,PGs X es t/\RGs X.K R t gs/\GKs S t
def DTs(X:Cx)(R:Rl)(ifs:List Expr)(f:En->Option Bool):Prop:=∃tt,PTs X ifs tt/\RT X.K R tt f
theorem dts_nil:DTs X R [] mYes:=⟨_,pts_nil,rt_yes⟩
theorem dgk_name{S:Nat->Bool}(i:Nat)(hN:X.N.Nodup)(hS:S i=true:=by rfl)(hi:X.N[i]? = some x:=by rfl)(hx:Loc X.env.scope x:=by first | exact Or.inl rfl | exact Or.inr rfl)(hf:X.fn x=true\/X.env.scope.names.lookup x=some .local:=by first | exact .inl rfl | exact .inr rfl)(hsl:R.slot i:=by first | exact True.intro | exact ⟨of_decide_eq_true rfl,of_decide_eq_true rfl⟩):DGk X R S (.Name x pos) (gVar i):=⟨_,pg_name hN hi hx hf,rg_name i hsl,gkm_name hS⟩
theorem dgks_nil{S:Nat->Bool}:DGks X R S [] []:=⟨_,pgs_nil,rgs_nil,gks_nil⟩
theorem dgks_cons{S:Nat->Bool}(h:DGk X R S e fg)(k:DGks X R S es gg)(hs:(assignEach (e::es) X.env).map (·.2)=assign e X.env::(assignEach es X.env).map (·.2):=by rfl):DGks X R S (e::es) (fg::gg):=by obtain ⟨t,h1,h2,h5⟩:=h;obtain ⟨u,h3,h4,h6⟩:=k;exact ⟨_,pgs_cons h1 h3 hs,rgs_cons h2 h4,gks_cons h5 h6⟩
theorem dgk_tup{S:Nat->Bool}{k}{n:Nat}(h:DGks X R S es gg)(hl:n=gg.length:=by rfl)(hc:X.calm=true:=by rfl)(hn:(assignEach es X.env).length=n:=by rfl)(hst:(assignEach es X.env).findIdx? (·.1)=none:=by rfl):DGk X R S (.Tuple es k pos) (gTupD gg):=by
  obtain ⟨t,h1,h2,h3⟩:=h;exact ⟨_,pg_tup hc h1 hn hst,rg_tup hl h2,gkm_tup h3⟩
variable {osc sc:Scope} {N':List Str} {ix:List (Option Nat)} {ifs:List Expr} {elt iter:Expr} {fe:En->Option Sl}
theorem de_lc {N : List Str} (ho : X.env.scope = osc) (hN : X.N = N) (ix : List (Option Nat)) (sb : En -> En) (hx : ∀ (HB : Hp) (σ : L2.St) (ρ : En) (H0 H : Hp), R.r HB H0 H σ ρ -> R'.r (fun _ => none) H0 H (subS ix σ) (sb ρ)) (hi : DI X R tg iter fi) (hg : ∀ b : CB, DGk (cxC X osc sc N' b) R' (slotS ix) tg fg) (ht : ∀ b : CB, DTs (cxC X osc sc N' b) R' ifs ft) (he : ∀ b : CB, DE (cxC X osc sc N' b) R' elt fe)
    (hcs:csOk osc sc N N' ix=true:=by decide +kernel) (hc:X.calm=true:=by rfl)
    (hs:∀x,foldedSetIterable iter X.env x=pure x:=by intro _;rfl):DE X R (.ListComp elt [⟨tg,iter,ifs,0⟩] sc pos) (mLC sb fi fg ft fe):=by
  obtain ⟨wi,h1,h2⟩:=hi
  exact ⟨_,pe_lc (g:=fun b=>(hg b).choose) (tt:=fun b=>(ht b).choose) (te:=fun b=>(he b).choose) hc ho hN hcs h1 (fun b=>⟨(hg b).choose_spec.1,(ht b).choose_spec.1,(he b).choose_spec.1⟩) (fun b=>(hg b).choose_spec.2.2.gk) hs,
    re_lc hx h2 (fun b=>(hg b).choose_spec.2.1) (fun b=>(ht b).choose_spec.2) (fun b=>(he b).choose_spec.2)⟩
theorem ds_setC {N : List Str} (ho : X.env.scope = osc) (hN : X.N = N) (i : Nat) (ix : List (Option Nat)) (sb : En -> En) (hx : ∀ (HB : Hp) (σ : L2.St) (ρ : En) (H0 H : Hp), R.r HB H0 H σ ρ -> R'.r (fun _ => none) H0 H (subS ix σ) (sb ρ)) {py spos : Pos} (hnd : X.N.Nodup) (hi : DI X R tg iter fi) (hg : ∀ b : CB, DGk (cxC X osc sc N' b) R' (slotS ix) tg fg) (ht : ∀ b : CB, DTs (cxC X osc sc N' b) R' ifs ft) (he : ∀ b : CB, DE (cxC X osc sc N' b) R' elt fe)
    (hi':X.N[i]? = some y:=by rfl) (hy:X.env.scope.names.lookup y=some .local:=by rfl) (hsw:swapsWith (.ListComp elt [⟨tg,iter,ifs,0⟩] sc pos) (some (.Name y py)) spos.line X.env=pure true:=by rfl)
    (hcs:csOk osc sc N N' ix=true:=by decide +kernel) (hc:X.calm=true:=by rfl)
    (hs:∀x,foldedSetIterable iter X.env x=pure x:=by intro _;rfl) (hsl:R.slot i:=by first | exact True.intro | exact ⟨of_decide_eq_true rfl,of_decide_eq_true rfl⟩):DS X R (.Assign [.Name y py] (.ListComp elt [⟨tg,iter,ifs,0⟩] sc pos) spos) (mAsg i (mLC sb fi fg ft fe)):=by
  obtain ⟨wi,h1,h2⟩:=hi
  exact ⟨_,ps_setC (g:=fun b=>(hg b).choose) (tt:=fun b=>(ht b).choose) (te:=fun b=>(he b).choose) hnd hi' hy hsw hc ho hN hcs h1 (fun b=>⟨(hg b).choose_spec.1,(ht b).choose_spec.1,(he b).choose_spec.1⟩) (fun b=>(hg b).choose_spec.2.2.gk) hs,
    rs_asgC hsl (re_lc hx h2 (fun b=>(hg b).choose_spec.2.1) (fun b=>(ht b).choose_spec.2) (fun b=>(he b).choose_spec.2))⟩
end
end Dm
namespace Dm
open PySem PySem.Spec PyProof.Rows L2 Tf
def cnt:L2.St->Nat
  | []=>0
  | none::r=>cnt r
  | some _::r=>cnt r+1
theorem cnt_le:∀l:L2.St,cnt l<=l.length
  | []=>Nat.le_refl _
  | none::r=>Nat.le_succ_of_le (cnt_le r)
  | some _::r=>Nat.succ_le_succ (cnt_le r)
theorem cnt_some:∀ {l:L2.St} {j:Nat} {u v:V},l[j]? = some (some u)->cnt (l.set j (some v))=cnt l
  | [],_,_,_,h=>by simp at h
  | o::r,0,u,v,h=>by simp at h;subst h;rfl
  | o::r,j+1,u,v,h=>by
    have:=cnt_some (l:=r) (j:=j) (u:=u) (v:=v) (by simpa using h)
    cases o <;> simp [cnt,this]
theorem cnt_none:∀ {l:L2.St} {j:Nat} {v:V},l[j]? = some none->cnt (l.set j (some v))=cnt l+1
  | [],_,_,h=>by simp at h
  | o::r,0,v,h=>by simp at h;subst h;rfl
  | o::r,j+1,v,h=>by
    have:=cnt_none (l:=r) (j:=j) (v:=v) (by simpa using h)
    cases o <;> simp [cnt,this]
structure OA (C:Addr) (names:List Str) (HB H0 H:Hp) (p:Addr) (vals:L2.St):Prop where
  hp:HB p=none
  h0p:H0 p=none
  len:vals.length=names.length
  ins:∃dx fs,H p=some (.ins C dx fs)/\fs.length<=cnt vals/\(∀(j:Nat) f,names[j]? = some f->fs.lookup f=(vals[j]?).join)/\∀f,f ∉ names->fs.lookup f=none
section
variable {K:PySem.W.Frag} {C:Addr} {names:List Str}
theorem OA.ext{HB H0 H H0' H':Hp}{p:Addr}{vals:L2.St}(x:Ext H0 H H0' H')(o:OA C names HB H0 H p vals):OA C names HB H0' H' p vals:=by
  obtain ⟨dx,fs,h1,h2⟩:=o.ins
  exact ⟨o.hp,x.own p _ h1 o.h0p,o.len,dx,fs,x.s _ _ h1,h2⟩
theorem OA.other{HB H0 H:Hp}{p a:Addr}{vals:L2.St}{vs:List V}{u:HO}(o:OA C names HB H0 H p vals)(h:H a=some (.lst vs)):OA C names HB H0 (upd H a u) p vals:=by
  obtain ⟨dx,fs,h1,h2⟩:=o.ins
  have hne:p≠a:=by rintro rfl;rw [h1] at h;cases h
  exact ⟨o.hp,o.h0p,o.len,dx,fs,by rw [upd_ne hne];exact h1,h2⟩
theorem OA.frz{HB H0 H:Hp}{p a:Addr}{vals:L2.St}{vs:List V}{u:HO}(o:OA C names HB H0 H p vals)(h:H a=some (.lst vs)):OA C names HB (upd H0 a u) H p vals:=by
  obtain ⟨dx,fs,h1,h2⟩:=o.ins
  have hne:p≠a:=by rintro rfl;rw [h1] at h;cases h
  exact ⟨o.hp,by rw [upd_ne hne];exact o.h0p,o.len,dx,fs,h1,h2⟩
theorem OA.base{HB HB' H0 H:Hp}{p:Addr}{vals:L2.St}(s:Same HB HB')(o:OA C names HB' H0 H p vals):OA C names HB H0 H p vals:=⟨s.free o.hp,o.h0p,o.len,o.ins⟩
theorem ER.base{HB HB' H0 H:Hp}{σ:L2.St}{ρ:En}(s:Same HB HB')(e:ER K HB' H0 H σ ρ):ER K HB H0 H σ ρ:=
  ⟨e.len,fun i r h=>by obtain ⟨v,h1,h2⟩:=e.get i r h;exact ⟨v,h1,h2.base s⟩,e.apart⟩
theorem ER.updO{HB H0 H:Hp}{σ:L2.St}{ρ:En}{p:Addr}{o:HO}(e:ER K HB H0 H σ ρ)(hp:∀vs,H p≠some (.lst vs)):ER K HB H0 (upd H p o) σ ρ:=
  ⟨e.len,fun i r h=>by
    obtain ⟨v,h1,h2⟩:=e.get i r h
    refine ⟨v,h1,?_⟩
    cases r with
    | val d=>exact h2
    | own ds=>
      obtain ⟨a,vs,rfl,q1,q2,q3,q4⟩:=h2
      exact ⟨a,vs,rfl,q1,q2,by rw [upd_ne (by rintro rfl;exact hp _ q3)];exact q3,q4⟩,e.apart⟩
structure OD where
  C:Addr
  names:List Str
  s:Nat
  n:Nat
  p:Addr
def FR(K:PySem.W.Frag)(od:OD):Rl:=
  ⟨fun HB H0 H σ ρ=>σ.length=od.n/\∃p vals,p=od.p/\σ[od.s]? = some (some (.ref p))/\OA od.C od.names HB H0 H p vals/\ER K HB H0 H (σ++vals) ρ,fun i=>i≠od.s/\i<od.n⟩
theorem app_set{σ vals:L2.St}{i:Nat}{v:Option V}(h:i<σ.length):(σ++vals).set i v=σ.set i v++vals:=by
  rw [List.set_append_left _ _ h]
theorem app_setR{σ vals:L2.St}{j:Nat}{v:Option V}:(σ++vals).set (σ.length+j) v=σ++vals.set j v:=by
  rw [List.set_append_right _ _ (Nat.le_add_right _ _),Nat.add_sub_cancel_left]
instance relOk_FR {od:OD}:RelOk K (FR K od) where
  ext:=fun x ⟨h1,p,vals,hpp,h2,h3,h4⟩=>⟨h1,p,vals,hpp,h2,h3.ext x,h4.ext x⟩
  get:=fun ⟨h1,p,vals,hpp,h2,h3,h4⟩ hs h=>by
    obtain ⟨v,e1,e2⟩:=h4.get _ _ h
    rw [List.getElem?_append_left (by rw [h1];exact hs.2)] at e1
    exact ⟨v,e1,e2⟩
  set:=fun {HB H0 H H0' H' σ ρ i v s} ⟨h1,p,vals,hpp,h2,h3,h4⟩ hs x sb h=>by
    refine ⟨by rw [List.length_set];exact h1,p,vals,hpp,by rw [List.getElem?_set_ne hs.1];exact h2,h3.ext x,?_⟩
    have:=h4.set (i:=i) x sb h
    rw [app_set (by rw [h1];exact hs.2)] at this
    exact this
  write:=fun {HB H0 H σ ρ i a ds es vs ys} ⟨h1,p,vals,hpp,h2,h3,h4⟩ hs hi hσ hb h0 ha hr=>by
    refine ⟨h1,p,vals,hpp,h2,h3.other ha,?_⟩
    exact h4.write hi (by rw [List.getElem?_append_left (by rw [h1];exact hs.2)];exact hσ) hb h0 hr
  frz:=fun ⟨h1,p,vals,hpp,h2,h3,h4⟩ _ hi x=>by
    obtain ⟨a,vs,ha,x',e'⟩:=h4.frz hi x
    exact ⟨_,x',h1,p,vals,hpp,h2,h3.frz ha,e'⟩
variable {od:OD}
theorem fld_at {HB H0 H : Hp} {σ : L2.St} {ρ : En} {j : Nat} {f : Str} {r : Sl} (e : ST (FR K od) HB H0 H σ ρ) (hj : od.names[j]? = some f) (h : ρ[od.n + j]? = some (some r)) :
    ∃p dx fs v,σ[od.s]? = some (some (.ref p))/\H p=some (.ins od.C dx fs)/\fs.lookup f=some v/\SlH K HB H0 H v r:=by
  obtain ⟨h1,p,vals,hpp,h2,h3,h4⟩:=e.r
  obtain ⟨v,e1,e2⟩:=h4.get _ _ h
  rw [<-h1,List.getElem?_append_right (Nat.le_add_right _ _),Nat.add_sub_cancel_left] at e1
  obtain ⟨dx,fs,q1,q2,q3,q4⟩:=h3.ins
  exact ⟨p,dx,fs,v,h2,q1,by rw [q3 j f hj,e1];rfl,e2⟩
theorem rp_fld{j:Nat}{f:Str}(hc:Cls K od.C)(hn:NoAttr K od.C f)(hj:od.names[j]? = some f):RP K (FR K od) (tFld K (tVar od.s) f) (mPk (od.n+j)):=fun HB σ ρ H0 H s e r hr Q q=>by
  obtain ⟨p,dx,fs,v,h1,h2,h3,h4⟩:=fld_at e hj (join_some hr)
  exact ⟨.ref p,h1,p,od.C,dx,fs,v,rfl,h2,hc,hn,h3,q v H0 H (Ext.refl s) h4.p⟩
theorem re_fld{j:Nat}{f:Str}(hc:Cls K od.C)(hn:NoAttr K od.C f)(hj:od.names[j]? = some f):RE K (FR K od) (tFld K (tVar od.s) f) (mVar (od.n+j)):=fun HB σ ρ H0 H s e r hr Q q=>by
  unfold mVar at hr
  cases ej:(ρ[od.n+j]?).join with
  | none=>rw [ej] at hr;cases hr
  | some r' =>
    rw [ej] at hr
    cases r' with
    | own _=>cases hr
    | val d=>
      cases hr
      obtain ⟨p,dx,fs,v,h1,h2,h3,h4⟩:=fld_at e hj (join_some ej)
      exact ⟨.ref p,h1,p,od.C,dx,fs,v,rfl,h2,hc,hn,h3,q v H0 H (Ext.refl s) h4⟩
theorem putF_has{f:Str}{v u:V}:∀ {fs:List (Str×V)},fs.lookup f=some u->(putF f v fs).length=fs.length
  | [],h=>by cases h
  | (g,x)::r,h=>by
    show (if g=f then (g,v)::r else (g,x)::putF f v r).length=_
    split
    . rfl
    . rename_i hg
      have:(f==g)=false:=beq_eq_false_iff_ne.mpr fun z=>hg z.symm
      rw [List.lookup,this] at h
      rw [List.length_cons,List.length_cons,putF_has h]
theorem rs_fld {te : TE} {fe : En -> Option Sl} {j : Nat} {f : Str} (hc : Cls K od.C) (hn : NoAttr K od.C f) (hj : od.names[j]? = some f) (hnd : od.names.Nodup) (hlt : od.names.length < 1000) (h : RE K (FR K od) te fe) :
    RS K (FR K od) (sFld K (tVar od.s) te f) (mAsg (od.n+j) fe):=fun HB S0 σ ρ H0 H x e o ho D d=>by
  obtain ⟨r,hr,rfl⟩:=Option.map_eq_some_iff.mp ho
  refine h HB σ ρ H0 H x.s1 e r hr _ fun v H1 J1 x1 p1=> ?_
  obtain ⟨h1,p,vals,hpp,h2,h3,h4⟩:=e.r
  have oa:=h3.ext x1
  obtain ⟨dx,fs,q1,q2,q3,q4⟩:=oa.ins
  have e1:=h4.set (i:=od.n+j) x1 x.s p1
  rw [<-h1,app_setR] at e1
  have xx:=(x.chain x1).write oa.hp oa.h0p (.ins od.C dx (putF f v fs))
  have hjl:j<vals.length:=by rw [h3.len];exact (List.getElem?_eq_some_iff.mp hj).1
  refine ⟨.ref p,h2,p,od.C,dx,fs,rfl,q1,hc,hn,by have:=cnt_le vals;have:=h3.len;omega,?_⟩
  refine d σ H1 _ xx ⟨⟨h1,p,vals.set j (some v),hpp,h2,⟨oa.hp,oa.h0p,by rw [List.length_set];exact h3.len,dx,_,upd_same,?_,fun k g hk=> ?_,fun g hg=> ?_⟩,?_⟩⟩
  . cases hv:vals[j]? with
    | none=>rw [List.getElem?_eq_none_iff] at hv;omega
    | some ov=>
      cases ov with
      | none=>rw [cnt_none hv];have:=length_putF f v fs;omega
      | some u=>
        rw [cnt_some hv,putF_has (u:=u) (by rw [q3 j f hj,hv];rfl)]
        exact q2
  . rw [lookup_putF]
    split
    . rename_i hg
      subst hg
      have:k=j:=nodup_ix hnd hk hj
      subst this
      rw [List.getElem?_set_self (by exact hjl)]
      rfl
    . rename_i hg
      have:j≠k:=by rintro rfl;rw [hj] at hk;exact hg (Option.some.inj hk).symm
      rw [List.getElem?_set_ne this]
      exact q3 k g hk
  . rw [lookup_putF,if_neg]
    . exact q4 g hg
    . rintro rfl
      exact hg (List.mem_of_getElem? hj)
  . rw [h1] at e1
    exact e1.updO fun vs z=>by rw [q1] at z;cases z
theorem own_fld {HB H0 H : Hp} {σ : L2.St} {ρ : En} {j : Nat} {f : Str} {ds : List PyData} (e : ST (FR K od) HB H0 H σ ρ) (hj : od.names[j]? = some f) (h : (ρ[od.n + j]?).join = some (.own ds)) :
    ∃p dx fs a vs,σ[od.s]? = some (some (.ref p))/\H p=some (.ins od.C dx fs)/\fs.lookup f=some (.ref a)/\HB a=none/\H0 a=none/\H a=some (.lst vs)/\Reps K H0 vs ds /\
      ∀(H0' H':Hp) ys es,Ext H0 H H0' H'->Reps K H0' ys es->ST (FR K od) HB H0' (upd H' a (.lst ys)) σ (ρ.set (od.n+j) (some (.own es))):=by
  obtain ⟨h1,p,vals,hpp,h2,h3,h4⟩:=e.r
  obtain ⟨v,e1,a,vs,rfl,g1,g2,g3,g4⟩:=h4.get _ _ (join_some h)
  have e1':=e1
  rw [<-h1,List.getElem?_append_right (Nat.le_add_right _ _),Nat.add_sub_cancel_left] at e1
  obtain ⟨dx,fs,q1,q2,q3,q4⟩:=h3.ins
  refine ⟨p,dx,fs,a,vs,h2,q1,by rw [q3 j f hj,e1];rfl,g1,g2,g3,g4,fun H0' H' ys es x hr=> ?_⟩
  exact ⟨h1,p,vals,hpp,h2,(h3.ext x).other (x.s _ _ g3),(h4.ext x).write (join_some h) e1' g1 (x.own _ _ g3 g2) hr⟩
theorem rs_appF{te:TE}{fe:En->Option Sl}{j:Nat}{f:Str}(hc:Cls K od.C)(hn:NoAttr K od.C f)(hj:od.names[j]? = some f)(h:RE K (FR K od) te fe):RS K (FR K od) (tDrop (tBM K "list" rAppend (tFld K (tVar od.s) f) (tCons te tNil))) (mApp (od.n+j) fe):=fun HB S0 σ ρ H0 H x e o ho D d=>by
  unfold mApp at ho
  split at ho
  . rename_i ds hown
    obtain ⟨r,hr,ho⟩:=Option.bind_eq_some_iff.mp ho
    split at ho
    . rename_i hl
      cases ho
      obtain ⟨p,dx,fs,a,vs,h1,h2,h3,g1,g2,g3,g4,wr⟩:=own_fld e hj hown
      refine ⟨.ref p,h1,p,od.C,dx,fs, .ref a,rfl,h2,hc,hn,h3, .inl ⟨rfl,vs,SqL.of g3⟩,?_⟩
      refine h.rv HB σ ρ H0 H x.s1 e r.dat (by unfold mDat;rw [hr];rfl) _ fun v H1 J1 x1 p1=> ?_
      refine ⟨a,vs,v,rfl,rfl,x1.s _ _ g3,by rw [g4.length];exact hl,?_⟩
      exact d σ H1 _ ((x.chain x1).write g1 (x1.own a _ g3 g2) _) (wr H1 J1 _ _ x1 (Tf.Reps.snoc (Reps.same x1.s0 g4) p1))
    . cases ho
  . cases ho
theorem rs_setF{te tj:TE}{fe fj:En->Option Sl}{j:Nat}{f:Str}(hc:Cls K od.C)(hn:NoAttr K od.C f)(hj:od.names[j]? = some f)(h:RE K (FR K od) te fe)(hk:RP K (FR K od) tj fj):RS K (FR K od) (tAsg te (gSub (tFld K (tVar od.s) f) tj rSetL)) (mSet (od.n+j) fj fe):=fun HB S0 σ ρ H0 H x e o ho D d=>by
  obtain ⟨r,hr,ho⟩:=Option.bind_eq_some_iff.mp ho
  split at ho
  . rename_i ds hown
    obtain ⟨k,hkk,ho⟩:=Option.bind_eq_some_iff.mp ho
    split at ho
    . rename_i k
      obtain ⟨i,hix,rfl⟩:=Option.map_eq_some_iff.mp ho
      refine h.rv HB σ ρ H0 H x.s1 e r.dat (by unfold mDat;rw [hr];rfl) _ fun v H1 J1 x1 p1=> ?_
      obtain ⟨p,dx,fs,a,vs,h1,h2,h3,g1,g2,g3,g4,wr⟩:=own_fld (e.ext (K:=K) x1) hj hown
      refine ⟨.ref p,h1,p,od.C,dx,fs, .ref a,rfl,h2,hc,hn,h3,?_⟩
      refine hk HB σ ρ H1 J1 x1.s1 (e.ext (K:=K) x1) _ hkk _ fun w H2 J2 x2 p2=> ?_
      refine ⟨a,vs,k,i,rfl,p2.int,x2.s _ _ g3,by rw [g4.length];exact hix,?_⟩
      exact d σ H2 _ (((x.chain x1).chain x2).write g1 (x2.own a _ g3 g2) _) (wr H2 J2 _ _ x2 (Reps.set (Rep.same x2.s0 p1) i (Reps.same x2.s0 g4)))
    . cases ho
  . cases ho
def spM(K:PySem.W.Frag)(C:Addr)(names:List Str)(F:En->List PyData->Option (En×PyData)):Sp:=fun vs H Q _=>∃HB H0 p vals φ ds φ' d vs',vs = .ref p::vs'/\Same HB H/\Same H0 H/\OA C names HB H0 H p vals/\ER K HB H0 H vals φ/\Reps K H0 vs' ds/\F φ ds=some (φ',d) /\
  ∀v H0' H' vals',Ext H0 HB H0' H'->OA C names HB H0' H' p vals'->ER K HB H0' H' vals' φ'->Rep K H0' v d->Q v H'
open Classical in
noncomputable def hole(H:Hp)(p:Addr)(vals:L2.St)(φ:En):Hp:=fun b=>if b=p\/∃(j:Nat) (ds:List PyData),φ[j]? = some (some (.own ds))/\vals[j]? = some (some (.ref b)) then none else H b
theorem hole_same{H:Hp}{p:Addr}{vals:L2.St}{φ:En}:Same (hole H p vals φ) H:=fun b o h=>by
  unfold hole at h
  split at h
  . cases h
  . exact h
theorem meth_call {HB S0 H0 H : Hp} {σ : L2.St} {ρ : En} {vs' : List V} {ds : List PyData} {F : En -> List PyData -> Option (En × PyData)} {φ' : En} {dd : PyData} {Q : VK} {E : XK} (x : Ext S0 HB H0 H) (e : ST (FR K od) HB H0 H σ ρ) (hr : Reps K H0 vs' ds) (hF : F (ρ.drop od.n) ds = some (φ', dd))
    (q:∀v H0' H',Ext S0 HB H0' H'->ST (FR K od) HB H0' H' σ (ρ.take od.n++φ')->Rep K H0' v dd->Q v H'):∃p dx fs,σ[od.s]? = some (some (.ref p))/\H p=some (.ins od.C dx fs)/\(∀m,m ∉ od.names->fs.lookup m=none)/\spM K od.C od.names F (.ref p::vs') H Q E:=by
  obtain ⟨h1,p,vals,hpp,h2,h3,h4⟩:=e.r
  obtain ⟨dx,fs,q1,q2,q3,q4⟩:=h3.ins
  have lρ:ρ.length=od.n+vals.length:=by rw [<-h4.len,List.length_append,h1]
  have fi:∀(j:Nat),(ρ.drop od.n)[j]? = ρ[od.n+j]? :=fun j=>List.getElem?_drop
  have si:∀(j:Nat),(σ++vals)[od.n+j]? = vals[j]? :=fun j=>by rw [<-h1,List.getElem?_append_right (Nat.le_add_right _ _),Nat.add_sub_cancel_left]
  refine ⟨p,dx,fs,h2,q1,q4,hole H p vals (ρ.drop od.n),H0,p,vals,ρ.drop od.n,ds,φ',dd,vs',rfl,hole_same,x.s1,⟨?_,h3.h0p,h3.len,h3.ins⟩,?_,hr,hF,fun v H0' H' vals' x' o' e' r' => ?_⟩
  . unfold hole
    rw [if_pos (.inl rfl)]
  . refine ⟨by rw [List.length_drop,lρ];omega,fun j s hs=> ?_,fun i j a xs ys hij g1 g2 g3 g4=> ?_⟩
    . rw [fi] at hs
      obtain ⟨v,e1,e2⟩:=h4.get _ _ hs
      rw [si] at e1
      refine ⟨v,e1,?_⟩
      cases s with
      | val d=>exact e2
      | own es=>
        obtain ⟨a,ws,rfl,k1,k2,k3,k4⟩:=e2
        refine ⟨a,ws,rfl,?_,k2,k3,k4⟩
        unfold hole
        rw [if_pos (.inr ⟨j,es,by rw [fi];exact hs,e1⟩)]
    . rw [fi] at g1 g2
      exact h4.apart (od.n+i) (od.n+j) a xs ys (by omega) g1 g2 (by rw [si];exact g3) (by rw [si];exact g4)
  . -- behind the call
    have out:∀b,HB b≠none->hole H p vals (ρ.drop od.n) b=H b:=by
      intro b hb
      unfold hole
      rw [if_neg]
      rintro (rfl | ⟨j,es,k1,k2⟩)
      . exact hb h3.hp
      . rw [fi] at k1
        obtain ⟨w,e1,a,ws,rfl,k3,_⟩:=h4.get _ _ k1
        rw [si,k2] at e1
        cases e1
        exact hb k3
    have back:∀a,hole H p vals (ρ.drop od.n) a=none->HB a=none:=by
      intro a ha
      cases hb:HB a with
      | none=>rfl
      | some u=>
        rw [out a (by rw [hb];simp),x.s a u hb] at ha
        cases ha
    have loc:∀(i:Nat) es a ws,i<od.n->ρ[i]? = some (some (.own es))->σ[i]? = some (some (.ref a))->H a=some (.lst ws)->hole H p vals (ρ.drop od.n) a=some (.lst ws):=by
      intro i es a ws hi k1 k2 k3
      unfold hole
      rw [if_neg]
      . exact k3
      . rintro (rfl | ⟨j,ts,k4,k5⟩)
        . rw [q1] at k3;cases k3
        . rw [fi] at k4
          exact h4.apart i (od.n+j) a es ts (by omega) k1 k4 (by rw [List.getElem?_append_left (by omega)];exact k2) (by rw [si];exact k5)
    have xx:Ext S0 HB H0' H':=⟨fun b u hb=>x'.s b u (by rw [out b (by rw [hb];simp)];exact x.s b u hb),x.s0.trans x'.s0,x'.s1,fun b u hb h0=>x'.own b u (by rw [out b (by rw [hb];simp)];exact x.s b u hb) (x.own b u hb h0)⟩
    have lφ:φ'.length=vals'.length:=e'.len.symm
    have tk:(ρ.take od.n).length=od.n:=by rw [List.length_take,lρ];omega
    have left:∀(i:Nat),i<od.n->(ρ.take od.n++φ')[i]? = ρ[i]? :=fun i hi=>by rw [List.getElem?_append_left (by omega),List.getElem?_take_of_lt hi]
    have right:∀(i:Nat),od.n<=i->(ρ.take od.n++φ')[i]? = φ'[i - od.n]? :=fun i hi=>by rw [List.getElem?_append_right (by omega),tk]
    have sl:∀(i:Nat),i<od.n->(σ++vals')[i]? = σ[i]? :=fun i hi=>List.getElem?_append_left (by omega)
    have sr:∀(i:Nat),od.n<=i->(σ++vals')[i]? = vals'[i - od.n]? :=fun i hi=>by rw [List.getElem?_append_right (by omega),h1]
    have lown:∀(i:Nat) es a,i<od.n->ρ[i]? = some (some (.own es))->σ[i]? = some (some (.ref a))->∃ws,H a=some (.lst ws)/\HB a=none/\H0 a=none/\Reps K H0 ws es:=by
      intro i es a hi k1 k2
      obtain ⟨v,e1,b,ws,rfl,k3,k4,k5,k6⟩:=h4.get _ _ k1
      rw [List.getElem?_append_left (by omega),k2] at e1
      cases e1
      exact ⟨ws,k5,k3,k4,k6⟩
    refine q v H0' H' xx ⟨h1,p,vals',hpp,h2,⟨h3.hp,o'.h0p,o'.len,o'.ins⟩,?_,fun i s hs=> ?_,fun i j a xs ys hij g1 g2 g3 g4=> ?_⟩ r'
    . rw [List.length_append,List.length_append,tk,lφ,h1]
    . by_cases hi:i<od.n
      . rw [left i hi] at hs
        rw [sl i hi]
        obtain ⟨w,e1,e2⟩:=h4.get _ _ hs
        rw [List.getElem?_append_left (by omega)] at e1
        refine ⟨w,e1,?_⟩
        cases s with
        | val d=>exact Rep.same x'.s0 e2
        | own es=>
          obtain ⟨a,ws,rfl,k1,k2,k3,k4⟩:=e2
          have hl:=loc i es a ws hi hs e1 k3
          exact ⟨a,ws,rfl,k1,x'.own a _ hl k2,x'.s a _ hl,Reps.same x'.s0 k4⟩
      . rw [right i (by omega)] at hs
        rw [sr i (by omega)]
        obtain ⟨w,e1,e2⟩:=e'.get _ _ hs
        refine ⟨w,e1,?_⟩
        cases s with
        | val d=>exact e2
        | own es=>
          obtain ⟨a,ws,rfl,k1,k2⟩:=e2
          exact ⟨a,ws,rfl,back a k1,k2⟩
    . have mixed : ∀ (i j : Nat) xs ys, i < od.n -> od.n <= j -> (ρ.take od.n ++ φ')[i]? = some (some (.own xs)) -> (ρ.take od.n ++ φ')[j]? = some (some (.own ys)) -> (σ ++ vals')[i]? = some (some (.ref a)) -> (σ ++ vals')[j]? ≠ some (some (.ref a)) := by
        intro i j xs ys hi hj g1 g2 g3 g4
        rw [left i hi] at g1
        rw [right j hj] at g2
        rw [sl i hi] at g3
        rw [sr j hj] at g4
        obtain ⟨ws,k3,_⟩:=lown i xs a hi g1 g3
        have hl:=loc i xs a ws hi g1 g3 k3
        obtain ⟨w,e1,b,us,rfl,k1,_⟩:=e'.get _ _ g2
        rw [g4] at e1
        cases e1
        rw [hl] at k1
        cases k1
      by_cases hi:i<od.n
      . by_cases hj:j<od.n
        . rw [left i hi] at g1
          rw [left j hj] at g2
          rw [sl i hi] at g3
          rw [sl j hj] at g4
          exact h4.apart i j a xs ys hij g1 g2 (by rw [List.getElem?_append_left (by omega)];exact g3) (by rw [List.getElem?_append_left (by omega)];exact g4)
        . exact mixed i j xs ys hi (by omega) g1 g2 g3 g4
      . by_cases hj:j<od.n
        . exact mixed j i ys xs hj (by omega) g2 g1 g4 g3
        . rw [right i (by omega)] at g1
          rw [right j (by omega)] at g2
          rw [sr i (by omega)] at g3
          rw [sr j (by omega)] at g4
          exact e'.apart (i - od.n) (j - od.n) a xs ys (by omega) g1 g2 g3 g4
def mMeth(n:Nat)(F:En->List PyData->Option (En×PyData))(fa:En->Option (List PyData))(k:En->PyData->Option Out):En->Option Out:=fun ρ=>(fa ρ).bind fun ds=>(F (ρ.drop n) ds).bind fun r=>k (ρ.take n++r.1) r.2
theorem rs_methE{ta:TA}{fa:En->Option (List PyData)}{F:En->List PyData->Option (En×PyData)}{m:Str}{E:XK}(hm:m ∉ od.names)(h:RA K (FR K od) ta fa):RS K (FR K od) (tDrop (tMeth od.C m (spM K od.C od.names F) [] E (tVar od.s) ta)) (mMeth od.n F fa fun ρ _=>some (.nx ρ)):=fun HB S0 σ ρ H0 H x e o ho D d=>by
  obtain ⟨ds,hd,ho⟩:=Option.bind_eq_some_iff.mp ho
  obtain ⟨⟨φ',dd⟩,hF,ho⟩:=Option.bind_eq_some_iff.mp ho
  cases ho
  obtain ⟨h1,p,vals,hpp,h2,h3,h4⟩:=e.r
  obtain ⟨dx,fs,q1,q2,q3,q4⟩:=h3.ins
  refine ⟨.ref p,h2,p,dx,fs,rfl,q1,q4 m hm,?_⟩
  refine h HB σ ρ H0 H x.s1 e ds hd _ fun vs H1 J1 x1 p1=> ?_
  rw [List.append_nil]
  obtain ⟨p',dx',fs',k1,k2,k3,k4⟩:=meth_call (E:=E) (x.chain x1) (e.ext (K:=K) x1) p1 hF (fun v H2 J2 x2 e2 r2=>d σ H2 J2 x2 e2)
  rw [h2] at k1
  cases k1
  exact k4
theorem rs_methA {ta : TA} {fa : En -> Option (List PyData)} {F : En -> List PyData -> Option (En × PyData)} {m : Str} {E : XK} {i : Nat} (hs : (FR K od).slot i) (hm : m ∉ od.names) (h : RA K (FR K od) ta fa) :
    RS K (FR K od) (tAsg (tMeth od.C m (spM K od.C od.names F) [] E (tVar od.s) ta) (gName i)) (mMeth od.n F fa fun ρ d=>some (.nx (ρ.set i (some (.val d))))):=fun HB S0 σ ρ H0 H x e o ho D d=>by
  obtain ⟨ds,hd,ho⟩:=Option.bind_eq_some_iff.mp ho
  obtain ⟨⟨φ',dd⟩,hF,ho⟩:=Option.bind_eq_some_iff.mp ho
  cases ho
  obtain ⟨h1,p,vals,hpp,h2,h3,h4⟩:=e.r
  obtain ⟨dx,fs,q1,q2,q3,q4⟩:=h3.ins
  refine ⟨.ref p,h2,p,dx,fs,rfl,q1,q4 m hm,?_⟩
  refine h HB σ ρ H0 H x.s1 e ds hd _ fun vs H1 J1 x1 p1=> ?_
  rw [List.append_nil]
  obtain ⟨p',dx',fs',k1,k2,k3,k4⟩:=meth_call (E:=E) (x.chain x1) (e.ext (K:=K) x1) p1 hF (fun v H2 J2 x2 e2 r2=>d _ H2 J2 x2 ⟨RelOk.set (K:=K) (s:= .val dd) e2.r hs (Ext.refl x2.s1) x2.s r2⟩)
  rw [h2] at k1
  cases k1
  exact k4
end
end Dm
namespace Dm
open PySem PySem.Spec PyProof.Rows L2 Tf
section
variable {K:PySem.W.Frag} {C:Addr} {names:List Str}
def runM(n m k:Nat)(g:En->Option Out):En->List PyData->Option (En×PyData):=fun φ ds=>if ds.length+1=m/\φ.length=k then (g ((none::ds.map (fun d=>some (.val d)))++List.replicate (n - (ds.length+1)) none++φ)).bind fun o=>match o with
  | .rt (.val d) ρ=>some (ρ.drop n,d)
  | .nx ρ=>some (ρ.drop n, .none)
  | _=>none else none
theorem er_self {HB H0 H : Hp} {p : Addr} {vs : List V} {ds : List PyData} {N : List Str} {vals : L2.St} {φ : En} (hn : ds.length + 1 <= N.length) (hr : Reps K H0 vs ds) (e : ER K HB H0 H vals φ) :
    ER K HB H0 H (L2.start N (.ref p::vs)++vals) ((none::ds.map (fun d=>some (.val d)))++List.replicate (N.length - (ds.length+1)) none++φ):=by
  have hl:=hr.length
  have ls:(L2.start N (.ref p::vs)).length=N.length:=by
    unfold L2.start
    simp only [List.length_append,List.length_map,List.length_replicate,List.length_cons]
    omega
  have lr:((none::ds.map (fun d=>some (Sl.val d)))++List.replicate (N.length - (ds.length+1)) (none:Option Sl)).length=N.length:=by
    simp only [List.length_append,List.length_map,List.length_replicate,List.length_cons]
    omega
  have lv:∀(i:Nat) s,i<N.length->((none::ds.map (fun d=>some (Sl.val d)))++List.replicate (N.length - (ds.length+1)) (none:Option Sl))[i]? = some (some s)->∃j d,i=j+1/\ds[j]? = some d/\s = .val d:=by
    intro i s hi hs
    cases i with
    | zero=>cases hs
    | succ j=>
      by_cases hj:j<ds.length
      . rw [List.cons_append,List.getElem?_cons_succ,List.getElem?_append_left (by simpa using hj),List.getElem?_map,List.getElem?_eq_getElem hj] at hs
        cases hs
        exact ⟨j,_,rfl,List.getElem?_eq_getElem hj,rfl⟩
      . rw [List.cons_append,List.getElem?_cons_succ,List.getElem?_append_right (by simpa using hj),List.getElem?_replicate] at hs
        split at hs <;> cases hs
  refine ⟨by rw [List.length_append,List.length_append,ls,lr,e.len],fun i s hs=> ?_,fun i j a xs ys hij g1 g2 g3 g4=> ?_⟩
  . by_cases hi:i<N.length
    . rw [List.getElem?_append_left (by omega)] at hs ⊢
      obtain ⟨j,d,rfl,hd,rfl⟩:=lv i s hi hs
      obtain ⟨v,h1,h2⟩:=Tf.Reps.get hr hd
      refine ⟨v,?_,h2⟩
      unfold L2.start
      have hj:j<vs.length:=(List.getElem?_eq_some_iff.mp h1).1
      rw [List.map_cons,List.cons_append,List.getElem?_cons_succ,List.getElem?_append_left (by simpa using hj),List.getElem?_map,h1]
      rfl
    . rw [List.getElem?_append_right (by omega),lr] at hs
      rw [List.getElem?_append_right (by omega),ls]
      exact e.get _ _ hs
  . have big : ∀ (i : Nat) xs, ((none :: ds.map (fun d => some (Sl.val d))) ++ List.replicate (N.length - (ds.length + 1)) (none : Option Sl) ++ φ)[i]? = some (some (.own xs)) -> N.length <= i := by
      intro i xs h
      by_cases hi:i<N.length
      . rw [List.getElem?_append_left (by omega)] at h
        obtain ⟨_,_,_,_,z⟩:=lv i _ hi h
        cases z
      . omega
    have b1:=big i xs g1
    have b2:=big j ys g2
    rw [List.getElem?_append_right (by omega),lr] at g1 g2
    rw [List.getElem?_append_right (by omega),ls] at g3 g4
    exact e.apart _ _ a xs ys (by omega) g1 g2 g3 g4
section
variable {P:Program} {w:World} {mg:Str->Option Value} {base:Heap}
theorem fnM {x qual : Str} {st : Stmt} {f : Addr} {fd : FuncData} {N ps : List Str} {k n m l : Nat} {g : En -> Option Out} (F : Fun K x qual st f fd) (S : FnScope N ps (defScope st)) (hn : N.length = n) (hm : ps.length = m) (hl : names.length = l)
    (hb:∀(cdv:Value) (A:Around) (outer:List Env) (s:Shared) (H:Hp) (E:XK) (p:Addr),Room k (A.deeper (envOfC qual (defScope st) s.heap.objs.size f cdv))->DSs (cxOf CX0 P w K mg base N qual (defScope st) f cdv A outer s H E).nox (FR K ⟨C,names,0,n,p⟩) (defBody st) g) :
    FnOk P w K mg base CX0 (k+1) f fd ps (spM K C names (runM n m l g)):=by
  subst hn hm hl
  have hpl:ps.length<=N.length:=by have:=congrArg List.length S.pre;rw [List.length_take] at this;omega
  refine F.ok S (fun vs H Q E h=> ?_) fun cdv A outer s H vs Q E hr h=> ?_
  . obtain ⟨HB,H0,p,vals,φ,ds,φ',d,vs',rfl,s1,s2,oa,er,hr,hf,_⟩:=h
    unfold runM at hf
    split at hf
    . rename_i hl
      rw [List.length_cons,hr.length]
      exact hl.1
    . cases hf
  . obtain ⟨HB,H0,p,vals,φ,ds,φ',d,vs',rfl,s1,s2,oa,er,hr',hf,q⟩:=h
    obtain ⟨t,ht,rs⟩:=hb cdv A outer s H E p hr
    refine ⟨t,ht,?_⟩
    have hr:=hr'
    unfold runM at hf
    split at hf
    . rename_i hl
      obtain ⟨o,ho,hf⟩:=Option.bind_eq_some_iff.mp hf
      have hvl:=hr.length
      have ls:(L2.start N (.ref p::vs')).length=N.length:=by
        unfold L2.start
        simp only [List.length_append,List.length_map,List.length_replicate,List.length_cons]
        omega
      refine rs HB H0 _ _ H0 H ⟨s1,Same.refl _,s2,fun _ _ _ h=>h⟩ ⟨⟨ls,p,vals,rfl,rfl,oa,er_self (by omega) hr er⟩⟩ o ho _ ?_
      have fin:∀ {σ:L2.St} {H1 J1:Hp} {ρ:En} {v:V} {dd:PyData},Ext H0 HB H1 J1->ST (FR K ⟨C,names,0,N.length,p⟩) HB H1 J1 σ ρ->Rep K H1 v dd->(ρ.drop N.length,dd)=(φ',d)->Q v J1:=by
        intro σ H1 J1 ρ v dd x e r he
        obtain ⟨h1,p',vals',hpp,h2,h3,h4⟩:=e.r
        cases he
        cases hpp
        refine q v H1 J1 vals' x h3 ⟨?_,fun i s hs=> ?_,fun i j a xs ys hij g1 g2 g3 g4=> ?_⟩ r
        . have:=h4.len
          rw [List.length_append,h1] at this
          rw [List.length_drop]
          show _=_ - _
          have hh:(⟨C,names,0,N.length,p⟩:OD).n=N.length:=rfl
          omega
        . rw [List.getElem?_drop] at hs
          obtain ⟨w,e1,e2⟩:=h4.get _ _ hs
          rw [List.getElem?_append_right (by rw [h1];exact Nat.le_add_right _ _),h1] at e1
          refine ⟨w,?_,e2⟩
          have hh:(⟨C,names,0,N.length,p⟩:OD).n=N.length:=rfl
          rw [hh,Nat.add_sub_cancel_left] at e1
          exact e1
        . have si : ∀ i : Nat, (σ ++ vals')[N.length + i]? = vals'[i]? := fun i => by
            have hh:(⟨C,names,0,N.length,p⟩:OD).n=N.length:=rfl
            rw [List.getElem?_append_right (by rw [h1];exact Nat.le_add_right _ _),h1,hh,Nat.add_sub_cancel_left]
          rw [List.getElem?_drop] at g1 g2
          exact h4.apart _ _ a xs ys (by omega) g1 g2 (by rw [si];exact g3) (by rw [si];exact g4)
      cases o with
      | rt r ρ=>
        cases r with
        | val dd=>exact fun v σ H1 J1 a b c=>fin a b c (Option.some.inj hf)
        | own _=>cases hf
      | nx ρ=>exact fun σ H1 J1 a b=>fin (v:= .non) a b .none (Option.some.inj hf)
      | bk _=>cases hf
      | ct _=>cases hf
    . cases hf
end
end
end Dm
namespace Dm
open PySem PySem.Spec PyProof.Rows L2 Tf
section
variable {K:PySem.W.Frag} {C:Addr} {names:List Str} {R:Rl} [RelOk K R]
def RB(K:PySem.W.Frag)(R:Rl)(C:Addr)(names:List Str)(te:TE)(fo:En->Option En):Prop:=
  ∀(HB:Hp) (σ:L2.St) (ρ:En) (H0 H:Hp),Same H0 H->ST R HB H0 H σ ρ->∀φ,fo ρ=some φ->∀Q:VK,(∀p vals H0' H',Ext H0 H H0' H'->OA C names H H0' H' p vals->ER K H H0' H' vals φ->Q (.ref p) H')->te σ H Q
def mMake(k:Nat)(F:En->List PyData->Option (En×PyData))(fa:En->Option (List PyData)):En->Option En:=fun ρ=>(fa ρ).bind fun ds=>(F (List.replicate k none) ds).bind fun r=>match r.2 with
  | .none=>some r.1
  | _=>none
theorem rb_make{ta:TA}{fa:En->Option (List PyData)}{F:En->List PyData->Option (En×PyData)}{E:XK}{k:Nat}(hk:k=names.length)(h:RA K R ta fa):RB K R C names (tMake C (spM K C names F) [] E ta) (mMake k F fa):=fun HB σ ρ H0 H s e φ hφ Q q=>by
  subst hk
  obtain ⟨ds,hd,hφ⟩:=Option.bind_eq_some_iff.mp hφ
  obtain ⟨⟨φ',d⟩,hF,hφ⟩:=Option.bind_eq_some_iff.mp hφ
  have hdn:d = .none/\φ'=φ:=by
    cases d with
    | none=>cases hφ;exact ⟨rfl,rfl⟩
    | _=>cases hφ
  obtain ⟨rfl,rfl⟩:=hdn
  refine h HB σ ρ H0 H s e ds hd _ fun vs H1 J1 x1 p1=> ?_
  intro x dx hx hdx hne
  rw [List.append_nil]
  have s1:Same J1 (upd (upd J1 dx (.own x)) x (.ins C dx [])):=fun b u hb=>by rw [upd_ne (ne_of_none hb hx),upd_ne (ne_of_none hb hdx)];exact hb
  refine ⟨J1,H1,x,List.replicate names.length none,List.replicate names.length none,ds,φ', .none,vs,rfl,s1,x1.s1.trans s1,⟨hx,x1.s1.free hx,List.length_replicate,dx,[],upd_same,Nat.zero_le _,fun j f hj=> ?_,fun f _=>rfl⟩,⟨by rw [List.length_replicate,List.length_replicate],fun i r hr=> ?_,fun i j a xs ys _ g1 _ _ _=> ?_⟩,p1,hF,fun v H2 J2 vals' x2 o2 e2 r2=>⟨?_,?_⟩⟩
  . show none=_
    rw [List.getElem?_replicate]
    split <;> rfl
  . rw [List.getElem?_replicate] at hr
    split at hr <;> cases hr
  . rw [List.getElem?_replicate] at g1
    split at g1 <;> cases g1
  . cases r2;rfl
  . exact q x vals' H2 J2 (x1.trans x2) (o2.base x1.s) (e2.base x1.s)
def spO(K:PySem.W.Frag)(C:Addr)(names:List Str)(F:List PyData->Option En):Sp:=fun vs H Q _=>∃H0 ds φ,Same H0 H/\Reps K H0 vs ds/\F ds=some φ/\∀p vals H0' H',Ext H0 H H0' H'->OA C names H H0' H' p vals->ER K H H0' H' vals φ->Q (.ref p) H'
def mCallO(F:List PyData->Option En)(fa:En->Option (List PyData)):En->Option En:=fun ρ=>(fa ρ).bind F
theorem rb_call{ta:TA}{fa:En->Option (List PyData)}{F:List PyData->Option En}{E:XK}(h:RA K R ta fa):RB K R C names (tCall (spO K C names F) [] E ta) (mCallO F fa):=fun HB σ ρ H0 H s e φ hφ Q q=>by
  obtain ⟨ds,hd,hφ⟩:=Option.bind_eq_some_iff.mp hφ
  refine h HB σ ρ H0 H s e ds hd _ fun vs H1 J1 x1 p1=> ?_
  rw [List.append_nil]
  exact ⟨H1,ds,φ,x1.s1,p1,hφ,fun p vals H2 J2 x2 o2 e2=>q p vals H2 J2 (x1.trans x2) (o2.base x1.s) (e2.base x1.s)⟩
def mFldO(j:Nat)(fo:En->Option En):En->Option Sl:=fun ρ=>(fo ρ).bind fun φ=>(φ[j]?).join
theorem re_fldO{te:TE}{fo:En->Option En}{j:Nat}{f:Str}(hc:Cls K C)(hn:NoAttr K C f)(hj:names[j]? = some f)(h:RB K R C names te fo):RE K R (tFld K te f) (mFldO j fo):=fun HB σ ρ H0 H s e r hr Q q=>by
  obtain ⟨φ,hφ,hr⟩:=Option.bind_eq_some_iff.mp hr
  refine h HB σ ρ H0 H s e φ hφ _ fun p vals H1 J1 x1 o1 e1=> ?_
  obtain ⟨v,h1,h2⟩:=e1.get _ _ (join_some hr)
  obtain ⟨dx,fs,q1,q2,q3,q4⟩:=o1.ins
  exact ⟨p,C,dx,fs,v,rfl,q1,hc,hn,by rw [q3 j f hj,h1];rfl,q v H1 J1 x1 h2⟩
section
variable {P:Program} {w:World} {mg:Str->Option Value} {base:Heap}
def DB(X:Cx)(R:Rl)(C:Addr)(names:List Str)(e:Expr)(fo:En->Option En):Prop:=∃te,PE X e te/\RB X.K R C names te fo
def runO(n m:Nat)(fo:En->Option En):List PyData->Option En:=fun ds=>if ds.length=m then fo (ds.map (fun d=>some (.val d))++List.replicate (n - ds.length) none) else none
theorem fnO {x qual : Str} {st : Stmt} {f : Addr} {fd : FuncData} {N ps : List Str} {k n m : Nat} {fo : En -> Option En} {e : Expr} {pos : Pos} (F : Fun K x qual st f fd) (S : FnScope N ps (defScope st)) (hn : N.length = n) (hm : ps.length = m) (hst : defBody st = [.Return (some e) pos])
    (hb:∀(cdv:Value) (A:Around) (outer:List Env) (s:Shared) (H:Hp) (E:XK),Room k (A.deeper (envOfC qual (defScope st) s.heap.objs.size f cdv))->DB (cxOf CX0 P w K mg base N qual (defScope st) f cdv A outer s H E).nox (PR K) C names e fo) :
    FnOk P w K mg base CX0 (k+1) f fd ps (spO K C names (runO n m fo)):=by
  subst hn hm
  refine F.ok S (fun vs H Q E h=> ?_) fun cdv A outer s H vs Q E hr h=> ?_
  . obtain ⟨H0,ds,φ,s,hr,hf,_⟩:=h
    unfold runO at hf
    split at hf
    . rename_i hl
      rw [hr.length,hl]
    . cases hf
  . obtain ⟨t,ht,rb⟩:=hb cdv A outer s H E hr
    refine ⟨_,by rw [hst];exact pss_one (ps_ret ht),?_⟩
    obtain ⟨H0,ds,φ,s0,hr,hf,q⟩:=h
    unfold runO at hf
    split at hf
    . exact rb H _ _ H0 H s0 ⟨er_start hr⟩ φ hf _ fun p vals H1 J1 x1 o1 e1=>q p vals H1 J1 x1 o1 e1
    . cases hf
end
def mObj(n s:Nat)(fo:En->Option En)(g:En->Option Out):En->Option Out:=fun ρ=>if ρ.length=n then (fo ρ).bind fun φ=>(g (ρ.set s none++φ)).bind fun o=>match o with
  | .rt r _=>some (.rt r (List.replicate ρ.length none))
  | _=>none else none
theorem er_none{HB H0 H:Hp}{σ:L2.St}{n:Nat}(h:σ.length=n):ER K HB H0 H σ (List.replicate n none) :=
  ⟨by rw [List.length_replicate];exact h,fun i r hr=>(by rw [List.getElem?_replicate] at hr;split at hr <;> cases hr),fun i j a xs ys _ g1 _ _ _=>(by rw [List.getElem?_replicate] at g1;split at g1 <;> cases g1)⟩
theorem rs_obj{te:TE}{tr:TS}{fo:En->Option En}{g:En->Option Out}{s n:Nat}(h:RB K (PR K) C names te fo)(hr:∀p:Addr,RS K (FR K ⟨C,names,s,n,p⟩) tr g)(hs:s<n):RS K (PR K) (tSeq (tAsg te (gName s)) tr) (mObj n s fo g):=fun HB S0 σ ρ H0 H x e o ho D d=>by
  unfold mObj at ho
  split at ho
  . rename_i hlen
    obtain ⟨φ,hφ,ho⟩:=Option.bind_eq_some_iff.mp ho
    obtain ⟨o1,ho1,ho⟩:=Option.bind_eq_some_iff.mp ho
    have hσ:σ.length=n:=by rw [<-hlen];exact e.r.len
    refine h HB σ ρ H0 H x.s1 e φ hφ _ fun p vals H1 J1 x1 oa er=> ?_
    have e1:ER K HB H1 J1 σ ρ:=ER.ext x1 e.r
    have xx:=x.chain x1
    have ob:OA C names HB H1 J1 p vals:=oa.base x.s
    have eb:ER K HB H1 J1 vals φ:=er.base x.s
    have lf:vals.length=φ.length:=er.len
    have nown:∀(i:Nat) r,(ρ.set s none)[i]? = some (some r)->i≠s/\ρ[i]? = some (some r):=by
      intro i r hi
      by_cases z:s=i
      . subst z
        rw [List.getElem?_set_self'] at hi
        cases hq:ρ[s]? with
        | none=>rw [hq] at hi;cases hi
        | some _=>rw [hq] at hi;cases hi
      . rw [List.getElem?_set_ne z] at hi
        exact ⟨fun w=>z w.symm,hi⟩
    have old:∀(i:Nat) xs a,ρ[i]? = some (some (.own xs))->σ[i]? = some (some (.ref a))->∃u,H a=some u:=by
      intro i xs a k1 k2
      obtain ⟨v,g1,b,ws,rfl,_,_,g2,_⟩:=ER.get e.r i _ k1
      rw [k2] at g1
      cases g1
      exact ⟨_,g2⟩
    have new:∀(j:Nat) ys a,φ[j]? = some (some (.own ys))->vals[j]? = some (some (.ref a))->H a=none:=by
      intro j ys a k1 k2
      obtain ⟨v,g1,b,ws,rfl,g2,_⟩:=er.get j _ k1
      rw [k2] at g1
      cases g1
      exact g2
    have l1:(ρ.set s none).length=n:=by rw [List.length_set,hlen]
    have l2:(σ.set s (some (V.ref p))).length=n:=by rw [List.length_set,hσ]
    refine hr p HB S0 _ _ H1 J1 xx ⟨⟨l2,p,vals,rfl,?_,ob,?_,fun i r hi=> ?_,fun i j a xs ys hij g1 g2 g3 g4=> ?_⟩⟩ o1 ho1 D ?_
    . show (σ.set s (some (V.ref p)))[s]? = _
      rw [List.getElem?_set_self (by rw [hσ];exact hs)]
    . rw [List.length_append,List.length_append,l1,l2,lf]
    . by_cases hin:i<n
      . rw [List.getElem?_append_left (by omega)] at hi ⊢
        obtain ⟨z,hi⟩:=nown i r hi
        obtain ⟨v,g1,g2⟩:=e1.get i r hi
        exact ⟨v,by rw [List.getElem?_set_ne (fun w=>z w.symm)];exact g1,g2⟩
      . rw [List.getElem?_append_right (by omega),l1] at hi
        rw [List.getElem?_append_right (by omega),l2]
        exact eb.get _ r hi
    . have mixed : ∀ (i j : Nat) xs ys, i < n -> n <= j -> (ρ.set s none ++ φ)[i]? = some (some (.own xs)) -> (ρ.set s none ++ φ)[j]? = some (some (.own ys)) -> (σ.set s (some (V.ref p)) ++ vals)[i]? = some (some (.ref a)) -> (σ.set s (some (V.ref p)) ++ vals)[j]? ≠ some (some (.ref a)) := by
        intro i j xs ys hi hj g1 g2 g3 g4
        rw [List.getElem?_append_left (by omega)] at g1 g3
        rw [List.getElem?_append_right (by omega),l1] at g2
        rw [List.getElem?_append_right (by omega),l2] at g4
        obtain ⟨z,g1⟩:=nown i _ g1
        rw [List.getElem?_set_ne (fun w=>z w.symm)] at g3
        obtain ⟨u,k1⟩:=old i xs a g1 g3
        rw [new _ ys a g2 g4] at k1
        cases k1
      by_cases hi:i<n
      . by_cases hj:j<n
        . rw [List.getElem?_append_left (by omega)] at g1 g2 g3 g4
          obtain ⟨z1,g1⟩:=nown i _ g1
          obtain ⟨z2,g2⟩:=nown j _ g2
          rw [List.getElem?_set_ne (fun w=>z1 w.symm)] at g3
          rw [List.getElem?_set_ne (fun w=>z2 w.symm)] at g4
          exact e1.apart i j a xs ys hij g1 g2 g3 g4
        . exact mixed i j xs ys hi (by omega) g1 g2 g3 g4
      . by_cases hj:j<n
        . exact mixed j i ys xs hj (by omega) g2 g1 g4 g3
        . rw [List.getElem?_append_right (by omega),l1] at g1 g2
          rw [List.getElem?_append_right (by omega),l2] at g3 g4
          exact eb.apart _ _ a xs ys (by omega) g1 g2 g3 g4
    . cases o1 with
      | rt r ρ' =>
        cases ho
        exact fun v σ' H2 J2 a b c=>d v σ' H2 J2 a ⟨by rw [hlen];exact er_none b.r.1⟩ c
      | nx _=>cases ho
      | bk _=>cases ho
      | ct _=>cases ho
  . cases ho
variable {od:OD}
theorem fr_sub0{ix:List (Option Nat)}(hx:(ix.filterMap id).Nodup:=by decide)(hn:(ix.all fun o=>match o with | some j=>decide (j<od.n) | none=>true)=true:=by rfl):∀(HB:Hp) (σ:L2.St) (ρ:En) (H0 H:Hp),(FR K od).r HB H0 H σ ρ->(PR K).r (fun _=>none) H0 H (subS ix σ) (subE ix ρ):=fun HB σ ρ H0 H e=>by
  obtain ⟨h1,p,vals,hpp,h2,h3,h4⟩:=e
  have e:=ER.sub hx h4
  have:subS ix (σ++vals)=subS ix σ:=by
    unfold subS
    refine List.map_congr_left fun o ho=> ?_
    cases o with
    | none=>rfl
    | some j=>
      have:=List.all_eq_true.mp hn _ ho
      have hj:j<od.n:=by simpa using this
      show ((σ++vals)[j]?).join=_
      rw [List.getElem?_append_left (by omega)]
  rw [this] at e
  exact e
def subF(ix:List (Option Nat))(n:Nat)(ρ:En):En:=subE ix ρ++ρ.drop n
theorem fr_sub {ix : List (Option Nat)} {s' n' : Nat} (hs : ix[s']? = some (some od.s) := by rfl) (hl : ix.length = n' := by rfl) (hx : (ix.filterMap id).Nodup := by decide) (hn : (ix.all fun o => match o with | some j => decide (j < od.n) | none => true) = true := by rfl) :
    ∀(HB:Hp) (σ:L2.St) (ρ:En) (H0 H:Hp),(FR K od).r HB H0 H σ ρ->(FR K ⟨od.C,od.names,s',n',od.p⟩).r (fun _=>none) H0 H (subS ix σ) (subF ix od.n ρ):=fun HB σ ρ H0 H e=>by
  obtain ⟨h1,p,vals,hpp,h2,h3,h4⟩:=e
  have hlt:∀(i j:Nat),ix[i]? = some (some j)->j<od.n:=fun i j h=>by
    have:=List.all_eq_true.mp hn _ (List.mem_of_getElem? h)
    simpa using this
  have ls:(subS ix σ).length=n':=by unfold subS;rw [List.length_map,hl]
  have le:(subE ix ρ).length=n':=by unfold subE;rw [List.length_map,hl]
  have lρ:ρ.length=od.n+vals.length:=by rw [<-h4.len,List.length_append,h1]
  have fi:∀(j:Nat),(ρ.drop od.n)[j]? = ρ[od.n+j]? :=fun j=>List.getElem?_drop
  have si:∀(j:Nat),(σ++vals)[od.n+j]? = vals[j]? :=fun j=>by rw [<-h1,List.getElem?_append_right (Nat.le_add_right _ _),Nat.add_sub_cancel_left]
  have sg:∀(i j:Nat),ix[i]? = some (some j)->(subS ix σ)[i]? = some ((σ++vals)[j]?).join:=fun i j h=>by rw [subS_get h,List.getElem?_append_left (by rw [h1];exact hlt i j h)]
  refine ⟨ls,p,vals,hpp,?_,⟨rfl,h3.h0p,h3.len,h3.ins⟩,?_,fun i r hi=> ?_,fun i k a xs ys hij g1 g2 g3 g4=> ?_⟩
  . show (subS ix σ)[s']? = _
    rw [subS_get hs,h2]
    rfl
  . unfold subF
    rw [List.length_append,List.length_append,ls,le,List.length_drop,lρ]
    omega
  . unfold subF at hi
    by_cases hin:i<n'
    . rw [List.getElem?_append_left (by omega)] at hi ⊢
      obtain ⟨j,k1,k2⟩:=subE_get hi
      obtain ⟨v,k3,k4⟩:=h4.get j r k2
      refine ⟨v,by rw [sg i j k1,k3];rfl,k4.base fun _ _ h=>by cases h⟩
    . rw [List.getElem?_append_right (by omega),le,fi] at hi
      rw [List.getElem?_append_right (by omega),ls]
      obtain ⟨v,k3,k4⟩:=h4.get _ r hi
      rw [si] at k3
      exact ⟨v,k3,k4.base fun _ _ h=>by cases h⟩
  . unfold subF at g1 g2
    have mixed:∀(i k:Nat) xs ys,i<n'->n'<=k->(subE ix ρ++ρ.drop od.n)[i]? = some (some (.own xs))->(subE ix ρ++ρ.drop od.n)[k]? = some (some (.own ys))->(subS ix σ++vals)[i]? = some (some (.ref a))->(subS ix σ++vals)[k]? ≠ some (some (.ref a)):=by
      intro i k xs ys hi hk g1 g2 g3 g4
      rw [List.getElem?_append_left (by omega)] at g1 g3
      rw [List.getElem?_append_right (by omega),le,fi] at g2
      rw [List.getElem?_append_right (by omega),ls] at g4
      obtain ⟨j,k1,k2⟩:=subE_get g1
      rw [sg i j k1] at g3
      exact h4.apart j (od.n+(k - n')) a xs ys (by have:=hlt i j k1;omega) k2 g2 (join_some (Option.some.inj g3)) (by rw [si];exact g4)
    by_cases hi:i<n'
    . by_cases hk:k<n'
      . rw [List.getElem?_append_left (by omega)] at g1 g2 g3 g4
        obtain ⟨j,k1,k2⟩:=subE_get g1
        obtain ⟨l,k3,k4⟩:=subE_get g2
        rw [sg i j k1] at g3
        rw [sg k l k3] at g4
        exact h4.apart j l a xs ys (by rintro rfl;exact hij (ix_inj hx k1 k3)) k2 k4 (join_some (Option.some.inj g3)) (join_some (Option.some.inj g4))
      . exact mixed i k xs ys hi (by omega) g1 g2 g3 g4
    . by_cases hk:k<n'
      . exact mixed k i ys xs hk (by omega) g2 g1 g4 g3
      . rw [List.getElem?_append_right (by omega),le,fi] at g1 g2
        rw [List.getElem?_append_right (by omega),ls] at g3 g4
        exact h4.apart _ _ a xs ys (by omega) g1 g2 (by rw [si];exact g3) (by rw [si];exact g4)
end
section
structure Klass (K:PySem.W.Frag) (C:Addr) (names:List Str):Prop where
  cl:Cls K C
  no:∀f ∈ names,NoAttr K C f
structure MDef (P:Program) (w:World) (K:PySem.W.Frag) (mg:Str->Option Value) (base:Heap) (k:Nat) (C:Addr) (m:Str) (ps:List Str) (sp:Sp):Prop where
  ex:∃f fd,FnOk P w K mg base CX0 k f fd ps sp/\Meth K C m f/\Binds K fd ps []
structure KDef (P:Program) (w:World) (K:PySem.W.Frag) (mg:Str->Option Value) (base:Heap) (k:Nat) (C:Addr) (x:Str) (ps:List Str) (sp:Sp):Prop where
  ex:∃f fd,FnOk P w K mg base CX0 k f fd ps sp/\Mk K C f/\mg x=some (.ref C)/\Binds K fd ps []
variable {X:Cx} {od:OD} {e a:Expr} {es:List Expr} {pos p apos cpos:Pos} {x f m:Str} {fe fa:En->Option Sl} {fs:En->Option (List PyData)} {R:Rl} [RelOk X.K R] {C:Addr} {names:List Str}
theorem dp_fld (j : Nat) (k : Klass X.K od.C od.names) (hN : X.N[od.s]? = some x := by rfl) (hv : Vis X.env.scope x := by first | exact Or.inl rfl | exact Or.inr (Or.inl rfl) | exact Or.inr (Or.inr rfl)) (hj : od.names[j]? = some f := by rfl) (hd : (x == ("__debug__" : Str)) = false := by decide) (hcd : (x == ("__classdict__" : Str)) = false := by decide)
    (hb:attributeBase (.Name x p) f X.env (eval (.Name x p) X.env)=eval (.Name x p) X.env:=by rfl):DP X (FR X.K od) (.Attribute (.Name x p) f pos) (mPk (od.n+j)) :=
  ⟨_,pe_fld (pe_var hN hv hd hcd) hb,rp_fld k.cl (k.no f (List.mem_of_getElem? hj)) hj⟩
theorem de_fld (j : Nat) (k : Klass X.K od.C od.names) (hN : X.N[od.s]? = some x := by rfl) (hv : Vis X.env.scope x := by first | exact Or.inl rfl | exact Or.inr (Or.inl rfl) | exact Or.inr (Or.inr rfl)) (hj : od.names[j]? = some f := by rfl) (hd : (x == ("__debug__" : Str)) = false := by decide) (hcd : (x == ("__classdict__" : Str)) = false := by decide)
    (hb:attributeBase (.Name x p) f X.env (eval (.Name x p) X.env)=eval (.Name x p) X.env:=by rfl):DE X (FR X.K od) (.Attribute (.Name x p) f pos) (mVar (od.n+j)) :=
  ⟨_,pe_fld (pe_var hN hv hd hcd) hb,re_fld k.cl (k.no f (List.mem_of_getElem? hj)) hj⟩
theorem ds_fld (j : Nat) {pos' : Pos} (k : Klass X.K od.C od.names) (h : DE X (FR X.K od) e fe) (hN : X.N[od.s]? = some x := by rfl) (hv : Vis X.env.scope x := by first | exact Or.inl rfl | exact Or.inr (Or.inl rfl) | exact Or.inr (Or.inr rfl)) (hj : od.names[j]? = some f := by rfl) (hd : (x == ("__debug__" : Str)) = false := by decide) (hcd : (x == ("__classdict__" : Str)) = false := by decide)
    (hs:swapsWith e (some (.Attribute (.Name x p) f pos')) pos.line X.env=pure false:=by rfl) (hnd:od.names.Nodup:=by exact of_decide_eq_true rfl) (hlt:od.names.length<1000:=by exact of_decide_eq_true rfl):DS X (FR X.K od) (.Assign [.Attribute (.Name x p) f pos'] e pos) (mAsg (od.n+j) fe):=by
  obtain ⟨t,h1,h2⟩:=h
  exact ⟨_,ps_fld (pe_var hN hv hd hcd) h1 hs,rs_fld k.cl (k.no f (List.mem_of_getElem? hj)) hj hnd hlt h2⟩
theorem ds_appF (j : Nat) {p3 : Pos} (k : Klass X.K od.C od.names) (h : DE X (FR X.K od) e fe) (hN : X.N[od.s]? = some x := by rfl) (hv : Vis X.env.scope x := by first | exact Or.inl rfl | exact Or.inr (Or.inl rfl) | exact Or.inr (Or.inr rfl)) (hj : od.names[j]? = some f := by rfl) (hd : (x == ("__debug__" : Str)) = false := by decide) (hcd : (x == ("__classdict__" : Str)) = false := by decide)
    (hb:attributeBase (.Name x p) f X.env (eval (.Name x p) X.env)=eval (.Name x p) X.env:=by rfl)
    (hst:starEach [e] X.env=(false,eval e X.env)::starEach [] X.env:=by rfl) (hbase:attributeBase (.Attribute (.Name x p) f p3) "append" X.env (eval (.Attribute (.Name x p) f p3) X.env)=eval (.Attribute (.Name x p) f p3) X.env:=by rfl)
    (hfew:((backTo cpos (starEach [e] X.env)).all (fun x=> !x.1) && (backToKw cpos (keywordEach [] X.env)).all (fun x=>x.1.isSome) && decide ([e].length+([]:List Keyword).length+(if ([]:List Keyword).isEmpty then 0 else 1)<30))=true:=by rfl)
    (hline:(apos.endLine==cpos.line)=true:=by rfl) (hplain:(backTo cpos (starEach [] X.env)).any (·.1)=false:=by rfl)
    (hs:swapsWith (.Call (.Attribute (.Attribute (.Name x p) f p3) "append" apos) [e] [] cpos) none pos.line X.env=pure false:=by rfl):DS X (FR X.K od) (.Expr (.Call (.Attribute (.Attribute (.Name x p) f p3) "append" apos) [e] [] cpos) pos) (mApp (od.n+j) fe):=by
  obtain ⟨t,h1,h2⟩:=h
  exact ⟨_,ps_expr (pe_bm PySem.F.plainAttrs_list PySem.F.slot_list_append PySem.F.type_list_append mt_append (pe_fld (pe_var hN hv hd hcd) hb) (pa_cons h1 pa_nil hst) hbase hfew hline hst hplain) hs,rs_appF k.cl (k.no f (List.mem_of_getElem? hj)) hj h2⟩
theorem ds_setF (j : Nat) {p3 ps : Pos} (k : Klass X.K od.C od.names) (h : DE X (FR X.K od) e fe) (hi : DP X (FR X.K od) a fa) (hN : X.N[od.s]? = some x := by rfl) (hv : Vis X.env.scope x := by first | exact Or.inl rfl | exact Or.inr (Or.inl rfl) | exact Or.inr (Or.inr rfl)) (hj : od.names[j]? = some f := by rfl) (hd : (x == ("__debug__" : Str)) = false := by decide) (hcd : (x == ("__classdict__" : Str)) = false := by decide)
    (hb:attributeBase (.Name x p) f X.env (eval (.Name x p) X.env)=eval (.Name x p) X.env:=by rfl)
    (ha:∀v,assign (.Subscript (.Attribute (.Name x p) f p3) a ps) X.env v=(do
      let ov <-holding [v] (eval (.Attribute (.Name x p) f p3) X.env)
      let iv <-holding [v,ov] (eval a X.env)
      standAt ps
      holding [v,ov,iv] (setItem ov iv v)
      release [v,ov,iv] []):=by intro _;rfl)
    (hs:swapsWithSole [.Subscript (.Attribute (.Name x p) f p3) a ps] e pos.line X.env=pure false:=by rfl) (hw:swappedStores [.Subscript (.Attribute (.Name x p) f p3) a ps] e X.env=pure none:=by rfl) (h1:(assignEach [.Subscript (.Attribute (.Name x p) f p3) a ps] X.env).map (·.2) = [assign (.Subscript (.Attribute (.Name x p) f p3) a ps) X.env]:=by rfl) :
    DS X (FR X.K od) (.Assign [.Subscript (.Attribute (.Name x p) f p3) a ps] e pos) (mSet (od.n+j) fa fe):=by
  obtain ⟨t,a1,a2⟩:=h;obtain ⟨u,b1,b2⟩:=hi
  exact ⟨_,ps_asg a1 (pg_sub (pe_fld (pe_var hN hv hd hcd) hb) b1 set_list ha) hs hw h1,rs_setF k.cl (k.no f (List.mem_of_getElem? hj)) hj a2 b2⟩
variable {ps:List Str} {kk jj:Nat} {F:En->List PyData->Option (En×PyData)}
theorem ds_methE {pl : Sem Bool} (M : MDef X.prog X.w X.K X.mg X.base jj od.C m ps (spM X.K od.C od.names F)) (k : Klass X.K od.C od.names) (hr : Room kk X.A) (h : DA X (FR X.K od) (e :: es) fs) (hjj : jj <= kk := by decide) (hm : m ∉ od.names := by exact of_decide_eq_true rfl) (hN : X.N[od.s]? = some x := by rfl) (hv : Vis X.env.scope x := by first | exact Or.inl rfl | exact Or.inr (Or.inl rfl) | exact Or.inr (Or.inr rfl)) (hd : (x == ("__debug__" : Str)) = false := by decide) (hcd : (x == ("__classdict__" : Str)) = false := by decide)
    (hst:starEach (e::es) X.env=(false,eval e X.env)::starEach es X.env:=by rfl) (hpl:(backTo cpos (starEach es X.env)).any (·.1)=false:=by rfl)
    (ht:eval (.Call (.Attribute (.Name x p) m apos) (e::es) [] cpos) X.env=(do
      let ov <-eval (.Name x p) X.env
      standAt apos.atName
      let (f,first) <-holding [ov] (getMethod ov m pl)
      callWith cpos f first (backTo cpos (starEach (e::es) X.env)) (backToKw cpos (keywordEach [] X.env))):=by rfl)
    (hs:swapsWith (.Call (.Attribute (.Name x p) m apos) (e::es) [] cpos) none pos.line X.env=pure false:=by rfl):DS X (FR X.K od) (.Expr (.Call (.Attribute (.Name x p) m apos) (e::es) [] cpos) pos) (mMeth od.n F fs fun ρ _=>some (.nx ρ)):=by
  obtain ⟨t,h1,h2⟩:=h
  obtain ⟨f,fd,F1,M1,b1⟩:=M.ex
  exact ⟨_,ps_expr (pe_meth (pl:=pl) (pe_var hN hv hd hcd) k.cl M1 F1 (hr.mono hjj) b1 .nil pass0 h1 hst hpl ht) hs,rs_methE hm h2⟩
theorem ds_methA (i : Nat) {pl : Sem Bool} {y : Str} {pos' : Pos} (M : MDef X.prog X.w X.K X.mg X.base jj od.C m ps (spM X.K od.C od.names F)) (k : Klass X.K od.C od.names) (hr : Room kk X.A) (h : DA X (FR X.K od) (e :: es) fs) (hnd : X.N.Nodup) (hjj : jj <= kk := by decide) (hm : m ∉ od.names := by exact of_decide_eq_true rfl) (hN : X.N[od.s]? = some x := by rfl) (hv : Vis X.env.scope x := by first | exact Or.inl rfl | exact Or.inr (Or.inl rfl) | exact Or.inr (Or.inr rfl)) (hd : (x == ("__debug__" : Str)) = false := by decide) (hcd : (x == ("__classdict__" : Str)) = false := by decide)
    (hst:starEach (e::es) X.env=(false,eval e X.env)::starEach es X.env:=by rfl) (hpl:(backTo cpos (starEach es X.env)).any (·.1)=false:=by rfl)
    (ht:eval (.Call (.Attribute (.Name x p) m apos) (e::es) [] cpos) X.env=(do
      let ov <-eval (.Name x p) X.env
      standAt apos.atName
      let (f,first) <-holding [ov] (getMethod ov m pl)
      callWith cpos f first (backTo cpos (starEach (e::es) X.env)) (backToKw cpos (keywordEach [] X.env))):=by rfl)
    (hi:X.N[i]? = some y:=by rfl) (hx:Loc X.env.scope y:=by first | exact Or.inl rfl | exact Or.inr rfl) (hs:swapsWith (.Call (.Attribute (.Name x p) m apos) (e::es) [] cpos) (some (.Name y pos')) pos.line X.env=pure false:=by rfl) (hf:X.fn y=true\/X.env.scope.names.lookup y=some .local:=by first | exact .inl rfl | exact .inr rfl)
    (hsl:(FR X.K od).slot i:=by exact ⟨of_decide_eq_true rfl,of_decide_eq_true rfl⟩):DS X (FR X.K od) (.Assign [.Name y pos'] (.Call (.Attribute (.Name x p) m apos) (e::es) [] cpos) pos) (mMeth od.n F fs fun ρ d=>some (.nx (ρ.set i (some (.val d))))):=by
  obtain ⟨t,h1,h2⟩:=h
  obtain ⟨f,fd,F1,M1,b1⟩:=M.ex
  exact ⟨_,ps_set hnd hi hx (pe_meth (pl:=pl) (pe_var hN hv hd hcd) k.cl M1 F1 (hr.mono hjj) b1 .nil pass0 h1 hst hpl ht) hs hf,rs_methA hsl hm h2⟩
theorem db_make {l : Nat} (M : KDef X.prog X.w X.K X.mg X.base jj C x ps (spM X.K C names F)) (hr : Room kk X.A) (h : DA X R (e :: es) fs) (hl : l = names.length := by rfl) (hjj : jj + 1 <= kk := by decide) (hg : Gl X x := by rfl) (hdb : (x == ("__debug__" : Str)) = false := by decide) (he : starEach (e :: es) X.env = (false, eval e X.env) :: starEach es X.env := by rfl) (hpl : (backTo pos (starEach es X.env)).any (·.1) = false := by rfl) :
    DB X R C names (.Call (.Name x p) (e::es) [] pos) (mMake l F fs):=by
  obtain ⟨t,h1,h2⟩:=h
  obtain ⟨f,fd,F1,M1,m1,b1⟩:=M.ex
  exact ⟨_,pe_make M1 F1 (hr.mono hjj) hg m1 b1 .nil pass0 h1 hdb he hpl,rb_make hl h2⟩
theorem db_call {G : List PyData -> Option En} (D : Tf.Def X.prog X.w X.K X.mg X.base jj x ps (spO X.K C names G)) (hr : Room kk X.A) (h : DA X R (e :: es) fs) (hj : jj <= kk := by decide) (hg : Gl X x := by rfl)
    (hdb:(x==("__debug__" : Str))=false:=by decide) (he:starEach (e::es) X.env=(false,eval e X.env)::starEach es X.env:=by rfl) (hpl:(backTo pos (starEach es X.env)).any (·.1)=false:=by rfl):DB X R C names (.Call (.Name x p) (e::es) [] pos) (mCallO G fs):=by
  obtain ⟨t,h1,h2⟩:=h
  exact ⟨_,pe_callD D hr h1 hj hg hdb he hpl,rb_call h2⟩
theorem de_fldO(j:Nat){fo:En->Option En}(k:Klass X.K C names)(h:DB X R C names e fo)(hj:names[j]? = some f:=by rfl)(hb:attributeBase e f X.env (eval e X.env)=eval e X.env:=by rfl):DE X R (.Attribute e f pos) (mFldO j fo):=by
  obtain ⟨t,h1,h2⟩:=h
  exact ⟨_,pe_fld h1 hb,re_fldO k.cl (k.no f (List.mem_of_getElem? hj)) hj h2⟩
theorem dss_obj (s n : Nat) {fo : En -> Option En} {g : En -> Option Out} {rest : List Stmt} {pos' : Pos} (h : DB X (PR X.K) C names e fo) (hr : ∀ p : Addr, DSs X (FR X.K ⟨C, names, s, n, p⟩) rest g) (hnd : X.N.Nodup) (hsn : s < n := by decide) (hi : X.N[s]? = some x := by rfl) (hx : Loc X.env.scope x := by first | exact Or.inl rfl | exact Or.inr rfl)
    (hs:swapsWith e (some (.Name x pos')) pos.line X.env=pure false:=by rfl) (hf:X.fn x=true\/X.env.scope.names.lookup x=some .local:=by first | exact .inl rfl | exact .inr rfl):DSs X (PR X.K) (.Assign [.Name x pos'] e pos::rest) (mObj n s fo g):=by
  obtain ⟨t,h1,h2⟩:=h
  refine ⟨_,pss_cons (ps_set hnd hi hx h1 hs hf) (u:=fun D σ H=>∃p,(hr p).choose D σ H) (fun pins s σ H D I ⟨p,hp⟩=>(hr p).choose_spec.1 pins s σ H D I hp),rs_obj h2 (fun p=> ?_) hsn⟩
  exact fun HB S0 σ ρ H0 H x e o ho D d=>⟨p,(hr p).choose_spec.2 HB S0 σ ρ H0 H x e o ho D d⟩
end
end Dm
namespace Dm
open PySem PySem.Spec L2 Tf
theorem forM_list {fg : PyData -> En -> Option En} {gb : En -> Option Out} {ds : List PyData} {ρ : En} (P : Nat -> En -> Prop) (h0 : P 0 ρ)
    (hs:∀(i:Nat) d ρ,ds[i]? = some d->P i ρ->∃ρ1,fg d ρ=some ρ1/\∃ρ2,(gb ρ1=some (.nx ρ2)\/gb ρ1=some (.ct ρ2))/\P (i+1) ρ2):∃ρ',forM fg gb ds ρ=some (.nx ρ')/\P ds.length ρ':=by
  induction ds generalizing ρ P with
  | nil=>exact ⟨ρ,rfl,h0⟩
  | cons d ds ih=>
    obtain ⟨ρ1,h1,ρ2,h2,h3⟩:=hs 0 d ρ rfl h0
    obtain ⟨ρ',h4,h5⟩:=ih (ρ:=ρ2) (fun i=>P (i+1)) h3 (fun i d' ρ hi hp=>hs (i+1) d' ρ (by simpa using hi) hp)
    refine ⟨ρ',?_,h5⟩
    unfold forM
    rw [h1]
    show Option.bind (gb ρ1) _=_
    rcases h2 with h2 | h2 <;> (rw [h2];exact h4)
theorem forM_range {fg : PyData -> En -> Option En} {gb : En -> Option Out} {lo : Int} {n : Nat} {ρ : En} (P : Nat -> En -> Prop) (h0 : P 0 ρ)
    (hs:∀(i:Nat) ρ,i<n->P i ρ->∃ρ1,fg (.int (lo+(i:Nat))) ρ=some ρ1/\∃ρ2,(gb ρ1=some (.nx ρ2)\/gb ρ1=some (.ct ρ2))/\P (i+1) ρ2):∃ρ',forM fg gb (rngD lo n) ρ=some (.nx ρ')/\P n ρ':=by
  have h:=forM_list (fg:=fg) (gb:=gb) (ds:=rngD lo n) (ρ:=ρ) P h0 (fun i d ρ hi hp=>by
    rw [rngD_get] at hi
    split at hi
    . rename_i hlt
      cases hi
      exact hs i ρ hlt hp
    . cases hi)
  have hl:(rngD lo n).length=n:=by simp [rngD]
  rw [hl] at h
  exact h
theorem forM_find {fg : PyData -> En -> Option En} {gb : En -> Option Out} {lo : Int} {n : Nat} {ρ : En} (P : Nat -> En -> Prop) (Z : Out -> Prop) (h0 : P 0 ρ)
    (hs:∀(i:Nat) ρ,i<n->P i ρ->∃ρ1,fg (.int (lo+(i:Nat))) ρ=some ρ1/\((∃ρ2,gb ρ1=some (.nx ρ2)/\P (i+1) ρ2)\/∃r ρ2,gb ρ1=some (.rt r ρ2)/\Z (.rt r ρ2))):(∃ρ',forM fg gb (rngD lo n) ρ=some (.nx ρ')/\P n ρ')\/∃o,forM fg gb (rngD lo n) ρ=some o/\Z o:=by
  have gen:∀(k j:Nat) ρ,j+k=n->P j ρ->(∃ρ',forM fg gb ((rngD lo n).drop j) ρ=some (.nx ρ')/\P n ρ')\/∃o,forM fg gb ((rngD lo n).drop j) ρ=some o/\Z o:=by
    intro k
    induction k with
    | zero=>
      intro j ρ hj hp
      have:j=n:=by omega
      subst this
      rw [List.drop_eq_nil_of_le (by simp [rngD])]
      exact .inl ⟨ρ,rfl,hp⟩
    | succ k ih=>
      intro j ρ hj hp
      obtain ⟨ρ1,h1,h2⟩:=hs j ρ (by omega) hp
      rw [forM_drop (d:= .int (lo+(j:Nat))) (by rw [rngD_get,if_pos (by omega)]),h1]
      rcases h2 with ⟨ρ2,h3,h4⟩ | ⟨r,ρ2,h3,h4⟩
      . have:=ih (j+1) ρ2 (by omega) h4
        simp only [Option.bind_some,h3]
        exact this
      . simp only [Option.bind_some,h3]
        exact .inr ⟨_,rfl,h4⟩
  have:=gen n 0 ρ (by omega) h0
  simpa using this
theorem compM_map{α:Type}{f:PyData->Option (Option PyData)}{en:α->PyData}{g:α->PyData}:∀ {xs:List α},(∀x ∈ xs,f (en x)=some (some (g x)))->compM f (xs.map en)=some (xs.map g)
  | [],_=>rfl
  | x::xs,h=>by
    rw [List.map_cons,compM,h x List.mem_cons_self,compM_map (fun y hy=>h y (List.mem_cons_of_mem _ hy))]
    rfl
theorem compM_range{f:PyData->Option (Option PyData)}{g:Nat->PyData}{lo:Int}{n:Nat}(h:∀i,i<n->f (.int (lo+(i:Nat)))=some (some (g i))):compM f (rngD lo n)=some ((List.range n).map g) :=
  compM_map (en:=fun i:Nat=>PyData.int (lo+(i:Nat))) fun i hi=>h i (List.mem_range.mp hi)
theorem while_inv {c : En -> Option Bool} {b : En -> Option Out} {ρ : En} (P : En -> Prop) (μ : En -> Nat) (h0 : P ρ)
    (hs:∀ρ,P ρ->c ρ=some false\/(c ρ=some true/\∃ρ',b ρ=some (.nx ρ')/\P ρ'/\μ ρ'<μ ρ)):∃ρ',mWhile c b ρ=some (.nx ρ')/\P ρ'/\c ρ'=some false:=by
  have gen:∀(n:Nat) ρ,μ ρ<n->P ρ->∃ρ',whileF c b n ρ=some (.nx ρ')/\P ρ'/\c ρ'=some false:=by
    intro n
    induction n with
    | zero=>intro ρ h;omega
    | succ n ih=>
      intro ρ hm hp
      rcases hs ρ hp with h | ⟨h,ρ1,h1,h2,h3⟩
      . exact ⟨ρ,by simp [whileF,h],hp,h⟩
      . obtain ⟨ρ',h4,h5⟩:=ih ρ1 (by omega) h2
        exact ⟨ρ',by simp [whileF,h,h1,h4],h5⟩
  obtain ⟨ρ',h1,h2⟩:=gen (μ ρ+1) ρ (by omega) h0
  exact ⟨ρ',mWhile_of h1,h2⟩
def Rts(g:En->Option Out)(ρ:En)(r:Sl):Prop:=∃ρ',g ρ=some (.rt r ρ')
theorem rts_seq{f g:En->Option Out}{ρ ρ':En}{r:Sl}(h:f ρ=some (.nx ρ'))(k:Rts g ρ' r):Rts (mSeq f g) ρ r:=by
  obtain ⟨ρ2,k⟩:=k
  exact ⟨ρ2,by unfold mSeq;rw [h];exact k⟩
theorem rts_seqR{f g:En->Option Out}{ρ:En}{r:Sl}(h:Rts f ρ r):Rts (mSeq f g) ρ r:=by
  obtain ⟨ρ2,h⟩:=h
  exact ⟨ρ2,by unfold mSeq;rw [h];rfl⟩
theorem rts_ret{f:En->Option Sl}{ρ:En}{r:Sl}(h:f ρ=some r):Rts (mRet f) ρ r:=⟨ρ,by unfold mRet;rw [h];rfl⟩
theorem rts_if{c:En->Option Bool}{f g:En->Option Out}{ρ:En}{r:Sl}{b:Bool}(h:c ρ=some b)(k:Rts (if b then f else g) ρ r):Rts (mIf c f g) ρ r:=by
  obtain ⟨ρ2,k⟩:=k
  refine ⟨ρ2,?_⟩
  unfold mIf
  rw [h]
  cases b <;> exact k
theorem rts_frz{i:Nat}{g:En->Option Out}{ρ:En}{r:Sl}(k:Rts g (frz1 i ρ) r):Rts (mFrz i g) ρ r:=k
theorem runD_rt{n k:Nat}{g:En->Option Out}{ds:List PyData}{ρ:En}{r:Sl}(hl:ds.length=k)(e:ds.map (fun d=>some (Sl.val d))++List.replicate (n - ds.length) none=ρ)(h:Rts g ρ r):runD n g k ds=some r:=by
  obtain ⟨ρ',h⟩:=h
  unfold runD
  rw [if_pos hl,e,h]
  rfl
theorem runM_rt{n m k:Nat}{g:En->Option Out}{φ:En}{ds:List PyData}{ρ ρ':En}{d:PyData}(hl:ds.length+1=m)(hk:φ.length=k)(e:(none::ds.map (fun d=>some (Sl.val d)))++List.replicate (n - (ds.length+1)) none++φ=ρ)(h:g ρ=some (.rt (.val d) ρ')):runM n m k g φ ds=some (ρ'.drop n,d):=by
  unfold runM
  rw [if_pos ⟨hl,hk⟩,e,h]
  rfl
theorem runM_nx{n m k:Nat}{g:En->Option Out}{φ:En}{ds:List PyData}{ρ ρ':En}(hl:ds.length+1=m)(hk:φ.length=k)(e:(none::ds.map (fun d=>some (Sl.val d)))++List.replicate (n - (ds.length+1)) none++φ=ρ)(h:g ρ=some (.nx ρ')):runM n m k g φ ds=some (ρ'.drop n, .none):=by
  unfold runM
  rw [if_pos ⟨hl,hk⟩,e,h]
  rfl
theorem seq_to{f g:En->Option Out}{ρ ρ':En}{o:Out}(h:f ρ=some (.nx ρ'))(k:g ρ'=some o):mSeq f g ρ=some o:=by
  unfold mSeq
  rw [h]
  exact k
theorem seq_rt{f g:En->Option Out}{ρ ρ':En}{r:Sl}(h:f ρ=some (.rt r ρ')):mSeq f g ρ=some (.rt r ρ'):=by
  unfold mSeq
  rw [h]
  rfl
theorem if_to{c:En->Option Bool}{f g:En->Option Out}{ρ:En}{o:Out}{b:Bool}(h:c ρ=some b)(k:(if b then f ρ else g ρ)=some o):mIf c f g ρ=some o:=by
  unfold mIf
  rw [h]
  exact k
theorem asg_to{i:Nat}{f:En->Option Sl}{ρ:En}{r:Sl}(h:f ρ=some r):mAsg i f ρ=some (.nx (ρ.set i (some r))):=by
  unfold mAsg
  rw [h]
  rfl
theorem ret_to{f:En->Option Sl}{ρ:En}{r:Sl}(h:f ρ=some r):mRet f ρ=some (.rt r ρ):=by
  unfold mRet
  rw [h]
  rfl
theorem call_to{F:List PyData->Option Sl}{f:En->Option (List PyData)}{ρ:En}{ds:List PyData}{r:Sl}(h:f ρ=some ds)(k:F ds=some r):mCall F f ρ=some r:=by
  unfold mCall
  rw [h]
  exact k
theorem for_to{fi:En->Option (List PyData)}{fg:PyData->En->Option En}{gb:En->Option Out}{ρ:En}{ds:List PyData}{o:Out}(h:fi ρ=some ds)(k:forM fg gb ds ρ=some o):mFor fi fg gb ρ=some o:=by
  unfold mFor
  rw [h]
  exact k
theorem lc_to{sb:En->En}{fi:En->Option (List PyData)}{fg:PyData->En->Option En}{ft:En->Option Bool}{fe:En->Option Sl}{ρ:En}{ds es:List PyData}(h:fi ρ=some ds)(hl:ds.length<sizeLine)(k:compM (elM fg ft fe (sb ρ)) ds=some es):mLC sb fi fg ft fe ρ=some (.own es):=by
  unfold mLC
  rw [h]
  show (if ds.length<sizeLine then _ else _)=_
  rw [if_pos hl,k]
  rfl
theorem mulS{i j:Int}(h:CMulA i j):dRep (.val (.int i)) (.val (.int j))=some (.val (.int (i*j))):=by
  unfold dRep dMulI iopC
  simp only [if_pos h]
theorem divS{i j:Int}(h:CDivB i j):dFdiv (.val (.int i)) (.val (.int j))=some (.val (.int (i.fdiv j))):=by
  unfold dFdiv iopC
  simp only [if_pos h]
theorem modS{i j:Int}(h:j≠0):dMod (.val (.int i)) (.val (.int j))=some (.val (.int (i.fmod j))):=by
  unfold dMod iopC
  simp only [if_pos h]
theorem powS{i j:Int}(h:CPow i j):dPow (.val (.int i)) (.val (.int j))=some (.val (.int (i ^ j.toNat))):=by
  unfold dPow iopC
  simp only [if_pos h]
theorem shrS{i j:Int}(h:0<=j):dShr (.val (.int i)) (.val (.int j))=some (.val (.int (i / 2 ^ j.toNat))):=by
  unfold dShr iopC
  simp only [if_pos h]
theorem rng1_to{f:En->Option (List Sl)}{ρ:En}{j:Nat}(h:f ρ=some [.val (.int j)])(hj:j<=1000):mRng1 f ρ=some (rngD 0 j):=by
  have b:inB (j:Int):=by
    constructor
    . have : -(2 ^ 62:Int)<=0:=by decide
      omega
    . have:(1000:Int)<2 ^ 62:=by decide
      omega
  unfold mRng1
  rw [h]
  show (if inB (j:Int) then some (rngD 0 ((j:Int).toNat)) else none)=_
  rw [if_pos b,Int.toNat_natCast]
theorem rng2_to{f:En->Option (List Sl)}{ρ:En}{i j:Nat}(h:f ρ=some [.val (.int i), .val (.int j)])(hi:i<=1000)(hj:j<=1000):mRng2 f ρ=some (rngD i (j - i)):=by
  have b:∀j:Nat,j<=1000->inB (j:Int):=by
    intro j hj
    constructor
    . have : -(2 ^ 62:Int)<=0:=by decide
      omega
    . have:(1000:Int)<2 ^ 62:=by decide
      omega
  unfold mRng2
  rw [h]
  show (if inB (i:Int)/\inB (j:Int) then some (rngD i (((j:Int) - (i:Int)).toNat)) else none)=_
  rw [if_pos ⟨b i hi,b j hj⟩,Int.toNat_sub]
theorem small64:(200:Nat)<=sizeLine:=by decide
theorem eqD_int(i j:Int):eqD (.int i) (.int j)=some (decide (i=j)):=by
  have:PyData.eqv (.int i) (.int j)=decide (i=j):=by simp [PyData.eqv,Bool.beq_eq_decide_eq]
  unfold eqD
  rw [if_pos ⟨rfl,rfl,by simp [PyData.depth]⟩,this]
def encF(q:Int×Int):PyData:= .tuple [.int q.1, .int q.2]
theorem eqD_frac(p q:Int×Int):eqD (encF p) (encF q)=some (decide (p=q)):=by
  have:PyData.eqv (encF p) (encF q)=decide (p=q):=by
    obtain ⟨a,b⟩:=p
    obtain ⟨c,d⟩:=q
    simp [encF,PyData.eqv,PyData.eqvAll,Bool.beq_eq_decide_eq]
  unfold eqD
  rw [if_pos ⟨rfl,rfl,by simp [encF,PyData.depth,PyData.depthAll]⟩,this]
theorem lay_list{α:Type}{en:α->PyData}(h:∀x,(en x).canLay0=true):∀xs:List α,PyData.canLayAll0 (xs.map en)=true
  | []=>rfl
  | x::xs=>by rw [List.map_cons,PyData.canLayAll0,h x,lay_list h xs];rfl
theorem dep_list{α:Type}{en:α->PyData}{k:Nat}(h:∀x,(en x).depth<=k):∀xs:List α,PyData.depthAll (xs.map en)<=k
  | []=>Nat.zero_le _
  | x::xs=>by rw [List.map_cons,PyData.depthAll];exact Nat.max_le.mpr ⟨h x,dep_list h xs⟩
theorem eqD_same{d:PyData}(h:d.canLay0=true)(k:d.depth<=60):eqD d d=some true:=by
  unfold eqD
  rw [if_pos ⟨h,h,by omega⟩,SeqAt.eqv_refl d h]
end Dm
namespace Dm
open PySem PySem.Spec PyProof.Rows L2 Tf
section
variable {X:Cx}
def rInD(K:PySem.W.Frag)(neg:Bool):R2:=fun x y H Q=>∃p xs dx ds,y = .ref p/\(SqL K H p xs\/SqT K H p xs)/\Rep K H x dx/\Reps K H xs ds/\dx.canLay0=true/\(∀d ∈ ds,d.canLay0=true)/\dx.depth<=60/\Q (.bl (if neg then !(ds.any fun d=>PyData.eqv d dx) else ds.any fun d=>PyData.eqv d dx)) H
open Classical in
noncomputable def eqW(h:Heap)(ds:List PyData)(dx:PyData)(u:Value):Bool:=decide (∃d ∈ ds,(∃as,Reads h u d as)/\PyData.eqv d dx=true)
open Classical in
theorem eqW_of{h:Heap}{ds:List PyData}{dx d:PyData}{u:Value}{as:List Addr}(hd:d ∈ ds)(hl:∀d ∈ ds,d.canLay0=true)(r:Reads h u d as):eqW h ds dx u=PyData.eqv d dx:=by
  unfold eqW
  by_cases e:PyData.eqv d dx=true
  . rw [e];exact decide_eq_true ⟨d,hd,⟨as,r⟩,e⟩
  . rw [Bool.eq_false_iff.mpr e]
    refine decide_eq_false ?_
    rintro ⟨d',hd',⟨as',r'⟩,e'⟩
    rw [<-SeqAt.Reads.unique d d' u as as' (hl d hd) r r'] at e'
    exact e e'
theorem any_eqW{h:Heap}{dx:PyData}{all:List PyData}(hl:∀d ∈ all,d.canLay0=true):∀ {us:List Value} {ds:List PyData} {as:List Addr},ReadsAll h us ds as->(∀d ∈ ds,d ∈ all)->us.any (eqW h all dx)=ds.any fun d=>PyData.eqv d dx
  | _,_,_, .nil,_=>rfl
  | _,_,_, .cons r t,hs=>by
    rw [List.any_cons,List.any_cons,eqW_of (hs _ List.mem_cons_self) hl r,any_eqW hl t fun d hd=>hs d (List.mem_cons_of_mem _ hd)]
theorem mem_readsAll{h:Heap}:∀ {us:List Value} {ds:List PyData} {as:List Addr},ReadsAll h us ds as->∀u ∈ us,∃d ∈ ds,∃bs,Reads h u d bs
  | _,_,_, .nil,u,hu=>by cases hu
  | _,_,_, .cons r t,u,hu=>by
    rcases List.mem_cons.mp hu with rfl | hu
    . exact ⟨_,List.mem_cons_self,_,r⟩
    . obtain ⟨d,hd,q⟩:=mem_readsAll t u hu
      exact ⟨d,List.mem_cons_of_mem _ hd,q⟩
theorem in1_units(A:Around):A.in1.units=A.units+1:=rfl
theorem op_inD(hu:X.A.units+64<cLine):OpR X (compareOp .In) (rInD X.K false):=by
  intro pins s σ H x y v u Q I rx ry h
  obtain ⟨p,xs,dx,ds,rfl,hq,hx,hs,lx,ld,dp,q⟩:=h
  cases ry
  obtain ⟨bs,r2⟩:=hx.reads I rx
  rcases hq with hq | hq
  . obtain ⟨its,r,pl,hz⟩:=I.list hq
    obtain ⟨as,ra⟩:=Reps.reads I hs r
    refine SeqAt.in_listAt (eqW s.heap ds dx) pl.isList (fun w hw=> ?_) ⟨.bl _,H,I,rfl,?_⟩
    . obtain ⟨d,hd,cs,rd⟩:=mem_readsAll ra w (by simpa using hw)
      rw [eqW_of hd ld rd]
      exact SeqAt.eqAt_reads d dx _ _ _ _ _ _ rd r2 (ld d hd) lx (by have:=in1_units X.A;omega)
    . rw [show its.toArray.any (eqW s.heap ds dx)=its.any (eqW s.heap ds dx) by simp,any_eqW ld ra fun _ h=>h]
      exact q
  . obtain ⟨its,r,pl,hz⟩:=I.tuple hq
    obtain ⟨as,ra⟩:=Reps.reads I hs r
    refine SeqAt.in_tupleAt (eqW s.heap ds dx) pl (fun w hw=> ?_) ⟨.bl _,H,I,rfl,?_⟩
    . obtain ⟨d,hd,cs,rd⟩:=mem_readsAll ra w (by simpa using hw)
      rw [eqW_of hd ld rd]
      exact SeqAt.eqAt_reads d dx _ _ _ _ _ _ rd r2 (ld d hd) lx (by have:=in1_units X.A;omega)
    . rw [show its.toArray.any (eqW s.heap ds dx)=its.any (eqW s.heap ds dx) by simp,any_eqW ld ra fun _ h=>h]
      exact q
def inD(neg:Bool)(dx:PyData)(ds:List PyData):Option Sl:=if dx.canLay0=true/\(ds.all fun d=>d.canLay0)=true/\dx.depth<=60 then some (.val (.bool (if neg then !(ds.any fun d=>PyData.eqv d dx) else ds.any fun d=>PyData.eqv d dx))) else none
def dInD(neg:Bool)(a b:Sl):Option Sl:=match b.dat with
  | .list ds=>inD neg a.dat ds
  | .tuple ds=>inD neg a.dat ds
  | _=>none
theorem opd_inD{K:PySem.W.Frag}{neg:Bool}:OpD K (rInD K neg) (dInD neg):=fun H0 H x y sx sy z s px py hz Q q=>by
  unfold dInD at hz
  split at hz
  . rename_i ds hd
    unfold inD at hz
    split at hz
    . rename_i hc
      cases hz
      obtain ⟨a,vs,rfl,h1,h2⟩:=py.lst s hd
      exact ⟨a,vs,_,ds,rfl, .inl h1,px.rep s,Reps.same s h2,hc.1,fun d hd=>List.all_eq_true.mp hc.2.1 d hd,hc.2.2,q _ _ _ (Ext.refl s) (.bool _)⟩
    . cases hz
  . rename_i ds hd
    unfold inD at hz
    split at hz
    . rename_i hc
      cases hz
      obtain ⟨a,vs,rfl,h1,h2⟩:=py.tup hd
      exact ⟨a,vs,_,ds,rfl, .inr (s.seqT h1),px.rep s,Reps.same s h2,hc.1,fun d hd=>List.all_eq_true.mp hc.2.1 d hd,hc.2.2,q _ _ _ (Ext.refl s) (.bool _)⟩
    . cases hz
  . cases hz
variable {R:Rl} [RelOk X.K R] {a b e:Expr} {pos p:Pos} {fa fb f:En->Option Sl}
theorem dt_inD(hu:X.A.units+64<cLine)(ha:DP X R a fa)(hb:DP X R b fb)(hm:behindInMarks .In b=false:=by with_unfolding_all rfl):DT X R (.Compare a [.In] [b] pos) (mTest (mBin (dInD false) fa fb)):=dt_cmp (op_inD hu) opd_inD ha hb hm
end
end Dm
namespace Dm
open PySem PySem.Spec PyProof.Rows L2 Tf
structure OR (C:Addr) (names:List Str) (H:Hp) (p:Addr) (vals:L2.St):Prop where
  len:vals.length=names.length
  ins:∃dx fs,H p=some (.ins C dx fs)/\(∀(j:Nat) f,names[j]? = some f->fs.lookup f=(vals[j]?).join)/\∀f,f ∉ names->fs.lookup f=none
section
variable {K:PySem.W.Frag} {C:Addr} {names:List Str}
theorem OR.same{H H':Hp}{p:Addr}{vals:L2.St}(x:Same H H')(o:OR C names H p vals):OR C names H' p vals:=by
  obtain ⟨dx,fs,h1,h2⟩:=o.ins
  exact ⟨o.len,dx,fs,x _ _ h1,h2⟩
theorem OR.other{H:Hp}{p a:Addr}{vals:L2.St}{vs:List V}{u:HO}(o:OR C names H p vals)(h:H a=some (.lst vs)):OR C names (upd H a u) p vals:=by
  obtain ⟨dx,fs,h1,h2⟩:=o.ins
  have hne:p≠a:=by rintro rfl;rw [h1] at h;cases h
  exact ⟨o.len,dx,fs,by rw [upd_ne hne];exact h1,h2⟩
def FO(K:PySem.W.Frag)(od:OD):Rl:=
  ⟨fun HB H0 H σ ρ=>σ.length=od.n/\∃vals,σ[od.s]? = some (some (.ref od.p))/\OR od.C od.names H od.p vals/\ER K HB H0 H (σ++vals) ρ,fun i=>i≠od.s/\i<od.n⟩
instance relOk_FO {od:OD}:RelOk K (FO K od) where
  ext:=fun x ⟨h1,vals,h2,h3,h4⟩=>⟨h1,vals,h2,h3.same x.s,h4.ext x⟩
  get:=fun ⟨h1,vals,h2,h3,h4⟩ hs h=>by
    obtain ⟨v,e1,e2⟩:=h4.get _ _ h
    rw [List.getElem?_append_left (by rw [h1];exact hs.2)] at e1
    exact ⟨v,e1,e2⟩
  set:=fun {HB H0 H H0' H' σ ρ i v s} ⟨h1,vals,h2,h3,h4⟩ hs x sb h=>by
    refine ⟨by rw [List.length_set];exact h1,vals,by rw [List.getElem?_set_ne hs.1];exact h2,h3.same x.s,?_⟩
    have:=h4.set (i:=i) x sb h
    rw [app_set (by rw [h1];exact hs.2)] at this
    exact this
  write:=fun {HB H0 H σ ρ i a ds es vs ys} ⟨h1,vals,h2,h3,h4⟩ hs hi hσ hb h0 ha hr=>by
    refine ⟨h1,vals,h2,h3.other ha,?_⟩
    exact h4.write hi (by rw [List.getElem?_append_left (by rw [h1];exact hs.2)];exact hσ) hb h0 hr
  frz:=fun ⟨h1,vals,h2,h3,h4⟩ _ hi x=>by
    obtain ⟨a,vs,ha,x',e'⟩:=h4.frz hi x
    exact ⟨_,x',h1,vals,h2,h3,e'⟩
variable {od:OD}
theorem fldO_at {HB H0 H : Hp} {σ : L2.St} {ρ : En} {j : Nat} {f : Str} {r : Sl} (e : ST (FO K od) HB H0 H σ ρ) (hj : od.names[j]? = some f) (h : ρ[od.n + j]? = some (some r)) :
    ∃dx fs v,σ[od.s]? = some (some (.ref od.p))/\H od.p=some (.ins od.C dx fs)/\fs.lookup f=some v/\SlH K HB H0 H v r:=by
  obtain ⟨h1,vals,h2,h3,h4⟩:=e.r
  obtain ⟨v,e1,e2⟩:=h4.get _ _ h
  rw [<-h1,List.getElem?_append_right (Nat.le_add_right _ _),Nat.add_sub_cancel_left] at e1
  obtain ⟨dx,fs,q1,q3,q4⟩:=h3.ins
  exact ⟨dx,fs,v,h2,q1,by rw [q3 j f hj,e1];rfl,e2⟩
theorem rp_fldR{j:Nat}{f:Str}(hc:Cls K od.C)(hn:NoAttr K od.C f)(hj:od.names[j]? = some f):RP K (FO K od) (tFld K (tVar od.s) f) (mPk (od.n+j)):=fun HB σ ρ H0 H s e r hr Q q=>by
  obtain ⟨dx,fs,v,h1,h2,h3,h4⟩:=fldO_at e hj (join_some hr)
  exact ⟨.ref od.p,h1,od.p,od.C,dx,fs,v,rfl,h2,hc,hn,h3,q v H0 H (Ext.refl s) h4.p⟩
def spR(K:PySem.W.Frag)(C:Addr)(names:List Str)(F:List PyData->List PyData->Option Sl):Sp:=fun vs H Q _=>∃H0 p fv fd ds r vs',vs = .ref p::vs'/\Same H0 H/\OR C names H p (fv.map some)/\Reps K H0 fv fd/\Reps K H0 vs' ds/\F fd ds=some r /\
  ∀v H0' H',Ext H0 H H0' H'->SlH K H H0' H' v r->Q v H'
def flatS:Sl->Bool
  | .val (.int _)=>true
  | .val (.bool _)=>true
  | .val .none=>true
  | .val (.str _)=>true
  | .own ds=>(intsOf ds).isSome
  | _=>false
theorem flatS_free{HB H0 H H0':Hp}{v:V}(hs:∀a,HB a=none->H0' a=none):∀ {r:Sl},flatS r=true->SlH K HB H0 H v r->SlH K HB H0' H v r
  | .val (.int i),_,h=>by cases (show Rep K H0 v (.int i) from h);exact Rep.int i
  | .val (.bool i),_,h=>by cases (show Rep K H0 v (.bool i) from h);exact Rep.bool i
  | .val .none,_,h=>by cases (show Rep K H0 v .none from h);exact Rep.none
  | .val (.str i),_,h=>by cases (show Rep K H0 v (.str i) from h);exact Rep.str i
  | .own ds,hf,⟨a,vs,e,h1,h2,h3,h4⟩=>by
    refine ⟨a,vs,e,h1,hs a h1,h3,?_⟩
    obtain ⟨ns,hn⟩:=Option.isSome_iff_exists.mp (show (intsOf ds).isSome=true from hf)
    rw [intsOf_eq hn] at h4 ⊢
    cases reps_ints h4
    have allI:∀ns:List Int,Reps K H0' (ns.map V.int) (ns.map .int):=fun ns=>by
      induction ns with
      | nil=>exact .nil
      | cons n r ih=>exact .cons (.int n) ih
    exact allI ns
def fldsOf:En->Option (List PyData)
  | []=>some []
  | some s::r=>(fldsOf r).map (s.dat :: ·)
  | none::_=>none
def mMethR(n:Nat)(F:List PyData->List PyData->Option Sl)(fa:En->Option (List PyData)):En->Option Sl:=fun ρ=>(fa ρ).bind fun ds=>(fldsOf (ρ.drop n)).bind fun fd=>(F fd ds).bind fun r=>if flatS r=true then some r else none
theorem frz_all {HB H0 H : Hp} : ∀ {vals : L2.St} {φ : En} {fd : List PyData}, vals.length = φ.length -> (∀ (j : Nat) s, φ[j]? = some (some s) -> ∃ v, vals[j]? = some (some v) /\ SlH K HB H0 H v s) -> fldsOf φ = some fd -> Same H0 H ->
    ∃H0c fv,Same H0 H0c/\Same H0c H/\vals=fv.map some/\Reps K H0c fv fd
  | [],[],fd,_,_,h,s=>by cases h;exact ⟨H0,[],Same.refl _,s,rfl, .nil⟩
  | _::_,[],_,hl,_,_,_=>by cases hl
  | [],_::_,_,hl,_,_,_=>by cases hl
  | ov::vals,none::φ,fd,hl,hg,h,s=>by cases h
  | ov::vals,some sl::φ,fd,hl,hg,h,s=>by
    obtain ⟨fd',h1,rfl⟩:=Option.map_eq_some_iff.mp (show (fldsOf φ).map (sl.dat :: ·)=some fd from h)
    obtain ⟨v,e1,e2⟩:=hg 0 sl rfl
    cases (show ov=some v from Option.some.inj e1)
    obtain ⟨H0c,fv,a1,a2,a3,a4⟩:=frz_all (vals:=vals) (φ:=φ) (fd:=fd') (by simpa using hl) (fun j s hj=>hg (j+1) s (by simpa using hj)) h1 s
    cases sl with
    | val d=>exact ⟨H0c,v::fv,a1,a2,by rw [a3];rfl, .cons (Rep.same a1 e2) a4⟩
    | own ds=>
      obtain ⟨a,vs,rfl,g1,g2,g3,g4⟩:=e2
      cases ha:H0c a with
      | none=>
        have s1:Same H0c (upd H0c a (.lst vs)):=Same.upd ha _
        refine ⟨upd H0c a (.lst vs), .ref a::fv,a1.trans s1,fun b u e=> ?_,by rw [a3];rfl, .cons (.list (SqL.of upd_same) (Reps.same (a1.trans s1) g4)) (Reps.same s1 a4)⟩
        by_cases hb:b=a
        . subst hb;rw [upd_same] at e;rw [g3];exact e
        . rw [upd_ne hb] at e;exact a2 b u e
      | some u=>
        have:=a2 a u ha
        rw [g3] at this
        cases this
        exact ⟨H0c, .ref a::fv,a1,a2,by rw [a3];rfl, .cons (.list (SqL.of ha) (Reps.same a1 g4)) a4⟩
theorem re_methR{ta:TA}{fa:En->Option (List PyData)}{F:List PyData->List PyData->Option Sl}{m:Str}{E:XK}(hm:m ∉ od.names)(h:RA K (FR K od) ta fa):RE K (FR K od) (tMeth od.C m (spR K od.C od.names F) [] E (tVar od.s) ta) (mMethR od.n F fa):=fun HB σ ρ H0 H s e r hr Q q=>by
  obtain ⟨ds,hd,hr⟩:=Option.bind_eq_some_iff.mp hr
  obtain ⟨fd,hfd,hr⟩:=Option.bind_eq_some_iff.mp hr
  obtain ⟨r',hF,hr⟩:=Option.bind_eq_some_iff.mp hr
  split at hr
  . rename_i hflat
    cases hr
    obtain ⟨h1,p,vals,hpp,h2,h3,h4⟩:=e.r
    obtain ⟨dx,fs,q1,q2,q3,q4⟩:=h3.ins
    refine ⟨.ref p,h2,p,dx,fs,rfl,q1,q4 m hm,?_⟩
    refine h HB σ ρ H0 H s e ds hd _ fun vs H1 J1 x1 p1=> ?_
    rw [List.append_nil]
    have e4:=h4.ext x1
    obtain ⟨H0c,fv,a1,a2,a3,a4⟩:=frz_all (K:=K) (HB:=HB) (H0:=H1) (H:=J1) (vals:=vals) (φ:=ρ.drop od.n) (fd:=fd) (by rw [List.length_drop, <-e4.len,List.length_append,h1];omega) (fun j s hj=>by
      rw [List.getElem?_drop] at hj
      obtain ⟨v,k1,k2⟩:=e4.get _ _ hj
      rw [<-h1,List.getElem?_append_right (Nat.le_add_right _ _),Nat.add_sub_cancel_left] at k1
      exact ⟨v,k1,k2⟩) hfd x1.s1
    refine ⟨H0c,p,fv,fd,ds,r,vs,rfl,a2,⟨by rw [<-a3];exact h3.len,dx,fs,x1.s _ _ q1,by rw [<-a3];exact q3,q4⟩,a4,Reps.same a1 p1,hF,fun v H2 J2 x2 p2=> ?_⟩
    have x3:Ext H1 J1 H1 J2:=⟨x2.s,Same.refl _,x1.s1.trans x2.s,fun _ _ _ h=>h⟩
    exact q v H1 J2 (x1.trans x3) ((flatS_free (fun a ha=>x1.s1.free ha) hflat p2).base x1.s)
  . cases hr
def runR(n m k:Nat)(g:En->Option Out):List PyData->List PyData->Option Sl:=fun fd ds=>if ds.length+1=m/\fd.length=k then (g ((none::ds.map (fun d=>some (.val d)))++List.replicate (n - (ds.length+1)) none++fd.map (fun d=>some (.val d)))).bind fun o=>match o with
  | .rt r _=>some r
  | .nx _=>some (.val .none)
  | _=>none else none
section
variable {P:Program} {w:World} {mg:Str->Option Value} {base:Heap}
theorem er_vals{HB H0 H:Hp}{fv:List V}{fd:List PyData}(h:Reps K H0 fv fd):ER K HB H0 H (fv.map some) (fd.map fun d=>some (.val d)) :=
  ⟨by rw [List.length_map,List.length_map];exact h.length,fun i s hs=>by
    rw [List.getElem?_map] at hs
    cases e:fd[i]? with
    | none=>rw [e] at hs;cases hs
    | some d=>
      rw [e] at hs
      cases hs
      obtain ⟨v,h1,h2⟩:=Tf.Reps.get h e
      exact ⟨v,by rw [List.getElem?_map,h1];rfl,h2⟩,fun i j a xs ys _ g1 _ _ _=>by
    rw [List.getElem?_map] at g1
    cases e:fd[i]? with
    | none=>rw [e] at g1;cases g1
    | some d=>rw [e] at g1;cases g1⟩
theorem fnR {x qual : Str} {st : Stmt} {f : Addr} {fd : FuncData} {N ps : List Str} {k n m l : Nat} {g : En -> Option Out} (F : Fun K x qual st f fd) (S : FnScope N ps (defScope st)) (hn : N.length = n) (hm : ps.length = m) (hl : names.length = l)
    (hb:∀(cdv:Value) (A:Around) (outer:List Env) (s:Shared) (H:Hp) (E:XK) (p:Addr),Room k (A.deeper (envOfC qual (defScope st) s.heap.objs.size f cdv))->DSs (cxOf CX0 P w K mg base N qual (defScope st) f cdv A outer s H E).nox (FO K ⟨C,names,0,n,p⟩) (defBody st) g) :
    FnOk P w K mg base CX0 (k+1) f fd ps (spR K C names (runR n m l g)):=by
  subst hn hm hl
  have hpl:ps.length<=N.length:=by have:=congrArg List.length S.pre;rw [List.length_take] at this;omega
  refine F.ok S (fun vs H Q E h=> ?_) fun cdv A outer s H vs Q E hr h=> ?_
  . obtain ⟨H0,p,fv,fd,ds,r,vs',rfl,s1,o,hf1,hr,hf,_⟩:=h
    unfold runR at hf
    split at hf
    . rename_i hl
      rw [List.length_cons,hr.length]
      exact hl.1
    . cases hf
  . obtain ⟨H0,p,fv,fd,ds,r,vs',rfl,s1,oo,hf1,hr',hf,q⟩:=h
    obtain ⟨t,ht,rs⟩:=hb cdv A outer s H E p hr
    refine ⟨t,ht,?_⟩
    unfold runR at hf
    split at hf
    . rename_i hl
      obtain ⟨o,ho,hf⟩:=Option.bind_eq_some_iff.mp hf
      have hvl:=hr'.length
      have ls:(L2.start N (.ref p::vs')).length=N.length:=by
        unfold L2.start
        simp only [List.length_append,List.length_map,List.length_replicate,List.length_cons]
        omega
      refine rs H H0 _ _ H0 H (Ext.refl s1) ⟨⟨ls,fv.map some,rfl,oo,er_self (by omega) hr' (er_vals hf1)⟩⟩ o ho _ ?_
      cases o with
      | rt r' ρ=>cases hf;exact fun v σ H1 J1 a _ c=>q v H1 J1 a c
      | nx ρ=>cases hf;exact fun σ H1 J1 a b=>q .non H1 J1 a .none
      | bk _=>cases hf
      | ct _=>cases hf
    . cases hf
end
theorem fo_sub {ix : List (Option Nat)} {s' n' : Nat} (hs : ix[s']? = some (some od.s) := by rfl) (hl : ix.length = n' := by rfl) (hx : (ix.filterMap id).Nodup := by decide) (hn : (ix.all fun o => match o with | some j => decide (j < od.n) | none => true) = true := by rfl) :
    ∀(HB:Hp) (σ:L2.St) (ρ:En) (H0 H:Hp),(FO K od).r HB H0 H σ ρ->(FO K ⟨od.C,od.names,s',n',od.p⟩).r (fun _=>none) H0 H (subS ix σ) (subF ix od.n ρ):=fun HB σ ρ H0 H e=>by
  obtain ⟨h1,vals,h2,h3,h4⟩:=e
  have hlt:∀(i j:Nat),ix[i]? = some (some j)->j<od.n:=fun i j h=>by
    have:=List.all_eq_true.mp hn _ (List.mem_of_getElem? h)
    simpa using this
  have ls:(subS ix σ).length=n':=by unfold subS;rw [List.length_map,hl]
  have le:(subE ix ρ).length=n':=by unfold subE;rw [List.length_map,hl]
  have lρ:ρ.length=od.n+vals.length:=by rw [<-h4.len,List.length_append,h1]
  have fi:∀(j:Nat),(ρ.drop od.n)[j]? = ρ[od.n+j]? :=fun j=>List.getElem?_drop
  have si:∀(j:Nat),(σ++vals)[od.n+j]? = vals[j]? :=fun j=>by rw [<-h1,List.getElem?_append_right (Nat.le_add_right _ _),Nat.add_sub_cancel_left]
  have sg:∀(i j:Nat),ix[i]? = some (some j)->(subS ix σ)[i]? = some ((σ++vals)[j]?).join:=fun i j h=>by rw [subS_get h,List.getElem?_append_left (by rw [h1];exact hlt i j h)]
  refine ⟨ls,vals,?_,h3,?_,fun i r hi=> ?_,fun i k a xs ys hij g1 g2 g3 g4=> ?_⟩
  . show (subS ix σ)[s']? = _
    rw [subS_get hs,h2]
    rfl
  . unfold subF
    rw [List.length_append,List.length_append,ls,le,List.length_drop,lρ]
    omega
  . unfold subF at hi
    by_cases hin:i<n'
    . rw [List.getElem?_append_left (by omega)] at hi ⊢
      obtain ⟨j,k1,k2⟩:=subE_get hi
      obtain ⟨v,k3,k4⟩:=h4.get j r k2
      refine ⟨v,by rw [sg i j k1,k3];rfl,k4.base fun _ _ h=>by cases h⟩
    . rw [List.getElem?_append_right (by omega),le,fi] at hi
      rw [List.getElem?_append_right (by omega),ls]
      obtain ⟨v,k3,k4⟩:=h4.get _ r hi
      rw [si] at k3
      exact ⟨v,k3,k4.base fun _ _ h=>by cases h⟩
  . unfold subF at g1 g2
    have mixed:∀(i k:Nat) xs ys,i<n'->n'<=k->(subE ix ρ++ρ.drop od.n)[i]? = some (some (.own xs))->(subE ix ρ++ρ.drop od.n)[k]? = some (some (.own ys))->(subS ix σ++vals)[i]? = some (some (.ref a))->(subS ix σ++vals)[k]? ≠ some (some (.ref a)):=by
      intro i k xs ys hi hk g1 g2 g3 g4
      rw [List.getElem?_append_left (by omega)] at g1 g3
      rw [List.getElem?_append_right (by omega),le,fi] at g2
      rw [List.getElem?_append_right (by omega),ls] at g4
      obtain ⟨j,k1,k2⟩:=subE_get g1
      rw [sg i j k1] at g3
      exact h4.apart j (od.n+(k - n')) a xs ys (by have:=hlt i j k1;omega) k2 g2 (join_some (Option.some.inj g3)) (by rw [si];exact g4)
    by_cases hi:i<n'
    . by_cases hk:k<n'
      . rw [List.getElem?_append_left (by omega)] at g1 g2 g3 g4
        obtain ⟨j,k1,k2⟩:=subE_get g1
        obtain ⟨l,k3,k4⟩:=subE_get g2
        rw [sg i j k1] at g3
        rw [sg k l k3] at g4
        exact h4.apart j l a xs ys (by rintro rfl;exact hij (ix_inj hx k1 k3)) k2 k4 (join_some (Option.some.inj g3)) (join_some (Option.some.inj g4))
      . exact mixed i k xs ys hi (by omega) g1 g2 g3 g4
    . by_cases hk:k<n'
      . exact mixed k i ys xs hk (by omega) g2 g1 g4 g3
      . rw [List.getElem?_append_right (by omega),le,fi] at g1 g2
        rw [List.getElem?_append_right (by omega),ls] at g3 g4
        exact h4.apart _ _ a xs ys (by omega) g1 g2 (by rw [si];exact g3) (by rw [si];exact g4)
end
section
variable {X:Cx} {od:OD} {e a:Expr} {es:List Expr} {pos p apos cpos:Pos} {x f m:Str} {fe fa:En->Option Sl} {fs:En->Option (List PyData)}
theorem dp_fldR (j : Nat) (k : Klass X.K od.C od.names) (hN : X.N[od.s]? = some x := by rfl) (hv : Vis X.env.scope x := by first | exact Or.inl rfl | exact Or.inr (Or.inl rfl) | exact Or.inr (Or.inr rfl)) (hj : od.names[j]? = some f := by rfl) (hd : (x == ("__debug__" : Str)) = false := by decide) (hcd : (x == ("__classdict__" : Str)) = false := by decide)
    (hb:attributeBase (.Name x p) f X.env (eval (.Name x p) X.env)=eval (.Name x p) X.env:=by rfl):DP X (FO X.K od) (.Attribute (.Name x p) f pos) (mPk (od.n+j)) :=
  ⟨_,pe_fld (pe_var hN hv hd hcd) hb,rp_fldR k.cl (k.no f (List.mem_of_getElem? hj)) hj⟩
theorem de_methR {ps : List Str} {kk jj : Nat} {F : List PyData -> List PyData -> Option Sl} {pl : Sem Bool} (M : MDef X.prog X.w X.K X.mg X.base jj od.C m ps (spR X.K od.C od.names F)) (k : Klass X.K od.C od.names) (hr : Room kk X.A) (h : DA X (FR X.K od) (e :: es) fs) (hjj : jj <= kk := by decide) (hm : m ∉ od.names := by exact of_decide_eq_true rfl)
    (hN:X.N[od.s]? = some x:=by rfl) (hv:Vis X.env.scope x:=by first | exact Or.inl rfl | exact Or.inr (Or.inl rfl) | exact Or.inr (Or.inr rfl)) (hd:(x==("__debug__" : Str))=false:=by decide) (hcd:(x==("__classdict__" : Str))=false:=by decide)
    (hst:starEach (e::es) X.env=(false,eval e X.env)::starEach es X.env:=by rfl) (hpl:(backTo cpos (starEach es X.env)).any (·.1)=false:=by rfl)
    (ht:eval (.Call (.Attribute (.Name x p) m apos) (e::es) [] cpos) X.env=(do
      let ov <-eval (.Name x p) X.env
      standAt apos.atName
      let (f,first) <-holding [ov] (getMethod ov m pl)
      callWith cpos f first (backTo cpos (starEach (e::es) X.env)) (backToKw cpos (keywordEach [] X.env))):=by rfl):DE X (FR X.K od) (.Call (.Attribute (.Name x p) m apos) (e::es) [] cpos) (mMethR od.n F fs):=by
  obtain ⟨t,h1,h2⟩:=h
  obtain ⟨f,fd,F1,M1,b1⟩:=M.ex
  exact ⟨_,pe_meth (pl:=pl) (pe_var hN hv hd hcd) k.cl M1 F1 (hr.mono hjj) b1 .nil pass0 h1 hst hpl ht,re_methR hm h2⟩
end
end Dm
namespace Dm
open PySem PySem.Spec L2 Tf
def Wp(g:En->Option Out)(ρ:En)(Z:Out->Prop):Prop:=∃o,g ρ=some o/\Z o
def Nx(P:En->Prop):Out->Prop
  | .nx ρ=>P ρ
  | _=>False
def Rt(r:Sl):Out->Prop
  | .rt r' _=>r'=r
  | _=>False
def Lp(N:En->Prop)(Z:Out->Prop):Out->Prop
  | .nx ρ=>N ρ
  | .ct ρ=>N ρ
  | .bk ρ=>Z (.nx ρ)
  | .rt r ρ=>Z (.rt r ρ)
section
variable {f g:En->Option Out} {ρ:En} {Z:Out->Prop}
theorem wp_of{o:Out}(h:g ρ=some o)(z:Z o):Wp g ρ Z:=⟨o,h,z⟩
theorem Wp.imp{Y:Out->Prop}(h:Wp g ρ Y)(k:∀o,Y o->Z o):Wp g ρ Z:=by
  obtain ⟨o,h1,h2⟩:=h
  exact ⟨o,h1,k o h2⟩
theorem wp_seqG(h:Wp f ρ (fun o=>match o with | .nx ρ'=>Wp g ρ' Z | o=>Z o)):Wp (mSeq f g) ρ Z:=by
  obtain ⟨o,h1,h2⟩:=h
  cases o with
  | nx ρ' =>
    obtain ⟨o2,h3,h4⟩:=h2
    exact ⟨o2,by unfold mSeq;rw [h1];exact h3,h4⟩
  | rt r ρ'=>exact ⟨_,by unfold mSeq;rw [h1];rfl,h2⟩
  | bk ρ'=>exact ⟨_,by unfold mSeq;rw [h1];rfl,h2⟩
  | ct ρ'=>exact ⟨_,by unfold mSeq;rw [h1];rfl,h2⟩
theorem wp_seq{P:En->Prop}(h:Wp f ρ (Nx P))(k:∀ρ',P ρ'->Wp g ρ' Z):Wp (mSeq f g) ρ Z:=by
  refine wp_seqG (h.imp fun o ho=> ?_)
  cases o with
  | nx ρ'=>exact k ρ' ho
  | _=>exact ho.elim
theorem wp_seqN{ρ':En}(h:f ρ=some (.nx ρ'))(k:Wp g ρ' Z):Wp (mSeq f g) ρ Z:=by
  obtain ⟨o,h1,h2⟩:=k
  exact ⟨o,seq_to h h1,h2⟩
variable {i:Nat} {fe:En->Option Sl} {r:Sl} {c:En->Option Bool} {b:Bool}
theorem wp_asg(h:fe ρ=some r)(k:Z (.nx (ρ.set i (some r)))):Wp (mAsg i fe) ρ Z:=⟨_,asg_to h,k⟩
theorem wp_asgS(h:fe ρ=some r)(k:Wp g (ρ.set i (some r)) Z):Wp (mSeq (mAsg i fe) g) ρ Z:=wp_seqN (asg_to h) k
theorem wp_frz(h:Wp g (frz1 i ρ) Z):Wp (mFrz i g) ρ Z:=h
theorem wp_ret(h:fe ρ=some r)(k:Z (.rt r ρ)):Wp (mRet fe) ρ Z:=⟨_,ret_to h,k⟩
theorem wp_if(h:c ρ=some b)(k:Wp (if b then f else g) ρ Z):Wp (mIf c f g) ρ Z:=by
  obtain ⟨o,h1,h2⟩:=k
  refine ⟨o,if_to h ?_,h2⟩
  cases b <;> exact h1
theorem wp_ifT(h:c ρ=some true)(k:Wp f ρ Z):Wp (mIf c f g) ρ Z:=wp_if (b:=true) h k
theorem wp_ifF(h:c ρ=some false)(k:Wp g ρ Z):Wp (mIf c f g) ρ Z:=wp_if (b:=false) h k
theorem wp_next(k:Z (.nx ρ)):Wp mNext ρ Z:=⟨_,rfl,k⟩
theorem wp_skip{h:En->Option Out}(hc:c ρ=some false)(k:Wp h ρ Z):Wp (mSeq (mIf c f mNext) h) ρ Z:=wp_seqN (if_to hc rfl) k
variable {fi:En->Option (List PyData)} {fg:PyData->En->Option En} {ds:List PyData}
theorem wp_for(P:Nat->En->Prop)(hi:fi ρ=some ds)(h0:P 0 ρ)(hs:∀(j:Nat) d ρ,ds[j]? = some d->P j ρ->∃ρ1,fg d ρ=some ρ1/\Wp g ρ1 (Lp (P (j+1)) Z))(k:∀ρ',P ds.length ρ'->Z (.nx ρ')):Wp (mFor fi fg g) ρ Z:=by
  have gen:∀(n j:Nat) ρ,j+n=ds.length->P j ρ->∃o,forM fg g (ds.drop j) ρ=some o/\Z o:=by
    intro n
    induction n with
    | zero=>
      intro j ρ hj hp
      have:j=ds.length:=by omega
      subst this
      rw [List.drop_eq_nil_of_le (Nat.le_refl _)]
      exact ⟨_,rfl,k ρ hp⟩
    | succ n ih=>
      intro j ρ hj hp
      have hd:ds[j]? = some ds[j]:=List.getElem?_eq_getElem (by omega)
      obtain ⟨ρ1,h1,o,h2,h3⟩:=hs j ds[j] ρ hd hp
      rw [forM_drop hd,h1]
      simp only [Option.bind_some,h2]
      cases o with
      | nx ρ2=>exact ih (j+1) ρ2 (by omega) h3
      | ct ρ2=>exact ih (j+1) ρ2 (by omega) h3
      | bk ρ2=>exact ⟨_,rfl,h3⟩
      | rt r ρ2=>exact ⟨_,rfl,h3⟩
  obtain ⟨o,h1,h2⟩:=gen ds.length 0 ρ (by omega) h0
  refine ⟨o,for_to hi ?_,h2⟩
  simpa using h1
theorem Lp.imp{N N':En->Prop}{Y:Out->Prop}{o:Out}(h:Lp N Y o)(h1:∀ρ,N ρ->N' ρ)(h2:∀o,Y o->Z o):Lp N' Z o:=by
  cases o with
  | nx ρ=>exact h1 _ h
  | ct ρ=>exact h1 _ h
  | bk ρ=>exact h2 _ h
  | rt r ρ=>exact h2 _ h
theorem wp_forR(P:Nat->En->Prop){lo:Int}{n:Nat}(hi:fi ρ=some (rngD lo n))(h0:P 0 ρ)(hs:∀(j:Nat) ρ,j<n->P j ρ->∃ρ1,fg (.int (lo+(j:Nat))) ρ=some ρ1/\Wp g ρ1 (Lp (P (j+1)) Z))(k:∀ρ',P n ρ'->Z (.nx ρ')):Wp (mFor fi fg g) ρ Z:=by
  refine wp_for P hi h0 (fun j d ρ hd hp=> ?_) (by simpa [rngD] using k)
  rw [rngD_get] at hd
  split at hd
  . rename_i hlt
    cases hd
    exact hs j ρ hlt hp
  . cases hd
theorem wp_forR0(P:Nat->En->Prop){n:Nat}(hi:fi ρ=some (rngD 0 n))(h0:P 0 ρ)(hs:∀(j:Nat) ρ,j<n->P j ρ->∃ρ1,fg (.int (j:Nat)) ρ=some ρ1/\Wp g ρ1 (Lp (P (j+1)) Z))(k:∀ρ',P n ρ'->Z (.nx ρ')):Wp (mFor fi fg g) ρ Z:=
  wp_forR P hi h0 (fun j ρ hj hp=>by rw [Int.zero_add];exact hs j ρ hj hp) k
theorem run_wp{n k:Nat}{ds:List PyData}(hl:ds.length=k)(e:ds.map (fun d=>some (Sl.val d))++List.replicate (n - ds.length) none=ρ)(h:Wp g ρ (Rt r)):runD n g k ds=some r:=by
  obtain ⟨o,h1,h2⟩:=h
  cases o with
  | rt r' ρ'=>cases h2;exact runD_rt hl e ⟨ρ',h1⟩
  | _=>exact h2.elim
end
theorem or_to{a b:En->Option Bool}{ρ:En}{k l:Bool}(h1:a ρ=some k)(h2:b ρ=some l):mOr a b ρ=some (k || l):=by
  unfold mOr
  rw [h1]
  cases k
  . exact h2
  . rfl
theorem not_to{a:En->Option Bool}{ρ:En}{k:Bool}(h1:a ρ=some k):mNot a ρ=some (!k):=by
  unfold mNot
  rw [h1]
  rfl
theorem ne_same{fa fb:En->Option Sl}{ρ:En}{a b:Sl}(ha:fa ρ=some a)(hb:fb ρ=some b)(h:a.dat=b.dat)(h1:b.dat.canLay0=true)(h2:b.dat.depth<=60):mTest (mBin dne fa fb) ρ=some false:=by
  unfold mTest mBin
  rw [ha,Option.bind_some,hb,Option.bind_some]
  show Option.bind ((eqD a.dat b.dat).map _) _=_
  rw [h,eqD_same h1 h2]
  rfl
theorem eq_same{fa fb:En->Option Sl}{ρ:En}{a b:Sl}(ha:fa ρ=some a)(hb:fb ρ=some b)(h:a.dat=b.dat)(h1:b.dat.canLay0=true)(h2:b.dat.depth<=60):mBin deq fa fb ρ=some (.val (.bool true)):=by
  unfold mBin
  rw [ha,Option.bind_some,hb,Option.bind_some]
  show (eqD a.dat b.dat).map _=_
  rw [h,eqD_same h1 h2]
  rfl
def il(l:List Int):List PyData:=l.map .int
theorem il_len(l:List Int):(il l).length=l.length:=List.length_map ..
theorem il_app(a b:List Int):il (a++b)=il a++il b:=List.map_append ..
theorem atI_nat{α:Type}{xs:List α}{j:Nat}{x:α}(h:xs[j]? = some x):atI xs (j:Int)=some x:=by
  obtain ⟨hj,e⟩:=List.getElem?_eq_some_iff.mp h
  unfold atI ixN
  rw [if_pos (by omega),if_pos (by omega)]
  simpa using h
theorem dix_nat{s:Sl}{ds:List PyData}{j:Nat}{d:PyData}(hs:s.dat = .list ds\/s.dat = .tuple ds)(h:ds[j]? = some d):dix s (.val (.int (j:Int)))=some (.val d):=by
  unfold dix
  rcases hs with hs | hs <;> simp only [hs,atI_nat h,Option.map_some]
theorem intsOf_il(l:List Int):intsOf (il l)=some l:=by
  induction l with
  | nil=>rfl
  | cons a l ih=>simp only [il,List.map_cons,intsOf] at ih ⊢;rw [ih];rfl
end Dm
namespace Tf
open PySem PySem.Spec PyProof.Rows L2
section
variable {X:Cx}
end
section
variable {prog:Program} {w:World} {A:Around} {E:Value->Shared->Prop} {s:Shared} {it:Addr} {F W:List Addr} {G:Array GenState->Array GenState->Prop} {n:Nat} {P:Nat->Value->Prop} {St:Nat->Shared->Prop}
end
section
variable {X:Cx}
end
end Tf
namespace Dm
open PySem PySem.Spec PyProof.Rows L2 Tf
section
variable {K:PySem.W.Frag} {R:Rl} [RelOk K R]
def PinP(K:PySem.W.Frag)(i:Nat)(a:Addr)(ds:List PyData):Rl:=⟨fun HB H0 H σ ρ=>ER K HB H0 H σ ρ/\σ[i]? = some (some (.ref a))/\ρ[i]? = some (some (.own ds)),fun k=>k≠i/\(0:Nat)=0⟩
instance relOk_Pin {i:Nat} {a:Addr} {ds:List PyData}:RelOk K (PinP K i a ds) where
  ext:=fun x e=>⟨ER.ext x e.1,e.2⟩
  get:=fun e _ h=>ER.get e.1 _ _ h
  set:=fun {_ _ _ _ _ _ _ k _ _} e hs x s h=>⟨(relOk_PR (K:=K)).set e.1 trivial x s h,by rw [List.getElem?_set_ne hs.1];exact e.2.1,by rw [List.getElem?_set_ne hs.1];exact e.2.2⟩
  write:=fun e hs h1 h2 h3 h4 h5 h6=>⟨(relOk_PR (K:=K)).write e.1 trivial h1 h2 h3 h4 h5 h6,e.2.1,by rw [List.getElem?_set_ne hs.1];exact e.2.2⟩
  frz:=fun e hs h x=>by
    obtain ⟨H0',h1,h2⟩:=(relOk_PR (K:=K)).frz e.1 trivial h x
    exact ⟨H0',h1,h2,e.2.1,by rw [List.getElem?_set_ne hs.1];exact e.2.2⟩
end
section
variable {X:Cx} {R R':Rl} [RelOk X.K R] [RelOk X.K R'] {a b c e:Expr} {pos p p2 pos2:Pos} {f g fa fb fc:En->Option Sl} {fs:En->Option (List PyData)} {fq:En->Option (List Sl)} {tg:Expr} {x:Str}
end
end Dm
namespace Tf
open PySem PySem.Spec PyProof.Rows L2
section
variable {prog:Program} {w:World} {A:Around} {E:Value->Shared->Prop} {s:Shared}
end
section
variable {prog:Program} {w:World} {A:Around} {E:Value->Shared->Prop} {s:Shared}
end
section
variable {X:Cx}
end
end Tf
namespace Dm
open PySem PySem.Spec PyProof.Rows L2 Tf
section
variable {K:PySem.W.Frag} {R:Rl} [RelOk K R]
end
section
variable {X:Cx} {R:Rl} [RelOk X.K R] {a b:Expr} {pos p:Pos} {fs:En->Option (List PyData)}
end
end Dm
namespace Dm
open PySem PySem.Spec PyProof.Rows L2 Tf
section
variable {K:PySem.W.Frag}
structure RowsAt (K:PySem.W.Frag) (HB H0 H:Hp) (a:Addr) (as:List Addr) (rs:List (List PyData)):Prop where
  top:H a=some (.lst (as.map .ref))
  len:as.length=rs.length
  nd:(a::as).Nodup
  new:∀b ∈ a::as,HB b=none/\H0 b=none
  row:∀(j:Nat) b ds,as[j]? = some b->rs[j]? = some ds->∃vs,H b=some (.lst vs)/\Reps K H0 vs ds
def RowsH(K:PySem.W.Frag)(HB H0 H:Hp)(v:V)(rs:List (List PyData)):Prop:=∃a as,v = .ref a/\RowsAt K HB H0 H a as rs
theorem RowsAt.live{HB H0 H:Hp}{a:Addr}{as:List Addr}{rs:List (List PyData)}(r:RowsAt K HB H0 H a as rs):∀b ∈ a::as,∃o,H b=some o:=fun b hb=>by
  rcases List.mem_cons.mp hb with rfl | hb
  . exact ⟨_,r.top⟩
  . obtain ⟨j,hj,rfl⟩:=List.mem_iff_getElem.mp hb
    have hj':j<rs.length:=by rw [<-r.len];exact hj
    obtain ⟨vs,h,_⟩:=r.row j as[j] rs[j] (List.getElem?_eq_getElem hj) (List.getElem?_eq_getElem hj')
    exact ⟨_,h⟩
theorem RowsAt.ext{HB H0 H H0' H':Hp}{a:Addr}{as:List Addr}{rs:List (List PyData)}(x:Ext H0 H H0' H')(r:RowsAt K HB H0 H a as rs):RowsAt K HB H0' H' a as rs where
  top:=x.s _ _ r.top
  len:=r.len
  nd:=r.nd
  new:=fun b hb=>by
    obtain ⟨o,ho⟩:=r.live b hb
    exact ⟨(r.new b hb).1,x.own b o ho (r.new b hb).2⟩
  row:=fun j b ds h1 h2=>by
    obtain ⟨vs,h3,h4⟩:=r.row j b ds h1 h2
    exact ⟨vs,x.s _ _ h3,Reps.same x.s0 h4⟩
theorem RowsAt.base{HB HB' H0 H:Hp}{a:Addr}{as:List Addr}{rs:List (List PyData)}(s:Same HB HB')(r:RowsAt K HB' H0 H a as rs):RowsAt K HB H0 H a as rs:=
  ⟨r.top,r.len,r.nd,fun b hb=>⟨s.free (r.new b hb).1,(r.new b hb).2⟩,r.row⟩
open Classical in
noncomputable def fzH(H0 H:Hp)(fp:List Addr):Hp:=fun b=>if b ∈ fp then H b else H0 b
theorem fz_in{H0 H:Hp}{fp:List Addr}{b:Addr}(h:b ∈ fp):fzH H0 H fp b=H b:=if_pos h
theorem fz_out{H0 H:Hp}{fp:List Addr}{b:Addr}(h:b ∉ fp):fzH H0 H fp b=H0 b:=if_neg h
theorem RowsAt.s0{HB H0 H:Hp}{a:Addr}{as:List Addr}{rs:List (List PyData)}(r:RowsAt K HB H0 H a as rs):Same H0 (fzH H0 H (a::as)):=fun b u e=>by
  by_cases hb:b ∈ a::as
  . rw [(r.new b hb).2] at e
    cases e
  . rw [fz_out hb]
    exact e
theorem RowsAt.rep{HB H0 H:Hp}{a:Addr}{as:List Addr}{rs:List (List PyData)}(r:RowsAt K HB H0 H a as rs):Rep K (fzH H0 H (a::as)) (.ref a) (.list (rs.map .list)):=by
  refine .list (SqL.of (by rw [fz_in (by simp)];exact r.top)) ?_
  have gen:∀(bs:List Addr) (qs:List (List PyData)),bs.length=qs.length->(∀b ∈ bs,b ∈ a::as)->(∀(j:Nat) b ds,bs[j]? = some b->qs[j]? = some ds->∃vs,H b=some (.lst vs)/\Reps K H0 vs ds)->Reps K (fzH H0 H (a::as)) (bs.map .ref) (qs.map .list):=by
    intro bs
    induction bs with
    | nil=>intro qs hl _ _;cases qs with | nil=>exact .nil | cons q qs=>cases hl
    | cons b bs ih=>
      intro qs hl hm hr
      cases qs with
      | nil=>cases hl
      | cons q qs=>
        obtain ⟨vs,h1,h2⟩:=hr 0 b q rfl rfl
        refine .cons (.list (SqL.of (by rw [fz_in (hm b (by simp))];exact h1)) (Reps.same r.s0 h2)) (ih qs (by simpa using hl) (fun c hc=>hm c (by simp [hc])) fun j c ds h3 h4=>hr (j+1) c ds (by simpa using h3) (by simpa using h4))
  exact gen as rs r.len (fun b hb=>by simp [hb]) r.row
structure RwS (K:PySem.W.Frag) (i:Nat) (rs:List (List PyData)) (HB H0 H:Hp) (σ:L2.St) (ρ:En) (a:Addr) (as:List Addr):Prop where
  er:ER K HB H0 H σ (ρ.set i none)
  at_:σ[i]? = some (some (.ref a))
  in_:ρ[i]? = some (some (.own (rs.map .list)))
  rows:RowsAt K HB H0 H a as rs
  apart:∀(j:Nat) b ds,j≠i->ρ[j]? = some (some (.own ds))->σ[j]? = some (some (.ref b))->b ∉ a::as
theorem RwS.ext{i:Nat}{rs:List (List PyData)}{HB H0 H H0' H':Hp}{σ:L2.St}{ρ:En}{a:Addr}{as:List Addr}(x:Ext H0 H H0' H')(r:RwS K i rs HB H0 H σ ρ a as):RwS K i rs HB H0' H' σ ρ a as:=
  ⟨r.er.ext x,r.at_,r.in_,r.rows.ext x,r.apart⟩
theorem RwS.frz{i:Nat}{rs:List (List PyData)}{HB H0 H:Hp}{σ:L2.St}{ρ:En}{a:Addr}{as:List Addr}(r:RwS K i rs HB H0 H σ ρ a as):ER K HB (fzH H0 H (a::as)) H σ (ρ.set i (some (.val (.list (rs.map .list))))):=by
  refine ⟨by rw [List.length_set,r.er.len,List.length_set],fun j s hs=> ?_,fun j k b ds es hjk h1 h2 h3 h4=> ?_⟩
  . by_cases hj:i=j
    . subst hj
      rw [List.getElem?_set_self',r.in_] at hs
      cases hs
      exact ⟨.ref a,r.at_,r.rows.rep⟩
    . rw [List.getElem?_set_ne hj] at hs
      obtain ⟨v,g1,g2⟩:=r.er.get j s (by rw [List.getElem?_set_ne hj];exact hs)
      refine ⟨v,g1,?_⟩
      cases s with
      | val d=>exact Rep.same r.rows.s0 g2
      | own ts=>
        obtain ⟨b,ws,rfl,q1,q2,q3,q4⟩:=g2
        refine ⟨b,ws,rfl,q1,?_,q3,Reps.same r.rows.s0 q4⟩
        rw [fz_out (r.apart j b ts (Ne.symm hj) hs g1)]
        exact q2
  . have hij : i ≠ j := by
      rintro rfl
      rw [List.getElem?_set_self',r.in_] at h1
      cases h1
    have hik:i≠k:=by
      rintro rfl
      rw [List.getElem?_set_self',r.in_] at h2
      cases h2
    rw [List.getElem?_set_ne hij] at h1
    rw [List.getElem?_set_ne hik] at h2
    exact r.er.apart j k b ds es hjk (by rw [List.getElem?_set_ne hij];exact h1) (by rw [List.getElem?_set_ne hik];exact h2) h3 h4
def rowsOf:List PyData->Option (List (List PyData))
  | []=>some []
  | .list r::ds=>(rowsOf ds).map (r :: ·)
  | _::_=>none
theorem rowsOf_map:∀rs:List (List PyData),rowsOf (rs.map .list)=some rs
  | []=>rfl
  | r::rs=>by rw [List.map_cons,rowsOf,rowsOf_map rs];rfl
theorem RwS.turn {i t : Nat} {done todo : List (List PyData)} {r : List PyData} {HB H0 H : Hp} {σ : L2.St} {ρ : En} {a : Addr} {as : List Addr} (hit : i ≠ t) (R : RwS K i (done ++ r :: todo) HB H0 H σ ρ a as) {b : Addr} (hb : as[done.length]? = some b) {vs : List V} (hv : H b = some (.lst vs)) (hr : Reps K H0 vs r) :
    RwS K i (done++(r ++ [.none])::todo) HB H0 (upd H b (.lst (vs ++ [.non]))) (σ.set t (some (.ref b))) ((ρ.set t none).set i (some (.own ((done++(r ++ [.none])::todo).map .list)))) a as:=by
  have bm:b ∈ as:=List.mem_of_getElem? hb
  have bn:=R.rows.new b (by simp [bm])
  have ab:a≠b:=fun z=>(List.nodup_cons.mp R.rows.nd).1 (z ▸ bm)
  have iL:i<ρ.length:=(List.getElem?_eq_some_iff.mp R.in_).1
  refine ⟨?_,by rw [List.getElem?_set_ne (Ne.symm hit)];exact R.at_,by rw [List.getElem?_set_self (by rw [List.length_set];exact iL)],?_,fun j c ds hj h1 h2=> ?_⟩
  . refine ⟨by simp only [List.length_set];rw [R.er.len,List.length_set],fun j s hs=> ?_,fun j k c ds es hjk h1 h2 h3 h4=> ?_⟩
    . by_cases hij:i=j
      . subst hij
        rw [List.getElem?_set_self'] at hs
        cases hq:((ρ.set t none).set i (some (.own ((done++(r ++ [.none])::todo).map .list))))[i]? with
        | none=>rw [hq] at hs;cases hs
        | some q=>rw [hq] at hs;cases hs
      . rw [List.getElem?_set_ne hij,List.getElem?_set_ne hij] at hs
        by_cases htj:t=j
        . subst htj
          rw [List.getElem?_set_self'] at hs
          cases hq:ρ[t]? with
          | none=>rw [hq] at hs;cases hs
          | some q=>rw [hq] at hs;cases hs
        . rw [List.getElem?_set_ne htj] at hs
          obtain ⟨v,g1,g2⟩:=R.er.get j s (by rw [List.getElem?_set_ne hij];exact hs)
          refine ⟨v,by rw [List.getElem?_set_ne htj];exact g1,?_⟩
          cases s with
          | val d=>exact g2
          | own ts=>
            obtain ⟨c,ws,rfl,q1,q2,q3,q4⟩:=g2
            refine ⟨c,ws,rfl,q1,q2,?_,q4⟩
            rw [upd_ne]
            . exact q3
            . rintro rfl
              exact R.apart j c ts (Ne.symm hij) hs g1 (by simp [bm])
    . have f : ∀ (j : Nat) ds, (((ρ.set t none).set i (some (.own ((done ++ (r ++ [.none]) :: todo).map .list)))).set i none)[j]? = some (some (.own ds)) -> i ≠ j /\ t ≠ j /\ ρ[j]? = some (some (.own ds)) := by
        intro j ds h
        have hij:i≠j:=by
          rintro rfl
          rw [List.getElem?_set_self'] at h
          cases hq:((ρ.set t none).set i (some (.own ((done++(r ++ [.none])::todo).map .list))))[i]? with
          | none=>rw [hq] at h;cases h
          | some q=>rw [hq] at h;cases h
        rw [List.getElem?_set_ne hij,List.getElem?_set_ne hij] at h
        have htj:t≠j:=by
          rintro rfl
          rw [List.getElem?_set_self'] at h
          cases hq:ρ[t]? with
          | none=>rw [hq] at h;cases h
          | some q=>rw [hq] at h;cases h
        rw [List.getElem?_set_ne htj] at h
        exact ⟨hij,htj,h⟩
      obtain ⟨a1,a2,a3⟩:=f j ds h1
      obtain ⟨b1,b2,b3⟩:=f k es h2
      rw [List.getElem?_set_ne a2] at h3
      rw [List.getElem?_set_ne b2] at h4
      exact R.er.apart j k c ds es hjk (by rw [List.getElem?_set_ne a1];exact a3) (by rw [List.getElem?_set_ne b1];exact b3) h3 h4
  . refine ⟨by rw [upd_ne ab];exact R.rows.top,by rw [R.rows.len];simp,R.rows.nd,R.rows.new,fun j c ds h1 h2=> ?_⟩
    by_cases hj:j=done.length
    . subst hj
      rw [hb] at h1
      cases h1
      rw [List.getElem?_append_right (Nat.le_refl _),Nat.sub_self] at h2
      cases h2
      exact ⟨vs ++ [.non],upd_same,Tf.Reps.snoc hr .none⟩
    . have h3 : (done ++ r :: todo)[j]? = some ds := by
        by_cases hlt:j<done.length
        . rw [List.getElem?_append_left hlt] at h2 ⊢
          exact h2
        . rw [List.getElem?_append_right (by omega)] at h2 ⊢
          obtain ⟨m,hm⟩:∃m,j - done.length=m+1:=⟨j - done.length - 1,by omega⟩
          rw [hm] at h2 ⊢
          simpa using h2
      obtain ⟨ws,g1,g2⟩:=R.rows.row j c ds h1 h3
      refine ⟨ws,?_,g2⟩
      rw [upd_ne]
      . exact g1
      . rintro rfl
        have nd:=(List.nodup_cons.mp R.rows.nd).2
        obtain ⟨p1,e1⟩:=List.getElem?_eq_some_iff.mp h1
        obtain ⟨p2,e2⟩:=List.getElem?_eq_some_iff.mp hb
        exact hj ((List.getElem_inj nd).mp (e1.trans e2.symm))
  . have htj : t ≠ j := by
      rintro rfl
      rw [List.getElem?_set_ne (Ne.symm hj),List.getElem?_set_self'] at h1
      cases hq:ρ[t]? with
      | none=>rw [hq] at h1;cases h1
      | some q=>rw [hq] at h1;cases h1
    rw [List.getElem?_set_ne (Ne.symm hj),List.getElem?_set_ne htj] at h1
    rw [List.getElem?_set_ne htj] at h2
    exact R.apart j c ds hj h1 h2
structure RowsIn (K:PySem.W.Frag) (HB H0 H:Hp) (as:List Addr) (rs:List (List PyData)):Prop where
  len:as.length=rs.length
  nd:as.Nodup
  new:∀b ∈ as,HB b=none/\H0 b=none
  row:∀(j:Nat) b ds,as[j]? = some b->rs[j]? = some ds->∃vs,H b=some (.lst vs)/\Reps K H0 vs ds
theorem RowsIn.live{HB H0 H:Hp}{as:List Addr}{rs:List (List PyData)}(r:RowsIn K HB H0 H as rs):∀b ∈ as,∃o,H b=some o:=fun b hb=>by
  obtain ⟨j,hj,rfl⟩:=List.mem_iff_getElem.mp hb
  have hj':j<rs.length:=by rw [<-r.len];exact hj
  obtain ⟨vs,h,_⟩:=r.row j as[j] rs[j] (List.getElem?_eq_getElem hj) (List.getElem?_eq_getElem hj')
  exact ⟨_,h⟩
theorem RowsIn.ext{HB H0 H H0' H':Hp}{as:List Addr}{rs:List (List PyData)}(x:Ext H0 H H0' H')(r:RowsIn K HB H0 H as rs):RowsIn K HB H0' H' as rs:=
  ⟨r.len,r.nd,fun b hb=>by
    obtain ⟨o,ho⟩:=r.live b hb
    exact ⟨(r.new b hb).1,x.own b o ho (r.new b hb).2⟩,fun j b ds h1 h2=>by
    obtain ⟨vs,h3,h4⟩:=r.row j b ds h1 h2
    exact ⟨vs,x.s _ _ h3,Reps.same x.s0 h4⟩⟩
theorem RowsIn.snoc{HB H0 H:Hp}{as:List Addr}{rs:List (List PyData)}{b:Addr}{vs:List V}{ds:List PyData}(r:RowsIn K HB H0 H as rs)(hn:b ∉ as)(h1:HB b=none)(h2:H0 b=none)(h3:H b=some (.lst vs))(h4:Reps K H0 vs ds):RowsIn K HB H0 H (as ++ [b]) (rs ++ [ds]):=by
  refine ⟨by simp [r.len],?_,fun c hc=> ?_,fun j c es g1 g2=> ?_⟩
  . rw [List.nodup_append]
    exact ⟨r.nd,by simp,fun c hc d hd z=>hn (by cases List.mem_singleton.mp hd;exact z ▸ hc)⟩
  . rcases List.mem_append.mp hc with hc | hc
    . exact r.new c hc
    . cases List.mem_singleton.mp hc
      exact ⟨h1,h2⟩
  . by_cases hj:j<as.length
    . rw [List.getElem?_append_left hj] at g1
      rw [List.getElem?_append_left (by rw [<-r.len];exact hj)] at g2
      exact r.row j c es g1 g2
    . rw [List.getElem?_append_right (by omega)] at g1
      rw [List.getElem?_append_right (by rw [<-r.len];omega), <-r.len] at g2
      have hz:j - as.length=0:=by
        have:=(List.getElem?_eq_some_iff.mp g1).1
        simp at this
        omega
      rw [hz] at g1 g2
      cases g1
      cases g2
      exact ⟨vs,h3,h4⟩
def RErows(K:PySem.W.Frag)(R:Rl)(te:TE)(f:En->Option (List (List PyData))):Prop:=
  ∀(HB:Hp) (σ:L2.St) (ρ:En) (H0 H:Hp),Same H0 H->ST R HB H0 H σ ρ->∀rs,f ρ=some rs->∀Q:VK,(∀v H0' H',Ext H0 H H0' H'->RowsH K H H0' H' v rs->Q v H')->te σ H Q
def spW(K:PySem.W.Frag)(F:List PyData->Option (List (List PyData))):Sp:=fun vs H Q _=>∃H0 ds rs,Same H0 H/\Reps K H0 vs ds/\F ds=some rs/\∀v H0' H',Ext H0 H H0' H'->RowsH K H H0' H' v rs->Q v H'
def mCallW(F:List PyData->Option (List (List PyData)))(f:En->Option (List PyData)):En->Option (List (List PyData)):=fun ρ=>(f ρ).bind F
theorem RowsH.base{HB HB' H0 H:Hp}{v:V}{rs:List (List PyData)}(s:Same HB HB')(r:RowsH K HB' H0 H v rs):RowsH K HB H0 H v rs:=by
  obtain ⟨a,as,e,r⟩:=r
  exact ⟨a,as,e,r.base s⟩
theorem re_callW{R:Rl} [RelOk K R] {F:List PyData->Option (List (List PyData))} {E:XK} {ta:TA} {f:En->Option (List PyData)} (h:RA K R ta f):RErows K R (tCall (spW K F) [] E ta) (mCallW F f):=fun HB σ ρ H0 H s e z hz Q q=>by
  obtain ⟨ds,hd,hz⟩:=Option.bind_eq_some_iff.mp hz
  refine h HB σ ρ H0 H s e ds hd _ fun vs H1 J1 x1 p1=> ?_
  rw [List.append_nil]
  exact ⟨H1,ds,z,x1.s1,p1,hz,fun v H2 J2 x2 p2=>q v H2 J2 (x1.trans x2) (p2.base x1.s)⟩
def RSW(K:PySem.W.Frag)(R:Rl)(t:TS)(g:En->Option (List (List PyData))):Prop:=
  ∀(HB S0:Hp) (σ:L2.St) (ρ:En) (H0 H:Hp),Ext S0 HB H0 H->ST R HB H0 H σ ρ->∀rs,g ρ=some rs->∀D:Ends,(∀v H0' H',Ext S0 HB H0' H'->RowsH K HB H0' H' v rs->D.rt v H')->t D σ H
def mSeqW(f:En->Option Out)(g:En->Option (List (List PyData))):En->Option (List (List PyData)):=fun ρ=>(f ρ).bind fun o=>match o with
  | .nx ρ'=>g ρ'
  | _=>none
theorem rsw_seq{R:Rl}{t u:TS}{f:En->Option Out}{g:En->Option (List (List PyData))}(h:RS K R t f)(k:RSW K R u g):RSW K R (tSeq t u) (mSeqW f g):=fun HB S0 σ ρ H0 H x e rs hr D d=>by
  obtain ⟨o1,h1,hr⟩:=Option.bind_eq_some_iff.mp hr
  refine h HB S0 σ ρ H0 H x e o1 h1 { D with nx:=u D} ?_
  cases o1 with
  | nx ρ'=>exact fun σ' H0' H' x' e'=>k HB S0 σ' ρ' H0' H' x' e' rs hr D d
  | _=>cases hr
def runW(n:Nat)(g:En->Option (List (List PyData)))(k:Nat):List PyData->Option (List (List PyData)):=fun ds=>if ds.length=k then g (ds.map (fun d=>some (.val d))++List.replicate (n - ds.length) none) else none
def DSW(X:Cx)(R:Rl)(st:List Stmt)(g:En->Option (List (List PyData))):Prop:=∃t,PSs X st t/\RSW X.K R t g
theorem fnW {P : Program} {w : World} {mg : Str -> Option Value} {base : Heap} {x qual : Str} {st : Stmt} {f : Addr} {fd : FuncData} {N ps : List Str} {k n m : Nat} {g : En -> Option (List (List PyData))} (F : Fun K x qual st f fd) (S : FnScope N ps (defScope st)) (hn : N.length = n) (hm : ps.length = m)
    (hb:∀(cdv:Value) (A:Around) (outer:List Env) (s:Shared) (H:Hp) (E:XK),Room k (A.deeper (envOfC qual (defScope st) s.heap.objs.size f cdv))->DSW (cxOf CX0 P w K mg base N qual (defScope st) f cdv A outer s H E).nox (PR K) (defBody st) g) :
    FnOk P w K mg base CX0 (k+1) f fd ps (spW K (runW n g m)):=by
  subst hn hm
  refine F.ok S (fun vs H Q E h=> ?_) fun cdv A outer s H vs Q E hr h=> ?_
  . obtain ⟨H0,ds,r,s,hr,hf,_⟩:=h
    unfold runW at hf
    split at hf
    . rename_i hl
      rw [hr.length,hl]
    . cases hf
  . obtain ⟨t,ht,rs⟩:=hb cdv A outer s H E hr
    refine ⟨t,ht,?_⟩
    obtain ⟨H0,ds,r,s0,hr,hf,q⟩:=h
    unfold runW at hf
    split at hf
    . exact rs H H0 _ _ H0 H (Ext.refl s0) ⟨er_start hr⟩ r hf _ fun v H1 J1 a b=>q v H1 J1 a b
    . cases hf
theorem ER.drop{HB H0 H:Hp}{σ:L2.St}{ρ:En}{i:Nat}{v:V}{s:Option Sl}(e:ER K HB H0 H σ ρ):ER K HB H0 H (σ.set i (some v)) ((ρ.set i s).set i none):=by
  have f:∀(j:Nat) q,((ρ.set i s).set i none)[j]? = some (some q)->i≠j/\ρ[j]? = some (some q):=by
    intro j q h
    have hij:i≠j:=by
      rintro rfl
      rw [List.getElem?_set_self'] at h
      cases hq:(ρ.set i s)[i]? with
      | none=>rw [hq] at h;cases h
      | some q=>rw [hq] at h;cases h
    rw [List.getElem?_set_ne hij,List.getElem?_set_ne hij] at h
    exact ⟨hij,h⟩
  refine ⟨by simp only [List.length_set];exact e.len,fun j q h=> ?_,fun j k b ds es hjk h1 h2 h3 h4=> ?_⟩
  . obtain ⟨hij,h⟩:=f j q h
    obtain ⟨u,g1,g2⟩:=e.get j q h
    exact ⟨u,by rw [List.getElem?_set_ne hij];exact g1,g2⟩
  . obtain ⟨a1,a2⟩:=f j _ h1
    obtain ⟨b1,b2⟩:=f k _ h2
    rw [List.getElem?_set_ne a1] at h3
    rw [List.getElem?_set_ne b1] at h4
    exact e.apart j k b ds es hjk a2 b2 h3 h4
end
section
variable {X:Cx} {R R':Rl} [RelOk X.K R] [RelOk X.K R'] {a b c e:Expr} {pos p pos':Pos} {f fe:En->Option Sl} {fs fi:En->Option (List PyData)} {tg:Expr} {x y:Str} {fg:PyData->En->Option En} {ft:En->Option Bool} {st:Stmt} {sts A:List Stmt} {g gA:En->Option Out} {fw gw:En->Option (List (List PyData))}
def DEW(X:Cx)(R:Rl)(e:Expr)(f:En->Option (List (List PyData))):Prop:=∃te,PE X e te/\RErows X.K R te f
variable {osc sc:Scope} {N':List Str} {ix:List (Option Nat)} {ifs:List Expr} {elt iter:Expr} {es:List Expr}
theorem dew_call {k j : Nat} {ps : List Str} {F : List PyData -> Option (List (List PyData))} (D : Tf.Def X.prog X.w X.K X.mg X.base j x ps (spW X.K F)) (hr : Room k X.A) (h : DA X R (e :: es) fs) (hj : j <= k := by decide) (hg : Gl X x := by rfl)
    (hdb:(x==("__debug__" : Str))=false:=by decide) (he:starEach (e::es) X.env=(false,eval e X.env)::starEach es X.env:=by rfl) (hpl:(backTo pos (starEach es X.env)).any (·.1)=false:=by rfl):DEW X R (.Call (.Name x p) (e::es) [] pos) (mCallW F fs):=by
  obtain ⟨t,h1,h2⟩:=h
  exact ⟨_,pe_callD D hr h1 hj hg hdb he hpl,re_callW h2⟩
theorem dsw_cons(h:DS X R st g)(k:DSW X R sts gw):DSW X R (st::sts) (mSeqW g gw):=by
  obtain ⟨t,h1,h2⟩:=h
  obtain ⟨u,h3,h4⟩:=k
  exact ⟨_,pss_cons h1 h3,rsw_seq h2 h4⟩
end
end Dm
namespace Dm
open PySem PySem.Spec PyProof.Rows L2 Tf
section
variable {K:PySem.W.Frag}
def PinW(K:PySem.W.Frag)(i:Nat):Rl:=⟨fun HB H0 H σ ρ=>∃rs a as,RwS K i rs HB H0 H σ ρ a as,fun k=>k≠i/\(0:Nat)=0⟩
theorem set_none_get{ρ:En}{i j:Nat}(h:i≠j):(ρ.set i none)[j]? = ρ[j]? :=List.getElem?_set_ne h
theorem set_comm_ne{ρ:En}{i k:Nat}{a b:Option Sl}(h:i≠k):(ρ.set k a).set i b=(ρ.set i b).set k a:=List.set_comm a b (Ne.symm h)
instance relOk_PinW {i:Nat}:RelOk K (PinW K i) where
  ext:=fun x ⟨rs,a,as,r⟩=>⟨rs,a,as,r.ext x⟩
  get:=fun {_ _ _ _ _ k _} ⟨rs,a,as,r⟩ hs h=>r.er.get k _ (by rw [set_none_get (Ne.symm hs.1)];exact h)
  set:=fun {HB H0 H H0' H' σ ρ k v s} ⟨rs,a,as,r⟩ hs x sb h=>by
    refine ⟨rs,a,as,?_,by rw [List.getElem?_set_ne hs.1];exact r.at_,by rw [List.getElem?_set_ne hs.1];exact r.in_,r.rows.ext x,fun j b ds hj h1 h2 hm=> ?_⟩
    . rw [set_comm_ne (Ne.symm hs.1)]
      exact ER.set r.er x sb h
    . by_cases hk:k=j
      . subst hk
        rw [List.getElem?_set_self'] at h1 h2
        cases hq:ρ[k]? with
        | none=>rw [hq] at h1;cases h1
        | some q=>
          rw [hq] at h1
          cases h1
          have hl:k<σ.length:=by
            rw [r.er.len,List.length_set]
            exact (List.getElem?_eq_some_iff.mp hq).1
          rw [List.getElem?_eq_getElem hl] at h2
          cases h2
          obtain ⟨b',ws,eb,hn,_⟩:=h
          cases eb
          obtain ⟨o,ho⟩:=r.rows.live b hm
          rw [hn] at ho
          cases ho
      . rw [List.getElem?_set_ne hk] at h1 h2
        exact r.apart j b ds hj h1 h2 hm
  write:=fun {HB H0 H σ ρ k c ds es vs ys} ⟨rs,a,as,r⟩ hs h1 h2 h3 h4 h5 h6=>by
    have cn:c ∉ a::as:=r.apart k c ds hs.1 h1 h2
    have un:∀b,b ∈ a::as->(upd H c (.lst ys)) b=H b:=fun b hb=>upd_ne fun z=>cn (z ▸ hb)
    refine ⟨rs,a,as,?_,r.at_,by rw [List.getElem?_set_ne hs.1];exact r.in_,⟨by rw [un a (by simp)];exact r.rows.top,r.rows.len,r.rows.nd,r.rows.new,fun j b qs g1 g2=> ?_⟩,fun j b qs hj g1 g2=> ?_⟩
    . rw [set_comm_ne (Ne.symm hs.1)]
      exact ER.write r.er (by rw [set_none_get (Ne.symm hs.1)];exact h1) h2 h3 h4 h6
    . obtain ⟨ws,q1,q2⟩:=r.rows.row j b qs g1 g2
      exact ⟨ws,by rw [un b (by simp [List.mem_of_getElem? g1])];exact q1,q2⟩
    . by_cases hk:k=j
      . subst hk
        exact r.apart k b ds hs.1 h1 g2
      . rw [List.getElem?_set_ne hk] at g1
        exact r.apart j b qs hj g1 g2
  frz:=fun {S0 HB H0 H σ ρ k ds} ⟨rs,a,as,r⟩ hs h x=>by
    obtain ⟨c,vs,hc,x',e'⟩:=ER.frz r.er (show (ρ.set i none)[k]? = some (some (.own ds)) by rw [set_none_get (Ne.symm hs.1)];exact h) x
    obtain ⟨v,g1,c',ws,ev,q1,q2,q3,q4⟩:=r.er.get k _ (show (ρ.set i none)[k]? = some (some (.own ds)) by rw [set_none_get (Ne.symm hs.1)];exact h)
    subst ev
    have cn':c' ∉ a::as:=r.apart k c' ds hs.1 h g1
    refine ⟨fzH H0 H [c'],?_,rs,a,as,?_,r.at_,by rw [List.getElem?_set_ne hs.1];exact r.in_,?_,fun j b qs hj g2 g3=> ?_⟩
    . have s0 : Same H0 (fzH H0 H [c']) := fun b u e => by
        by_cases hb:b ∈ [c']
        . cases List.mem_singleton.mp hb
          rw [q2] at e
          cases e
        . rw [fz_out hb]
          exact e
      exact ⟨x.s,x.s0.trans s0,fun b u e=>by
        by_cases hb:b ∈ [c']
        . rw [fz_in hb] at e
          exact e
        . rw [fz_out hb] at e
          exact x.s1 b u e,fun b o hb h0=>by
        by_cases hm:b ∈ [c']
        . cases List.mem_singleton.mp hm
          rw [q1] at hb
          cases hb
        . rw [fz_out hm]
          exact x.own b o hb h0⟩
    . rw [set_comm_ne (Ne.symm hs.1)]
      have s0:Same H0 (fzH H0 H [c']):=fun b u e=>by
        by_cases hb:b ∈ [c']
        . cases List.mem_singleton.mp hb
          rw [q2] at e
          cases e
        . rw [fz_out hb]
          exact e
      refine ⟨by rw [List.length_set];exact r.er.len,fun j s hq=> ?_,fun j l b ts us hjl g2 g3 g4 g5=> ?_⟩
      . by_cases hkj:k=j
        . subst hkj
          rw [List.getElem?_set_self',set_none_get (Ne.symm hs.1),h] at hq
          cases hq
          exact ⟨.ref c',g1, .list (SqL.of (by rw [fz_in (by simp)];exact q3)) (Reps.same s0 q4)⟩
        . rw [List.getElem?_set_ne hkj] at hq
          obtain ⟨u,p1,p2⟩:=r.er.get j s hq
          refine ⟨u,p1,?_⟩
          cases s with
          | val d=>exact Rep.same s0 p2
          | own ts=>
            obtain ⟨b,zs,rfl,t1,t2,t3,t4⟩:=p2
            refine ⟨b,zs,rfl,t1,?_,t3,Reps.same s0 t4⟩
            rw [fz_out]
            . exact t2
            . intro hm
              cases List.mem_singleton.mp hm
              exact r.er.apart k j _ ds ts hkj (by rw [set_none_get (Ne.symm hs.1)];exact h) hq g1 p1
      . have f : ∀ (j : Nat) qs, ((ρ.set i none).set k (some (.val (.list ds))))[j]? = some (some (.own qs)) -> (ρ.set i none)[j]? = some (some (.own qs)) := by
          intro j qs hq
          have hkj:k≠j:=by
            rintro rfl
            rw [List.getElem?_set_self',set_none_get (Ne.symm hs.1),h] at hq
            cases hq
          rw [List.getElem?_set_ne hkj] at hq
          exact hq
        exact r.er.apart j l b ts us hjl (f j ts g2) (f l us g3) g4 g5
    . have nz : ∀ b ∈ a :: as, fzH H0 H [c'] b = H0 b := fun b hb => fz_out fun hm => by
        cases List.mem_singleton.mp hm
        exact cn' hb
      have s0:Same H0 (fzH H0 H [c']):=fun b u e=>by
        by_cases hb:b ∈ [c']
        . cases List.mem_singleton.mp hb
          rw [q2] at e
          cases e
        . rw [fz_out hb]
          exact e
      exact ⟨r.rows.top,r.rows.len,r.rows.nd,fun b hb=>⟨(r.rows.new b hb).1,by rw [nz b hb];exact (r.rows.new b hb).2⟩,fun j b qs t1 t2=>by
        obtain ⟨ws',t3,t4⟩:=r.rows.row j b qs t1 t2
        exact ⟨ws',t3,Reps.same s0 t4⟩⟩
    . have hkj : k ≠ j := by
        rintro rfl
        rw [List.getElem?_set_self',h] at g2
        cases g2
      rw [List.getElem?_set_ne hkj] at g2
      exact r.apart j b qs hj g2 g3
theorem pinW_sub{i:Nat}{ix:List (Option Nat)}(hn:(ix.filterMap id).Nodup:=by decide)(hi:some i ∉ ix:=by decide)(HB:Hp)(σ:L2.St)(ρ:En)(H0 H:Hp)(h:(PinW K i).r HB H0 H σ ρ):(PR K).r (fun _=>none) H0 H (subS ix σ) (subE ix ρ):=by
  obtain ⟨rs,a,as,r⟩:=h
  have e:subE ix ρ=subE ix (ρ.set i none):=by
    unfold subE
    refine List.map_congr_left fun o ho=> ?_
    cases o with
    | none=>rfl
    | some j=>
      have:i≠j:=fun z=>hi (z ▸ ho)
      show (ρ[j]?).join=((ρ.set i none)[j]?).join
      rw [set_none_get this]
  rw [e]
  exact pr_sub hn HB σ _ H0 H r.er
end
section
variable {X:Cx} {p pos:Pos} {x y:Str} {st:Stmt} {sts:List Stmt} {g f:En->Option Out}
end
section
variable {K:PySem.W.Frag} {C:Addr} {names:List Str}
end
section
variable {X:Cx} {C:Addr} {names:List Str} {e:Expr} {pos:Pos} {x:Str} {rest:List Stmt}
end
end Dm
namespace Dm
open PySem PySem.Spec PyProof.Rows L2 Tf
theorem rs_frzF{K:PySem.W.Frag}{od:OD}{ts:TS}{g:En->Option Out}(i:Nat)(h:RS K (FR K od) ts g):RS K (FR K od) ts (mFrz i g):=fun HB S0 σ ρ H0 H x e o ho D d=>by
  unfold mFrz frz1 at ho
  split at ho
  . rename_i ds hj
    obtain ⟨h1,p,vals,hpp,h2,h3,h4⟩:=e.r
    obtain ⟨a,vs,ha,x',e'⟩:=h4.frz (join_some hj) x
    exact h HB S0 σ _ _ H x' ⟨⟨h1,p,vals,hpp,h2,h3.frz ha,e'⟩⟩ o ho D d
  . exact h HB S0 σ ρ H0 H x e o ho D d
theorem ds_frzF{X:Cx}{od:OD}{st:Stmt}{gs:En->Option Out}(i:Nat)(h:DS X (FR X.K od) st gs):DS X (FR X.K od) st (mFrz i gs):=by obtain ⟨t,h1,h2⟩:=h;exact ⟨_,h1,rs_frzF i h2⟩
end Dm
namespace Tf
open PySem PySem.Spec PyProof.Rows L2
section
variable {X:Cx}
end
end Tf
namespace Dm
open PySem PySem.Spec PyProof.Rows L2 Tf
section
variable {K:PySem.W.Frag} {R:Rl} [RelOk K R]
end
section
variable {X:Cx} {R:Rl} [RelOk X.K R] {a:Expr} {pos p:Pos} {fs:En->Option (List PyData)}
end
end Dm
namespace Dm
open PySem PySem.Spec PyProof.Rows L2 Tf
section
variable {K:PySem.W.Frag}
theorem RowsAt.s0'{HB H0 H:Hp}{a:Addr}{as:List Addr}{rs:List (List PyData)}(r:RowsAt K HB H0 H a as rs):Same H0 (fzH H0 H as):=fun b u e=>by
  by_cases hb:b ∈ as
  . rw [(r.new b (by simp [hb])).2] at e
    cases e
  . rw [fz_out hb]
    exact e
theorem RowsAt.reps'{HB H0 H:Hp}{a:Addr}{as:List Addr}{rs:List (List PyData)}(r:RowsAt K HB H0 H a as rs):Reps K (fzH H0 H as) (as.map .ref) (rs.map .list):=by
  have gen:∀(bs:List Addr) (qs:List (List PyData)),bs.length=qs.length->(∀b ∈ bs,b ∈ as)->(∀(j:Nat) b ds,bs[j]? = some b->qs[j]? = some ds->∃vs,H b=some (.lst vs)/\Reps K H0 vs ds)->Reps K (fzH H0 H as) (bs.map .ref) (qs.map .list):=by
    intro bs
    induction bs with
    | nil=>intro qs hl _ _;cases qs with | nil=>exact .nil | cons q qs=>cases hl
    | cons b bs ih=>
      intro qs hl hm hr
      cases qs with
      | nil=>cases hl
      | cons q qs=>
        obtain ⟨vs,h1,h2⟩:=hr 0 b q rfl rfl
        refine .cons (.list (SqL.of (by rw [fz_in (hm b (by simp))];exact h1)) (Reps.same r.s0' h2)) (ih qs (by simpa using hl) (fun c hc=>hm c (by simp [hc])) fun j c ds h3 h4=>hr (j+1) c ds (by simpa using h3) (by simpa using h4))
  exact gen as rs r.len (fun b hb=>hb) r.row
def intS:Sl->Option Int
  | .val (.int n)=>some n
  | _=>none
theorem intS_some{s:Sl}{n:Int}(h:intS s=some n):s = .val (.int n):=by
  unfold intS at h
  split at h
  . cases h;rfl
  . cases h
theorem bind_int{f:Option Sl}{n:Int}(h:f.bind intS=some n):f=some (.val (.int n)):=by
  obtain ⟨s,h1,h2⟩:=Option.bind_eq_some_iff.mp h
  rw [h1,intS_some h2]
end
section
variable {X:Cx} {p pos:Pos} {x y:Str} {e a b c:Expr} {st:Stmt} {sts:List Stmt} {g:En->Option Out} {f fa fb:En->Option Sl} {ft:En->Option Bool}
end
section
variable {X:Cx} {R':Rl} [RelOk X.K R'] {pos:Pos} {fe:En->Option Sl} {fi:En->Option (List PyData)} {tg:Expr} {y:Str} {fg:PyData->En->Option En} {ft:En->Option Bool} {sts:List Stmt} {g:En->Option Out} {osc sc:Scope} {N':List Str} {ifs:List Expr} {elt iter:Expr}
end
end Dm
namespace Dm
open PySem PySem.Spec PyProof.Rows L2 Tf
section
variable {K:PySem.W.Frag} {R:Rl} [RelOk K R]
def mOwnW(f:En->Option (List (List PyData))):En->Option Sl:=fun ρ=>(f ρ).map fun rs=> .own (rs.map .list)
theorem re_ofW{te:TE}{f:En->Option (List (List PyData))}(h:RErows K R te f):RE K R te (mOwnW f):=fun HB σ ρ H0 H s e z hz Q q=>by
  obtain ⟨rs,hr,rfl⟩:=Option.map_eq_some_iff.mp hz
  refine h HB σ ρ H0 H s e rs hr _ fun v H1 J1 x1 p1=> ?_
  obtain ⟨a,as,rfl,p⟩:=p1
  have na:a ∉ as:=(List.nodup_cons.mp p.nd).1
  refine q _ (fzH H1 J1 as) J1 ?_ ⟨a,as.map .ref,rfl,(p.new a (by simp)).1,by rw [fz_out na];exact (p.new a (by simp)).2,p.top,p.reps'⟩
  refine ⟨x1.s,x1.s0.trans p.s0',fun b u e=> ?_,fun b o hb h0=> ?_⟩
  . by_cases hb:b ∈ as
    . rw [fz_in hb] at e
      exact e
    . rw [fz_out hb] at e
      exact x1.s1 b u e
  . by_cases hm:b ∈ as
    . rw [(p.new b (by simp [hm])).1] at hb
      cases hb
    . rw [fz_out hm]
      exact x1.own b o hb h0
end
section
variable {K:PySem.W.Frag}
def RWW(K:PySem.W.Frag)(i:Nat)(t:TS)(g:En->Option (List (List PyData))):Prop:=
  ∀(HB S0:Hp) (σ:L2.St) (ρ:En) (H0 H:Hp),Ext S0 HB H0 H->ST (PinW K i) HB H0 H σ ρ->∀rs,g ρ=some rs->∀D:Ends,(∀v H0' H',Ext S0 HB H0' H'->RowsH K HB H0' H' v rs->D.rt v H')->t D σ H
def mGiveW(i:Nat):En->Option (List (List PyData)):=fun ρ=>match (ρ[i]?).join with
  | some (.own ds)=>rowsOf ds
  | _=>none
theorem rww_ret{i:Nat}:RWW K i (tRet (tVar i)) (mGiveW i):=fun HB S0 σ ρ H0 H x e z hz D d=>by
  obtain ⟨rs,a,as,r⟩:=e.r
  unfold mGiveW at hz
  rw [r.in_] at hz
  have hz:rowsOf (rs.map .list)=some z:=hz
  rw [rowsOf_map] at hz
  cases hz
  exact ⟨.ref a,r.at_,d _ H0 H x ⟨a,as,rfl,r.rows⟩⟩
theorem rww_seq{i:Nat}{t u:TS}{f:En->Option Out}{g:En->Option (List (List PyData))}(h:RS K (PinW K i) t f)(k:RWW K i u g):RWW K i (tSeq t u) (mSeqW f g):=fun HB S0 σ ρ H0 H x e rs hr D d=>by
  obtain ⟨o1,h1,hr⟩:=Option.bind_eq_some_iff.mp hr
  refine h HB S0 σ ρ H0 H x e o1 h1 { D with nx:=u D} ?_
  cases o1 with
  | nx ρ'=>exact fun σ' H0' H' x' e'=>k HB S0 σ' ρ' H0' H' x' e' rs hr D d
  | _=>cases hr
def mRowsInW(i:Nat)(f g:En->Option (List (List PyData))):En->Option (List (List PyData)):=fun ρ=>if i<ρ.length then (f ρ).bind fun rs=>g (ρ.set i (some (.own (rs.map .list)))) else none
theorem rsw_rows{i:Nat}{te:TE}{u:TS}{f g:En->Option (List (List PyData))}(h:RErows K (PR K) te f)(k:RWW K i u g):RSW K (PR K) (tSeq (tAsg te (gName i)) u) (mRowsInW i f g):=fun HB S0 σ ρ H0 H x e o ho D d=>by
  unfold mRowsInW at ho
  split at ho
  . rename_i hi
    obtain ⟨rs,hr,ho⟩:=Option.bind_eq_some_iff.mp ho
    refine h HB σ ρ H0 H x.s1 e rs hr _ fun v H1 J1 x1 p1=> ?_
    obtain ⟨a,as,rfl,p1⟩:=p1
    have er:ER K HB H0 H σ ρ:=e.r
    refine k HB S0 _ _ H1 J1 (x.chain x1) ⟨⟨rs,a,as,(er.ext x1).drop,List.getElem?_set_self (by rw [er.len];exact hi),List.getElem?_set_self hi,p1.base x.s,fun j b ds hj h1 h2 hm=> ?_⟩⟩ o ho D d
    rw [List.getElem?_set_ne (Ne.symm hj)] at h1 h2
    obtain ⟨w,g1,g2⟩:=er.get j _ h1
    rw [h2] at g1
    cases g1
    obtain ⟨b',ws,eb,_,_,g3,_⟩:=g2
    cases eb
    rw [(p1.new b hm).1] at g3
    cases g3
  . cases ho
end
section
variable {X:Cx} {R:Rl} [RelOk X.K R] {p pos pos':Pos} {x:Str} {e a b:Expr} {st:Stmt} {sts:List Stmt} {g:En->Option Out} {f fa:En->Option Sl} {fw gw:En->Option (List (List PyData))}
theorem de_ofW(h:DEW X R e fw):DE X R e (mOwnW fw):=by
  obtain ⟨t,h1,h2⟩:=h
  exact ⟨t,h1,re_ofW h2⟩
def DWW(X:Cx)(i:Nat)(sts:List Stmt)(g:En->Option (List (List PyData))):Prop:=∃t,PSs X sts t/\RWW X.K i t g
theorem dww_ret (i:Nat) (hN:X.N[i]? = some x:=by rfl) (hv:Vis X.env.scope x:=by first | exact Or.inl rfl | exact Or.inr (Or.inl rfl) | exact Or.inr (Or.inr rfl)) (hd:(x==("__debug__" : Str))=false:=by decide) (hcd:(x==("__classdict__" : Str))=false:=by decide):DWW X i [.Return (some (.Name x pos')) pos] (mGiveW i) :=
  ⟨_,pss_one (ps_ret (pe_var hN hv hd hcd)),rww_ret⟩
theorem dww_cons{K:PySem.W.Frag}{i:Nat}(hK:X.K=K)(h:DS X (PinW K i) st g)(k:DWW X i sts gw):DWW X i (st::sts) (mSeqW g gw):=by
  subst hK
  obtain ⟨t,h1,h2⟩:=h
  obtain ⟨u,h3,h4⟩:=k
  exact ⟨_,pss_cons h1 h3,rww_seq h2 h4⟩
theorem dsw_rows {K : PySem.W.Frag} (i : Nat) (hK : X.K = K) (hN : X.N.Nodup) (h : DEW X (PR K) e fw) (k : DWW X i sts gw) (hi : X.N[i]? = some x := by rfl) (hx : Loc X.env.scope x := by first | exact Or.inl rfl | exact Or.inr rfl) (hs : swapsWith e (some (.Name x pos')) pos.line X.env = pure false := by rfl) (hf : X.fn x = true \/ X.env.scope.names.lookup x = some .local := by first | exact .inl rfl | exact .inr rfl) :
    DSW X (PR K) (.Assign [.Name x pos'] e pos::sts) (mRowsInW i fw gw):=by
  subst hK
  obtain ⟨t,h1,h2⟩:=h
  obtain ⟨u,h3,h4⟩:=k
  exact ⟨_,pss_cons (ps_set hN hi hx h1 hs hf) h3,rsw_rows h2 h4⟩
end
end Dm
namespace Dm
open PySem PySem.Spec PyProof.Rows L2 Tf
section
variable {K:PySem.W.Frag}
def mAppWN(i k:Nat):En->Option Out:=fun ρ=>match (ρ[i]?).join with
  | some (.own ds)=>(rowsOf ds).bind fun rs=>match (ρ[k]?).join with
    | some (.own r)=>if rs.length<sizeLine/\k≠i then some (.nx ((ρ.set k none).set i (some (.own ((rs ++ [r]).map .list))))) else none
    | _=>none
  | _=>none
theorem rs_appWN{i k:Nat}:RS K (PinW K i) (tDrop (tBM K "list" rAppend (tVar i) (tCons (tVar k) tNil))) (mAppWN i k):=fun HB S0 σ ρ H0 H x e o ho D d=>by
  obtain ⟨rs,a,as,r⟩:=e.r
  unfold mAppWN at ho
  rw [r.in_] at ho
  obtain ⟨rs',hrs,ho⟩:=Option.bind_eq_some_iff.mp (show (rowsOf (rs.map .list)).bind _=some o from ho)
  rw [rowsOf_map] at hrs
  cases hrs
  split at ho
  . rename_i ds hk
    split at ho
    . rename_i hc
      obtain ⟨hl,hki⟩:=hc
      cases ho
      have hk:=join_some hk
      have hk':(ρ.set i none)[k]? = some (some (.own ds)):=by rw [List.getElem?_set_ne (Ne.symm hki)];exact hk
      obtain ⟨v,sk,b,vs,rfl,n1,n2,n3,n4⟩:=r.er.get k _ hk'
      have nb:=r.apart k b ds hki hk sk
      have ba:a≠b:=fun q=>nb (by simp [q])
      have bas:b ∉ as:=fun q=>nb (by simp [q])
      have an:=r.rows.new a (by simp)
      refine ⟨.ref a,r.at_, .inl ⟨rfl,_,SqL.of r.rows.top⟩,?_⟩
      refine ⟨.ref b,sk,?_⟩
      refine ⟨a,as.map .ref, .ref b,rfl,rfl,r.rows.top,by rw [List.length_map,r.rows.len];exact hl,?_⟩
      have iL:i<(ρ.set k none).length:=by rw [List.length_set];exact (List.getElem?_eq_some_iff.mp r.in_).1
      have old:∀ {j:Nat} {s:Sl},j≠i->((ρ.set k none).set i (some (.own ((rs ++ [ds]).map .list))))[j]? = some (some s)->j≠k/\ρ[j]? = some (some s):=fun {j s} hj h=>by
        rw [List.getElem?_set_ne (Ne.symm hj)] at h
        have jk:j≠k:=by
          rintro rfl
          rw [List.getElem?_set_self',hk] at h
          cases h
        rw [List.getElem?_set_ne (Ne.symm jk)] at h
        exact ⟨jk,h⟩
      have old2:∀ {j:Nat} {s:Sl},(((ρ.set k none).set i (some (.own ((rs ++ [ds]).map .list)))).set i none)[j]? = some (some s)->j≠i/\j≠k/\ρ[j]? = some (some s)/\(ρ.set i none)[j]? = some (some s):=fun {j s} h=>by
        have ji:j≠i:=by
          rintro rfl
          rw [List.getElem?_set_self'] at h
          cases hq:((ρ.set k none).set j (some (.own ((rs ++ [ds]).map .list))))[j]? with
          | none=>rw [hq] at h;cases h
          | some q=>rw [hq] at h;cases h
        rw [List.getElem?_set_ne (Ne.symm ji)] at h
        obtain ⟨jk,h⟩:=old ji h
        exact ⟨ji,jk,h,by rw [List.getElem?_set_ne (Ne.symm ji)];exact h⟩
      refine d σ H0 _ (x.write an.1 an.2 _) ⟨rs ++ [ds],a,as ++ [b],⟨?_,fun j s hs=> ?_,fun j l c xs ys hjl hj hl' sj sl' => ?_⟩,r.at_,List.getElem?_set_self iL,⟨by rw [upd_same,List.map_append];rfl,by rw [List.length_append,List.length_append,r.rows.len];rfl,?_,fun c hc=> ?_,fun j c ds' g1 g2=> ?_⟩,fun j c ds' hj g1 g2=> ?_⟩
      . have:=r.er.len
        simp only [List.length_set] at this ⊢
        exact this
      . obtain ⟨ji,jk,h1,h2⟩:=old2 hs
        obtain ⟨v,g1,g2⟩:=r.er.get j s h2
        refine ⟨v,g1,?_⟩
        cases s with
        | val d=>exact g2
        | own ts=>
          obtain ⟨c,ws,rfl,q1,q2,q3,q4⟩:=g2
          refine ⟨c,ws,rfl,q1,q2,?_,q4⟩
          rw [upd_ne]
          . exact q3
          . rintro rfl
            exact r.apart j c ts ji h1 g1 (by simp)
      . exact r.er.apart j l c xs ys hjl (old2 hj).2.2.2 (old2 hl').2.2.2 sj sl'
      . have nd:=List.nodup_cons.mp r.rows.nd
        refine List.nodup_cons.mpr ⟨fun hm=> ?_,List.nodup_append.mpr ⟨nd.2,by simp,fun c hc c' hc' e=> ?_⟩⟩
        . rcases List.mem_append.mp hm with h | h
          . exact nd.1 h
          . rw [List.mem_singleton] at h
            exact ba h
        . rw [List.mem_singleton] at hc'
          subst hc' e
          exact bas hc
      . rcases List.mem_cons.mp hc with rfl | hc
        . exact an
        . rcases List.mem_append.mp hc with h | h
          . exact r.rows.new c (by simp [h])
          . rw [List.mem_singleton] at h
            subst h
            exact ⟨n1,n2⟩
      . by_cases hj:j<as.length
        . rw [List.getElem?_append_left hj] at g1
          rw [List.getElem?_append_left (by rw [<-r.rows.len];exact hj)] at g2
          obtain ⟨ws,t1,t2⟩:=r.rows.row j c ds' g1 g2
          refine ⟨ws,?_,t2⟩
          rw [upd_ne]
          . exact t1
          . rintro rfl
            exact (List.nodup_cons.mp r.rows.nd).1 (List.mem_of_getElem? g1)
        . rw [List.getElem?_append_right (by omega)] at g1
          rw [List.getElem?_append_right (by rw [<-r.rows.len];omega)] at g2
          have j0:j - as.length=0:=by
            have:=(List.getElem?_eq_some_iff.mp g1).1
            simp at this
            omega
          have j0':j - rs.length=0:=by rw [<-r.rows.len];exact j0
          rw [j0] at g1
          rw [j0'] at g2
          cases g1
          cases g2
          exact ⟨vs,by rw [upd_ne (Ne.symm ba)];exact n3,n4⟩
      . obtain ⟨jk,h1⟩:=old hj g1
        have h2:=r.apart j c ds' hj h1 g2
        intro hm
        rcases List.mem_cons.mp hm with rfl | hm
        . exact h2 (by simp)
        . rcases List.mem_append.mp hm with h | h
          . exact h2 (by simp [h])
          . rw [List.mem_singleton] at h
            subst h
            exact r.er.apart j k c ds' ds jk (by rw [List.getElem?_set_ne (Ne.symm hj)];exact h1) hk' g2 sk
    . cases ho
  . cases ho
theorem RwS.putV {i p q : Nat} {w : V} {dv : PyData} {rs : List (List PyData)} {r : List PyData} {HB H0 H : Hp} {σ : L2.St} {ρ : En} {a b : Addr} {as : List Addr} (R : RwS K i rs HB H0 H σ ρ a as) (hb : as[p]? = some b) (hr : rs[p]? = some r) {vs : List V} (hv : H b = some (.lst vs)) (hvr : Reps K H0 vs r) (hw : Rep K H0 w dv) :
    RwS K i (rs.set p (r.set q dv)) HB H0 (upd H b (.lst (vs.set q w))) σ (ρ.set i (some (.own ((rs.set p (r.set q dv)).map .list)))) a as:=by
  have bm:b ∈ as:=List.mem_of_getElem? hb
  have bn:=R.rows.new b (by simp [bm])
  have ab:a≠b:=fun z=>(List.nodup_cons.mp R.rows.nd).1 (z ▸ bm)
  have iL:i<ρ.length:=(List.getElem?_eq_some_iff.mp R.in_).1
  refine ⟨?_,R.at_,by rw [List.getElem?_set_self iL],?_,fun j c ds hj h1 h2=> ?_⟩
  . rw [List.set_set]
    refine ⟨R.er.len,fun j s hs=> ?_,R.er.apart⟩
    have hij:i≠j:=by
      rintro rfl
      rw [List.getElem?_set_self'] at hs
      cases hq:ρ[i]? with
      | none=>rw [hq] at hs;cases hs
      | some q=>rw [hq] at hs;cases hs
    obtain ⟨v,g1,g2⟩:=R.er.get j s hs
    rw [List.getElem?_set_ne hij] at hs
    refine ⟨v,g1,?_⟩
    cases s with
    | val d=>exact g2
    | own ts=>
      obtain ⟨c,ws,rfl,q1,q2,q3,q4⟩:=g2
      refine ⟨c,ws,rfl,q1,q2,?_,q4⟩
      rw [upd_ne]
      . exact q3
      . rintro rfl
        exact R.apart j c ts (Ne.symm hij) hs g1 (by simp [bm])
  . refine ⟨by rw [upd_ne ab];exact R.rows.top,by rw [R.rows.len,List.length_set],R.rows.nd,R.rows.new,fun j c ds h1 h2=> ?_⟩
    by_cases hj:p=j
    . subst hj
      rw [hb] at h1
      cases h1
      rw [List.getElem?_set_self (List.getElem?_eq_some_iff.mp hr).1] at h2
      cases h2
      exact ⟨vs.set q w,upd_same,Reps.set hw q hvr⟩
    . rw [List.getElem?_set_ne hj] at h2
      obtain ⟨ws,g1,g2⟩:=R.rows.row j c ds h1 h2
      refine ⟨ws,?_,g2⟩
      rw [upd_ne]
      . exact g1
      . rintro rfl
        have nd:=(List.nodup_cons.mp R.rows.nd).2
        obtain ⟨p1,e1⟩:=List.getElem?_eq_some_iff.mp h1
        obtain ⟨p2,e2⟩:=List.getElem?_eq_some_iff.mp hb
        exact hj ((List.getElem_inj nd).mp (e2.trans e1.symm))
  . rw [List.getElem?_set_ne (Ne.symm hj)] at h1
    exact R.apart j c ds hj h1 h2
def mSetW(i:Nat)(fa fb fe:En->Option Sl):En->Option Out:=fun ρ=>(fe ρ).bind fun v=>((fa ρ).bind intS).bind fun ia=>((fb ρ).bind intS).bind fun ib=>match (ρ[i]?).join with
  | some (.own ds)=>(rowsOf ds).bind fun rs=>(ixN rs.length ia).bind fun p=>(rs[p]?).bind fun r=>(ixN r.length ib).map fun q=> .nx (ρ.set i (some (.own ((rs.set p (r.set q v.dat)).map .list))))
  | _=>none
theorem rs_setW{i:Nat}{te ta tb:TE}{fe fa fb:En->Option Sl}(hE:RE K (PinW K i) te fe)(hA:RP K (PinW K i) ta fa)(hB:RP K (PinW K i) tb fb):RS K (PinW K i) (tAsg te (gSub (tOp (rIx K) (tVar i) ta) tb rSetL)) (mSetW i fa fb fe):=fun HB S0 σ ρ H0 H x e o ho D d=>by
  obtain ⟨rs,a,as,r⟩:=e.r
  obtain ⟨v,hv,ho⟩:=Option.bind_eq_some_iff.mp ho
  obtain ⟨ia,hia,ho⟩:=Option.bind_eq_some_iff.mp ho
  obtain ⟨ib,hib,ho⟩:=Option.bind_eq_some_iff.mp ho
  have hia:=bind_int hia
  have hib:=bind_int hib
  rw [r.in_] at ho
  obtain ⟨rs',hrs,hp⟩:=Option.bind_eq_some_iff.mp (show (rowsOf (rs.map .list)).bind _=some o from ho)
  rw [rowsOf_map] at hrs
  cases hrs
  obtain ⟨p,hp1,hp⟩:=Option.bind_eq_some_iff.mp hp
  obtain ⟨rr,hrr,hp⟩:=Option.bind_eq_some_iff.mp hp
  obtain ⟨q,hq,rfl⟩:=Option.map_eq_some_iff.mp hp
  refine hE.rv HB σ ρ H0 H x.s1 e v.dat (by unfold mDat;rw [hv];rfl) _ fun w H1 J1 x1 p1=> ?_
  have r1:=r.ext x1
  have e1:=e.ext (K:=K) x1
  refine ⟨.ref a,r1.at_,?_⟩
  refine hA HB σ ρ H1 J1 x1.s1 e1 _ hia _ fun wa H2 J2 x2 p2=> ?_
  have r2:=r1.ext x2
  have e2:=e1.ext (K:=K) x2
  have pl:p<as.length:=by rw [r.rows.len];exact (List.getElem?_eq_some_iff.mp hrr).1
  have gb:as[p]? = some as[p]:=List.getElem?_eq_getElem pl
  generalize as[p]=bb at gb
  have bm:bb ∈ as:=List.mem_of_getElem? gb
  refine .inl ⟨a,as.map .ref,ia, .ref bb,rfl,p2.int,SqL.of r2.rows.top,?_,?_⟩
  . unfold atI
    rw [List.length_map,r.rows.len,hp1]
    show (as.map V.ref)[p]? = _
    rw [List.getElem?_map,gb]
    rfl
  refine hB HB σ ρ H2 J2 x2.s1 e2 _ hib _ fun wb H3 J3 x3 p3=> ?_
  have r3:=r2.ext x3
  obtain ⟨vs,g1,g2⟩:=r3.rows.row p bb rr gb hrr
  have bn:=r3.rows.new bb (by simp [bm])
  refine ⟨bb,vs,ib,q,rfl,p3.int,g1,by rw [g2.length];exact hq,?_⟩
  exact d σ H3 _ ((((x.chain x1).chain x2).chain x3).write bn.1 bn.2 _) ⟨_,a,as,r3.putV gb hrr g1 g2 (Rep.same x3.s0 (Rep.same x2.s0 p1))⟩
end
section
variable {X:Cx} {p pos:Pos} {x y:Str} {e a b:Expr} {f fa fb:En->Option Sl}
theorem ds_appWN {K : PySem.W.Frag} (i k : Nat) {apos cpos q : Pos} (hK : X.K = K) (hN : X.N[i]? = some x := by rfl) (hv : Vis X.env.scope x := by first | exact Or.inl rfl | exact Or.inr (Or.inl rfl) | exact Or.inr (Or.inr rfl)) (hd : (x == ("__debug__" : Str)) = false := by decide) (hcd : (x == ("__classdict__" : Str)) = false := by decide)
    (hN2:X.N[k]? = some y:=by rfl) (hv2:Vis X.env.scope y:=by first | exact Or.inl rfl | exact Or.inr (Or.inl rfl) | exact Or.inr (Or.inr rfl)) (hd2:(y==("__debug__" : Str))=false:=by decide) (hcd2:(y==("__classdict__" : Str))=false:=by decide)
    (hst:starEach [.Name y q] X.env=(false,eval (.Name y q) X.env)::starEach [] X.env:=by rfl) (hbase:attributeBase (.Name x p) "append" X.env (eval (.Name x p) X.env)=eval (.Name x p) X.env:=by rfl)
    (hfew:((backTo cpos (starEach [.Name y q] X.env)).all (fun x=> !x.1) && (backToKw cpos (keywordEach [] X.env)).all (fun x=>x.1.isSome) && decide ([Expr.Name y q].length+([]:List Keyword).length+(if ([]:List Keyword).isEmpty then 0 else 1)<30))=true:=by rfl)
    (hline:(apos.endLine==cpos.line)=true:=by rfl) (hplain:(backTo cpos (starEach [] X.env)).any (·.1)=false:=by rfl)
    (hs:swapsWith (.Call (.Attribute (.Name x p) "append" apos) [.Name y q] [] cpos) none pos.line X.env=pure false:=by rfl):DS X (PinW K i) (.Expr (.Call (.Attribute (.Name x p) "append" apos) [.Name y q] [] cpos) pos) (mAppWN i k):=by
  subst hK
  exact ⟨_,ps_expr (pe_bm PySem.F.plainAttrs_list PySem.F.slot_list_append PySem.F.type_list_append mt_append (pe_var hN hv hd hcd) (pa_cons (pe_var hN2 hv2 hd2 hcd2) pa_nil hst) hbase hfew hline hst hplain) hs,rs_appWN⟩
theorem ds_setW {K : PySem.W.Frag} (i : Nat) {px ps1 ps2 apos : Pos} (hK : X.K = K) (h : DE X (PinW K i) e f) (ha' : DP X (PinW K i) a fa) (hb' : DP X (PinW K i) b fb)
    (hN:X.N[i]? = some x:=by rfl) (hv:Vis X.env.scope x:=by first | exact Or.inl rfl | exact Or.inr (Or.inl rfl) | exact Or.inr (Or.inr rfl)) (hd:(x==("__debug__" : Str))=false:=by decide) (hcd:(x==("__classdict__" : Str))=false:=by decide)
    (hpl:PlainIx a:=by intro _ _;rfl)
    (ha:∀v,assign (.Subscript (.Subscript (.Name x px) a ps1) b ps2) X.env v=(do
      let ov <-holding [v] (eval (.Subscript (.Name x px) a ps1) X.env)
      let iv <-holding [v,ov] (eval b X.env)
      standAt ps2
      holding [v,ov,iv] (setItem ov iv v)
      release [v,ov,iv] []):=by intro _;rfl)
    (hs:swapsWithSole [.Subscript (.Subscript (.Name x px) a ps1) b ps2] e apos.line X.env=pure false:=by rfl) (hw:swappedStores [.Subscript (.Subscript (.Name x px) a ps1) b ps2] e X.env=pure none:=by rfl) (h1:(assignEach [.Subscript (.Subscript (.Name x px) a ps1) b ps2] X.env).map (·.2) = [assign (.Subscript (.Subscript (.Name x px) a ps1) b ps2) X.env]:=by rfl) :
    DS X (PinW K i) (.Assign [.Subscript (.Subscript (.Name x px) a ps1) b ps2] e apos) (mSetW i fa fb f):=by
  subst hK
  obtain ⟨te,e1,e2⟩:=h
  obtain ⟨ta,a1,a2⟩:=ha'
  obtain ⟨tb,b1,b2⟩:=hb'
  exact ⟨_,ps_asg e1 (pg_sub (pe_ix ix_seq (pe_var hN hv hd hcd) a1 hpl) b1 set_list ha) hs hw h1,rs_setW e2 a2 b2⟩
end
section
variable {K:PySem.W.Frag} {R:Rl} [RelOk K R]
def mLst0W:En->Option (List (List PyData)):=fun _=>some []
theorem re_lst0W:RErows K R (tLst tNil) mLst0W:=fun HB σ ρ H0 H s e z hz Q q=>by
  cases hz
  refine ⟨by show 0<=sizeLine;decide,fun p hp=> ?_⟩
  refine q _ _ _ (Ext.alloc s hp (.lst [])) ⟨p,[],rfl,upd_same,rfl,by simp,fun c hc=> ?_,fun j c ds g1 g2=> ?_⟩
  . rw [List.mem_singleton] at hc
    subst hc
    exact ⟨hp,s.free hp⟩
  . cases g1
end
section
variable {X:Cx} {R:Rl} [RelOk X.K R] {pos:Pos}
theorem dew_lst0:DEW X R (.List [] pos) mLst0W:=⟨_,pe_lst pa_nil,re_lst0W⟩
end
end Dm
namespace Ba
abbrev Mx:=Nat->Nat->Int
def skip(p i:Nat):Nat:=if i<p then i else i+1
def unskip(p r:Nat):Nat:=if r<p then r else r - 1
def sgn(n:Nat):Int:=if n % 2=0 then 1 else -1
def sumN:Nat->(Nat->Int)->Int
  | 0,_=>0
  | n+1,f=>sumN n f+f n
def det:Nat->Mx->Int
  | 0,_=>1
  | n+1,M=>sumN (n+1) fun p=>sgn (n - p)*M p n*det n (fun i=>M (skip p i))
theorem det_succ(n:Nat)(M:Mx):det (n+1) M=sumN (n+1) fun p=>sgn (n - p)*M p n*det n (fun i=>M (skip p i)):=rfl
theorem sum_congr:∀ {n:Nat} {f g:Nat->Int},(∀i,i<n->f i=g i)->sumN n f=sumN n g
  | 0,_,_,_=>rfl
  | n+1,f,g,h=>by
    rw [sumN,sumN,sum_congr (n:=n) fun i hi=>h i (by omega),h n (by omega)]
theorem sum_zero:∀ {n:Nat} {f:Nat->Int},(∀i,i<n->f i=0)->sumN n f=0
  | 0,_,_=>rfl
  | n+1,f,h=>by rw [sumN,sum_zero (n:=n) fun i hi=>h i (by omega),h n (by omega)];rfl
theorem sum_lin(a b:Int):∀ {n:Nat} {f g:Nat->Int},sumN n (fun i=>a*f i+b*g i)=a*sumN n f+b*sumN n g
  | 0,_,_=>by simp [sumN]
  | n+1,f,g=>by
    rw [sumN,sumN,sumN,sum_lin a b (n:=n),Int.mul_add,Int.mul_add]
    omega
theorem sum_mul(a:Int){n:Nat}{f:Nat->Int}:sumN n (fun i=>a*f i)=a*sumN n f:=by
  have h:=sum_lin a 0 (n:=n) (f:=f) (g:=fun _=>0)
  simpa using h
theorem sum_add{n:Nat}{f g:Nat->Int}:sumN n (fun i=>f i+g i)=sumN n f+sumN n g:=by
  have h:=sum_lin 1 1 (n:=n) (f:=f) (g:=g)
  simpa using h
theorem sum_one:∀ {n r:Nat} {f:Nat->Int},r<n->(∀i,i<n->i≠r->f i=0)->sumN n f=f r
  | 0,r,_,h,_=>absurd h (by omega)
  | n+1,r,f,h,hz=>by
    rw [sumN]
    by_cases e:r=n
    . subst e
      rw [sum_zero fun i hi=>hz i (by omega) (by omega)]
      omega
    . rw [sum_one (n:=n) (r:=r) (by omega) fun i hi hr=>hz i (by omega) hr,hz n (by omega) (by omega)]
      omega
theorem sum_two:∀ {n r:Nat} {f:Nat->Int},r+1<n->(∀i,i<n->i≠r->i≠r+1->f i=0)->sumN n f=f r+f (r+1)
  | 0,r,_,h,_=>absurd h (by omega)
  | n+1,r,f,h,hz=>by
    rw [sumN]
    by_cases e:r+1=n
    . subst e
      rw [sum_one (r:=r) (by omega) fun i hi hr=>hz i (by omega) hr (by omega)]
    . rw [sum_two (n:=n) (r:=r) (by omega) fun i hi hr h2=>hz i (by omega) hr h2,hz n (by omega) (by omega) (by omega)]
      omega
theorem sum_comm:∀ {n m:Nat} {f:Nat->Nat->Int},sumN n (fun i=>sumN m (fun j=>f i j))=sumN m (fun j=>sumN n (fun i=>f i j))
  | 0,m,f=>by rw [sumN];exact (sum_zero fun _ _=>rfl).symm
  | n+1,m,f=>by
    rw [sumN,sum_comm (n:=n), <-sum_add]
    exact sum_congr fun j _=>rfl
theorem det_congr:∀ {n:Nat} {M N:Mx},(∀i,i<n->∀j,j<n->M i j=N i j)->det n M=det n N
  | 0,_,_,_=>rfl
  | n+1,M,N,h=>by
    rw [det_succ,det_succ]
    refine sum_congr fun p hp=> ?_
    rw [h p hp n (by omega),det_congr (n:=n) fun i hi j hj=>h (skip p i) (by unfold skip;split <;> omega) j (by omega)]
def setR(M:Mx)(r:Nat)(v:Nat->Int):Mx:=fun i=>if i=r then v else M i
theorem setR_same(M:Mx)(r:Nat)(v:Nat->Int):setR M r v r=v:=by simp [setR]
theorem setR_ne{M:Mx}{r i:Nat}{v:Nat->Int}(h:i≠r):setR M r v i=M i:=by simp [setR,h]
theorem setR_self(M:Mx)(r:Nat):setR M r (M r)=M:=by
  funext i
  by_cases h:i=r
  . subst h;rw [setR_same]
  . rw [setR_ne h]
theorem setR_comm{M:Mx}{r s:Nat}{u v:Nat->Int}(h:r≠s):setR (setR M r u) s v=setR (setR M s v) r u:=by
  funext i
  by_cases h1:i=r
  . subst h1;rw [setR_ne h,setR_same,setR_same]
  . by_cases h2:i=s
    . subst h2;rw [setR_same,setR_ne h1,setR_same]
    . rw [setR_ne h2,setR_ne h1,setR_ne h1,setR_ne h2]
theorem skip_set{M:Mx}{r p:Nat}{v:Nat->Int}(h:p≠r):(fun i=>setR M r v (skip p i))=setR (fun i=>M (skip p i)) (unskip p r) v:=by
  funext i
  by_cases e:i=unskip p r
  . rw [e,setR_same]
    have:skip p (unskip p r)=r:=by (unfold skip unskip;split <;> (try split) <;> omega)
    rw [this,setR_same]
  . rw [setR_ne e,setR_ne]
    unfold skip unskip at *
    split <;> split at e <;> omega
theorem skip_set_same{M:Mx}{r:Nat}{v:Nat->Int}:(fun i=>setR M r v (skip r i))=fun i=>M (skip r i):=by
  funext i
  rw [setR_ne]
  unfold skip
  split <;> omega
theorem det_lin(a b:Int):∀ {n r:Nat} {M:Mx} {u v:Nat->Int},r<n->det n (setR M r (fun j=>a*u j+b*v j))=a*det n (setR M r u)+b*det n (setR M r v)
  | 0,r,_,_,_,h=>absurd h (by omega)
  | n+1,r,M,u,v,h=>by
    rw [det_succ,det_succ,det_succ, <-sum_lin]
    refine sum_congr fun p hp=> ?_
    by_cases e:p=r
    . subst e
      rw [skip_set_same,skip_set_same,skip_set_same,setR_same,setR_same,setR_same]
      generalize det n (fun i=>M (skip p i))=d
      simp only [Int.mul_add,Int.add_mul]
      congr 1 <;> ac_rfl
    . rw [skip_set e,skip_set e,skip_set e,setR_ne e,setR_ne e,setR_ne e,det_lin a b (n:=n) (by unfold unskip;split <;> omega)]
      simp only [Int.mul_add]
      congr 1 <;> ac_rfl
theorem det_zero_row{n r:Nat}{M:Mx}(h:r<n)(hz:∀j,j<n->M r j=0):det n M=0:=by
  have e:det n M=det n (setR M r (fun j=>0*M r j+0*M r j)):=det_congr fun i hi j hj=>by
    by_cases q:i=r
    . subst q;rw [setR_same,hz j hj];omega
    . rw [setR_ne q]
  rw [e,det_lin 0 0 h]
  omega
theorem sgn_succ(n:Nat):sgn (n+1) = - sgn n:=by
  unfold sgn
  split <;> split <;> omega
theorem det_adj:∀ {n r:Nat} {M:Mx},r+1<n->(∀j,j<n->M r j=M (r+1) j)->det n M=0
  | 0,_,_,h,_=>absurd h (by omega)
  | n+1,r,M,h,he=>by
    rw [det_succ,sum_two (r:=r) h]
    . have e : det n (fun i => M (skip r i)) = det n (fun i => M (skip (r + 1) i)) := det_congr fun i hi j hj => by
        by_cases q:i=r
        . subst q
          have a:skip i i=i+1:=by unfold skip;split <;> omega
          have b:skip (i+1) i=i:=by unfold skip;split <;> omega
          rw [a,b];exact (he j (by omega)).symm
        . have:skip r i=skip (r+1) i:=by unfold skip;split <;> split <;> omega
          rw [this]
      rw [e,he n (by omega)]
      have s:sgn (n - r) = - sgn (n - (r+1)):=by
        have:n - r=(n - (r+1))+1:=by omega
        rw [this,sgn_succ]
      rw [s]
      simp only [Int.neg_mul]
      omega
    . intro p hp h1 h2
      have:det n (fun i=>M (skip p i))=0:=by
        refine det_adj (n:=n) (r:=unskip p r) (by unfold unskip;split <;> omega) fun j hj=> ?_
        have a:skip p (unskip p r)=r:=by (unfold skip unskip;split <;> (try split) <;> omega)
        have b:skip p (unskip p r+1)=r+1:=by (unfold skip unskip;split <;> (try split) <;> omega)
        show M (skip p (unskip p r)) j=M (skip p (unskip p r+1)) j
        rw [a,b]
        exact he j (by omega)
      rw [this,Int.mul_zero]
theorem det_add{n r:Nat}{M:Mx}{u v:Nat->Int}(h:r<n):det n (setR M r (fun j=>u j+v j))=det n (setR M r u)+det n (setR M r v):=by
  have:=det_lin 1 1 (M:=M) (u:=u) (v:=v) h
  simpa using this
theorem det_smul{n r:Nat}{M:Mx}{u:Nat->Int}(a:Int)(h:r<n):det n (setR M r (fun j=>a*u j))=a*det n (setR M r u):=by
  have:=det_lin a 0 (M:=M) (u:=u) (v:=u) h
  simpa using this
theorem swap_of {n r s : Nat} {M : Mx} (hr : r < n) (hs : s < n) (hrs : r ≠ s) (z : ∀ (M : Mx), M r = M s -> det n M = 0) (u v : Nat -> Int) :
    det n (setR (setR M r u) s v) = - det n (setR (setR M r v) s u):=by
  have w:∀x:Nat->Int,det n (setR (setR M r x) s x)=0:=fun x=>z _ (by rw [setR_ne hrs,setR_same,setR_same])
  have e:=w (fun j=>u j+v j)
  rw [det_add hs,setR_comm hrs,det_add hr,setR_comm hrs.symm,setR_comm hrs.symm,setR_comm (M:=M) (u:=fun j=>u j+v j) (v:=v) hrs,det_add hr,setR_comm hrs.symm,setR_comm hrs.symm,w,w] at e
  omega
theorem det_eq_rows:∀ {d n r:Nat} {M:Mx},r+d+1<n->M r=M (r+d+1)->det n M=0
  | 0,n,r,M,h,he=>det_adj h fun j _=>congrFun he j
  | d+1,n,r,M,h,he=>by
    have hs:r+d+1<n:=by omega
    have q:=swap_of (n:=n) (r:=r+d+1) (s:=r+d+1+1) (M:=M) hs (by omega) (by omega) (fun M' h'=>det_adj (by omega) fun j _=>congrFun h' j) (M (r+d+1)) (M (r+d+1+1))
    rw [setR_self,setR_self] at q
    rw [q,det_eq_rows (d:=d) (r:=r) hs]
    . rfl
    . rw [setR_ne (by omega),setR_ne (by omega),setR_ne (by omega),setR_same]
      exact he
theorem det_same{n r s:Nat}{M:Mx}(hr:r<n)(hs:s<n)(hrs:r≠s)(he:M r=M s):det n M=0:=by
  rcases (by omega:r<s\/s<r) with h | h
  . obtain ⟨d,rfl⟩:∃d,s=r+d+1:=⟨s - r - 1,by omega⟩
    exact det_eq_rows hs he
  . obtain ⟨d,rfl⟩:∃d,r=s+d+1:=⟨r - s - 1,by omega⟩
    exact det_eq_rows hr he.symm
theorem det_swap{n r s:Nat}{M:Mx}(hr:r<n)(hs:s<n)(hrs:r≠s)(u v:Nat->Int):det n (setR (setR M r u) s v) = - det n (setR (setR M r v) s u) :=
  swap_of hr hs hrs (fun _ h=>det_same hr hs hrs h) u v
def exch(M:Mx)(r s:Nat):Mx:=setR (setR M r (M s)) s (fun j=> - M r j)
theorem det_exch{n r s:Nat}{M:Mx}(hr:r<n)(hs:s<n)(hrs:r≠s):det n (exch M r s)=det n M:=by
  unfold exch
  have e:(fun j=> - M r j)=fun j=>(-1)*M r j:=by funext j;omega
  rw [e,det_smul _ hs,det_swap hr hs hrs,setR_self,setR_self]
  omega
theorem det_comb{n r:Nat}{M:Mx}(hr:r<n)(a:Int)(q:Nat->Int):∀ {m:Nat},m<=r->det n (setR M r (fun j=>a*M r j+sumN m (fun p=>q p*M p j)))=a*det n M
  | 0,_=>by
    simp only [sumN,Int.add_zero]
    rw [det_smul _ hr,setR_self]
  | m+1,h=>by
    have e:(fun j=>a*M r j+sumN (m+1) (fun p=>q p*M p j))=fun j=>1*(a*M r j+sumN m (fun p=>q p*M p j))+q m*M m j:=by
      funext j;rw [sumN];omega
    have z:det n (setR M r (fun j=>M m j))=0:=det_same (r:=r) (s:=m) hr (by omega) (by omega) (by rw [setR_same,setR_ne (by omega)])
    rw [e,det_lin 1 (q m) hr,det_comb hr a q (m:=m) (by omega),z]
    omega
theorem det_last{n:Nat}{M:Mx}(h:∀j,j<n->M n j=0):det (n+1) M=M n n*det n M:=by
  rw [det_succ,sum_one (r:=n) (by omega)]
  . rw [Nat.sub_self]
    have:det n (fun i=>M (skip n i))=det n M:=det_congr fun i hi j hj=>by
      have:skip n i=i:=by unfold skip;split <;> omega
      rw [this]
    rw [this]
    simp [sgn]
  . intro p hp hne
    have:det n (fun i=>M (skip p i))=0:=by
      refine det_zero_row (r:=n - 1) (by omega) fun j hj=> ?_
      have e:skip p (n - 1)=n:=by unfold skip;split <;> omega
      show M (skip p (n - 1)) j=0
      rw [e];exact h j hj
    rw [this,Int.mul_zero]
end Ba
namespace Ba
inductive Ex (n:Nat) (A:Mx):Mx->Prop where
  | refl:Ex n A A
  | step {B:Mx} {r s:Nat}:r<n->s<n->r≠s->Ex n A B->Ex n A (exch B r s)
theorem Ex.det{n:Nat}{A B:Mx}(h:Ex n A B):det n B=det n A:=by
  induction h with
  | refl=>rfl
  | step h1 h2 h3 _ ih=>rw [det_exch h1 h2 h3,ih]
theorem exch_r{M:Mx}{r s:Nat}(h:r≠s):exch M r s r=M s:=by unfold exch;rw [setR_ne h,setR_same]
theorem exch_s{M:Mx}{r s:Nat}:exch M r s s=fun j=> - M r j:=by unfold exch;rw [setR_same]
theorem exch_ne{M:Mx}{r s i:Nat}(h1:i≠r)(h2:i≠s):exch M r s i=M i:=by unfold exch;rw [setR_ne h2,setR_ne h1]
def col(k:Nat)(L:Nat->Nat)(j t:Nat):Nat:=if t<k then L t else j
def row(k i r:Nat):Nat:=if r<k then r else i
def bord(B:Mx)(k:Nat)(L:Nat->Nat)(i j:Nat):Int:=det (k+1) fun r t=>B (row k i r) (col k L j t)
def lds(B:Mx)(k:Nat)(L:Nat->Nat):Int:=det k fun r t=>B r (L t)
theorem lds_succ(B:Mx)(k:Nat)(L:Nat->Nat)(c:Nat):lds B (k+1) (fun t=>if t=k then c else L t)=bord B k L k c:=det_congr fun r hr t ht=>by
  have e1:row k k r=r:=by unfold row;split <;> omega
  have e2:col k L c t=if t=k then c else L t:=by unfold col;split <;> split <;> first | rfl | omega
  rw [e1,e2]
theorem bord_of{B:Mx}{k i j:Nat}{L:Nat->Nat}{μ:Int}{q w:Nat->Int}(hw:∀j,w j=μ*B i j+sumN k (fun p=>q p*B p j))(hz:∀t,t<k->w (L t)=0):μ*bord B k L i j=w j*lds B k L:=by
  have h:=det_comb (n:=k+1) (r:=k) (M:=fun r t=>B (row k i r) (col k L j t)) (by omega) μ q (m:=k) (Nat.le_refl k)
  have e:(fun t=>μ*B (row k i k) (col k L j t)+sumN k (fun p=>q p*B (row k i p) (col k L j t)))=fun t=>w (col k L j t):=by
    funext t
    have e1:row k i k=i:=by unfold row;split <;> omega
    rw [hw,e1]
    congr 1
    exact sum_congr fun p hp=>by
      have:row k i p=p:=by unfold row;split <;> omega
      rw [this]
  rw [e,det_last] at h
  . unfold bord
    rw [<-h,setR_same]
    have e2:col k L j k=j:=by unfold col;split <;> omega
    rw [e2]
    unfold lds
    congr 1
    exact det_congr fun r hr t ht=>by
      rw [setR_ne (by omega)]
      have e3:row k i r=r:=by unfold row;split <;> omega
      have e4:col k L j t=L t:=by unfold col;split <;> omega
      rw [e3,e4]
  . intro t ht
    rw [setR_same]
    have e4:col k L j t=L t:=by unfold col;split <;> omega
    rw [e4,hz t ht]
structure BI (n m:Nat) (A R:Mx) (k:Nat) (L:Nat->Nat) (last:Int) (c:Nat) (B:Mx):Prop where
  kn:k<=n
  cm:c<=m
  Lc:∀t,t<k->L t<c
  Li:∀s t,s<t->t<k->L s<L t
  nz:last≠0
  ld:last=lds B k L
  top:∀i,i<k->∀j,j<m->R i j=bord B i L i j
  topz:∀i,i<k->∀j,j<L i->R i j=0
  topn:∀i,i<k->R i (L i)≠0
  bot:∀i,k<=i->i<n->∃μ:Int,μ≠0/\∃q:Nat->Int,∀j,j<m->μ*R i j=last*(μ*B i j+sumN k (fun p=>q p*B p j))
  zero:∀i,k<=i->i<n->∀j,j<c->R i j=0
  ex:Ex n A B
theorem mul_cancel{a b c:Int}(h:a≠0)(e:a*b=a*c):b=c:=Int.eq_of_mul_eq_mul_left h e
theorem BI.minor{n m:Nat}{A R:Mx}{k:Nat}{L:Nat->Nat}{last:Int}{c:Nat}{B:Mx}(I:BI n m A R k L last c B){i j:Nat}(hi:k<=i)(hn:i<n)(hj:j<m):R i j=bord B k L i j:=by
  obtain ⟨μ,hμ,q,h⟩:=I.bot i hi hn
  have z:∀t,t<k->(fun j=>μ*B i j+sumN k (fun p=>q p*B p j)) (L t)=0:=by
    intro t ht
    have e:=h (L t) (Nat.lt_of_lt_of_le (I.Lc t ht) I.cm)
    rw [I.zero i hi hn (L t) (I.Lc t ht),Int.mul_zero] at e
    rcases Int.mul_eq_zero.mp e.symm with e | e
    . exact absurd e I.nz
    . exact e
  have e:=bord_of (j:=j) (w:=fun j=>μ*B i j+sumN k (fun p=>q p*B p j)) (fun _=>rfl) z
  have e2:=h j hj
  refine mul_cancel hμ ?_
  rw [e,e2,I.ld]
  exact Int.mul_comm _ _
theorem BI.start{n m:Nat}(A:Mx):BI n m A A 0 (fun _=>0) 1 0 A where
  kn:=Nat.zero_le _
  cm:=Nat.zero_le _
  Lc:=fun t h=>absurd h (by omega)
  Li:=fun s t _ h=>absurd h (by omega)
  nz:=by decide
  ld:=rfl
  top:=fun i h=>absurd h (by omega)
  topz:=fun i h=>absurd h (by omega)
  topn:=fun i h=>absurd h (by omega)
  bot:=fun i _ _=>⟨1,by decide,fun _=>0,fun j _=>by simp [sumN]⟩
  zero:=fun i _ _ j h=>absurd h (by omega)
  ex:= .refl
theorem BI.none{n m:Nat}{A R:Mx}{k:Nat}{L:Nat->Nat}{last:Int}{c:Nat}{B:Mx}(I:BI n m A R k L last c B)(hc:c<m)(h:∀i,k<=i->i<n->R i c=0):BI n m A R k L last (c+1) B:=
  { I with
    cm:=hc
    Lc:=fun t ht=>Nat.lt_succ_of_lt (I.Lc t ht)
    zero:=fun i h1 h2 j hj=>by
      by_cases e:j=c
      . subst e;exact h i h1 h2
      . exact I.zero i h1 h2 j (by omega)}
theorem bord_congr{B B':Mx}{k i j:Nat}{L L':Nat->Nat}(hi:B i=B' i)(h:∀r,r<k->B r=B' r)(hL:∀t,t<k->L t=L' t):bord B k L i j=bord B' k L' i j:=det_congr fun r hr t ht=>by
  have e1:B (row k i r)=B' (row k i r):=by
    unfold row
    split
    . exact h r (by assumption)
    . exact hi
  have e2:col k L j t=col k L' j t:=by
    unfold col
    split
    . exact hL t (by assumption)
    . rfl
  rw [e1,e2]
theorem lds_congr{B B':Mx}{k:Nat}{L L':Nat->Nat}(h:∀r,r<k->B r=B' r)(hL:∀t,t<k->L t=L' t):lds B k L=lds B' k L':=det_congr fun r hr t ht=>by rw [h r hr,hL t ht]
theorem BI.exch{n m:Nat}{A R:Mx}{k:Nat}{L:Nat->Nat}{last:Int}{c:Nat}{B:Mx}(I:BI n m A R k L last c B){p:Nat}(hp:k<p)(hn:p<n):BI n m A (exch R k p) k L last c (exch B k p):=by
  have up:∀ {M:Mx} {r:Nat},r<k->Ba.exch M k p r=M r:=fun h=>exch_ne (by omega) (by omega)
  have su:∀(q:Nat->Int) j,sumN k (fun r=>q r*Ba.exch B k p r j)=sumN k (fun r=>q r*B r j):=fun q j=>sum_congr fun r hr=>by rw [up hr]
  refine ⟨I.kn,I.cm,I.Lc,I.Li,I.nz,?_,fun i hi j hj=> ?_,fun i hi j hj=> ?_,fun i hi=> ?_,fun i h1 h2=> ?_,fun i h1 h2 j hj=> ?_, .step (by omega) hn (by omega) I.ex⟩
  . rw [I.ld];exact lds_congr (fun r hr=>(up hr).symm) fun _ _=>rfl
  . rw [up hi,I.top i hi j hj]
    exact bord_congr (up hi).symm (fun r hr=>(up (by omega)).symm) fun _ _=>rfl
  . rw [up hi];exact I.topz i hi j hj
  . rw [up hi];exact I.topn i hi
  . by_cases e1:i=k
    . subst e1
      obtain ⟨μ,h,q,e⟩:=I.bot p (by omega) hn
      exact ⟨μ,h,q,fun j hj=>by rw [exch_r (by omega),exch_r (by omega),su];exact e j hj⟩
    . by_cases e2:i=p
      . subst e2
        obtain ⟨μ,h,q,e⟩:=I.bot k (Nat.le_refl _) (by omega)
        refine ⟨μ,h,fun r=> - q r,fun j hj=> ?_⟩
        rw [exch_s,exch_s,su]
        have s:sumN k (fun r=> - q r*B r j) = - sumN k (fun r=>q r*B r j):=by
          have:=sum_mul (-1) (n:=k) (f:=fun r=>q r*B r j)
          rw [show - sumN k (fun r=>q r*B r j) = -1*sumN k (fun r=>q r*B r j) by omega, <-this]
          exact sum_congr fun r _=>by simp [Int.neg_mul]
        rw [s,Int.mul_neg,Int.mul_neg, <-Int.neg_add,Int.mul_neg,e j hj]
      . obtain ⟨μ,h,q,e⟩:=I.bot i h1 h2
        exact ⟨μ,h,q,fun j hj=>by rw [exch_ne e1 e2,exch_ne e1 e2,su];exact e j hj⟩
  . by_cases e1:i=k
    . subst e1
      rw [exch_r (by omega)];exact I.zero p (by omega) hn j hj
    . by_cases e2:i=p
      . subst e2
        rw [exch_s];show - R k j=0;rw [I.zero k (Nat.le_refl _) (by omega) j hj];rfl
      . rw [exch_ne e1 e2];exact I.zero i h1 h2 j hj
def clr(R:Mx)(k c i j:Nat):Int:=R k c*R i j - R i c*R k j
theorem BI.exact {n m : Nat} {A R : Mx} {k : Nat} {L : Nat -> Nat} {last : Int} {c : Nat} {B : Mx} (I : BI n m A R k L last c B) (hc : c < m) (hk : k < n) (hl : R k c ≠ 0) {i : Nat} (hi : k < i) (hn : i < n) :
    (∃ν:Int,ν≠0/\∃s:Nat->Int,∀j,j<m->ν*clr R k c i j=last*(R k c*ν*B i j+sumN (k+1) (fun p=>s p*B p j))) /\
    ∀j,j<m->clr R k c i j=last*bord B (k+1) (fun t=>if t=k then c else L t) i j:=by
  obtain ⟨μi,hμi,qi,ei⟩:=I.bot i (by omega) hn
  obtain ⟨μk,hμk,qk,ek⟩:=I.bot k (Nat.le_refl _) hk
  have hν:μi*μk≠0:=Int.mul_ne_zero hμi hμk
  have key:∀j,j<m->μi*μk*clr R k c i j=last*(R k c*(μi*μk)*B i j+sumN (k+1) (fun p=>(if p=k then - (R i c*(μi*μk)) else R k c*μk*qi p - R i c*μi*qk p)*B p j)):=by
    intro j hj
    have a:=ei j hj
    have b:=ek j hj
    have s:sumN (k+1) (fun p=>(if p=k then - (R i c*(μi*μk)) else R k c*μk*qi p - R i c*μi*qk p)*B p j)=R k c*μk*sumN k (fun p=>qi p*B p j) - R i c*μi*sumN k (fun p=>qk p*B p j) - R i c*(μi*μk)*B k j:=by
      have t:sumN k (fun p=>(if p=k then - (R i c*(μi*μk)) else R k c*μk*qi p - R i c*μi*qk p)*B p j)=sumN k (fun p=>(R k c*μk)*(qi p*B p j)+(- (R i c*μi))*(qk p*B p j)):=sum_congr fun p hp=>by
        rw [if_neg (by omega),Int.sub_mul,Int.neg_mul,Int.mul_assoc,Int.mul_assoc (R i c*μi),Int.sub_eq_add_neg]
      rw [sumN,t,sum_lin,if_pos rfl,Int.neg_mul,Int.neg_mul]
      omega
    rw [s]
    unfold clr
    have e1:μi*μk*(R k c*R i j - R i c*R k j)=R k c*μk*(μi*R i j) - R i c*μi*(μk*R k j):=by
      rw [Int.mul_sub]
      congr 1 <;> ac_rfl
    rw [e1,a,b]
    generalize sumN k (fun p=>qi p*B p j)=S1
    generalize sumN k (fun p=>qk p*B p j)=S2
    simp only [Int.mul_add,Int.mul_sub]
    have c1:R k c*μk*(last*(μi*B i j))=last*(R k c*(μi*μk)*B i j):=by ac_rfl
    have c2:R k c*μk*(last*S1)=last*(R k c*μk*S1):=by ac_rfl
    have c3:R i c*μi*(last*(μk*B k j))=last*(R i c*(μi*μk)*B k j):=by ac_rfl
    have c4:R i c*μi*(last*S2)=last*(R i c*μi*S2):=by ac_rfl
    rw [c1,c2,c3,c4]
    omega
  refine ⟨⟨μi*μk,hν,_,key⟩,fun j hj=> ?_⟩
  have cz:∀t,t<k+1->clr R k c i (if t=k then c else L t)=0:=by
    intro t ht
    unfold clr
    by_cases e:t=k
    . rw [if_pos e,Int.mul_comm];omega
    . have lt:=I.Lc t (by omega)
      rw [if_neg e,I.zero i (by omega) hn _ lt,I.zero k (Nat.le_refl _) hk _ lt]
      omega
  have wz:∀t,t<k+1->(fun j=>R k c*(μi*μk)*B i j+sumN (k+1) (fun p=>(if p=k then - (R i c*(μi*μk)) else R k c*μk*qi p - R i c*μi*qk p)*B p j)) ((fun t=>if t=k then c else L t) t)=0:=by
    intro t ht
    have e:=key (if t=k then c else L t) (by
      by_cases e:t=k
      . rw [if_pos e];exact hc
      . rw [if_neg e];have:=I.Lc t (by omega);omega)
    rw [cz t ht,Int.mul_zero] at e
    rcases Int.mul_eq_zero.mp e.symm with e | e
    . exact absurd e I.nz
    . exact e
  have d:=bord_of (j:=j) (L:=fun t=>if t=k then c else L t) (w:=fun j=>R k c*(μi*μk)*B i j+sumN (k+1) (fun p=>(if p=k then - (R i c*(μi*μk)) else R k c*μk*qi p - R i c*μi*qk p)*B p j)) (fun _=>rfl) wz
  rw [lds_succ, <-I.minor (Nat.le_refl _) hk hc] at d
  have hR:R k c*(μi*μk)≠0:=Int.mul_ne_zero hl hν
  have e:=key j hj
  generalize bord B (k+1) (fun t=>if t=k then c else L t) i j=y at d ⊢
  generalize R k c*(μi*μk)*B i j+sumN (k+1) (fun p=>(if p=k then - (R i c*(μi*μk)) else R k c*μk*qi p - R i c*μi*qk p)*B p j)=w at d e
  have hw:w=μi*μk*y:=by
    refine mul_cancel hl ?_
    rw [Int.mul_comm, <-d]
    ac_rfl
  refine mul_cancel hν ?_
  rw [e,hw]
  ac_rfl
theorem BI.step {n m : Nat} {A R : Mx} {k : Nat} {L : Nat -> Nat} {last : Int} {c : Nat} {B : Mx} (I : BI n m A R k L last c B) (hc : c < m) (hk : k < n) (hl : R k c ≠ 0) {R' : Mx}
    (ht:∀i,i<=k->∀j,j<m->R' i j=R i j) (hb:∀i,k<i->i<n->∀j,j<m->last*R' i j=clr R k c i j):BI n m A R' (k+1) (fun t=>if t=k then c else L t) (R k c) (c+1) B:=by
  refine ⟨hk,hc,fun t h=> ?_,fun s t h1 h2=> ?_,hl,?_,fun i hi j hj=> ?_,fun i hi j hj=> ?_,fun i hi=> ?_,fun i h1 h2=> ?_,fun i h1 h2 j hj=> ?_,I.ex⟩
  . show (if t=k then c else L t)<c+1
    split
    . omega
    . have:=I.Lc t (by omega);omega
  . show (if s=k then c else L s)<(if t=k then c else L t)
    rw [if_neg (by omega)]
    split
    . exact I.Lc s (by omega)
    . exact I.Li s t h1 (by omega)
  . rw [lds_succ];exact I.minor (Nat.le_refl _) hk hc
  . rw [ht i (by omega) j hj]
    by_cases e:i=k
    . subst e
      rw [I.minor (Nat.le_refl _) hk hj]
      exact bord_congr rfl (fun _ _=>rfl) fun t h=>by rw [if_neg (by omega)]
    . rw [I.top i (by omega) j hj]
      exact bord_congr rfl (fun _ _=>rfl) fun t h=>by rw [if_neg (by omega)]
  . have hj:j<(if i=k then c else L i):=hj
    by_cases e:i=k
    . rw [if_pos e] at hj
      rw [e,ht k (by omega) j (by omega)]
      exact I.zero k (Nat.le_refl _) hk j hj
    . rw [if_neg e] at hj
      have:=I.Lc i (by omega)
      rw [ht i (by omega) j (by omega)]
      exact I.topz i (by omega) j hj
  . show R' i (if i=k then c else L i)≠0
    by_cases e:i=k
    . rw [if_pos e]
      subst e
      rw [ht i (by omega) c hc]
      exact hl
    . rw [if_neg e]
      have:=I.Lc i (by omega)
      rw [ht i (by omega) _ (by omega)]
      exact I.topn i (by omega)
  . obtain ⟨⟨ν,hν,s,e⟩,_⟩:=I.exact hc hk hl (i:=i) (by omega) h2
    refine ⟨R k c*ν,Int.mul_ne_zero hl hν,s,fun j hj=> ?_⟩
    have q:=e j hj
    rw [<-hb i (by omega) h2 j hj] at q
    have q2:ν*R' i j=R k c*ν*B i j+sumN (k+1) (fun p=>s p*B p j):=by
      refine mul_cancel I.nz ?_
      rw [<-q]
      ac_rfl
    rw [<-q2]
    ac_rfl
  . refine mul_cancel I.nz ?_
    rw [hb i (by omega) h2 j (by omega),Int.mul_zero]
    unfold clr
    by_cases e:j=c
    . subst e;rw [Int.mul_comm];omega
    . rw [I.zero i (by omega) h2 j (by omega),I.zero k (Nat.le_refl _) hk j (by omega)]
      omega
theorem BI.det_full{n:Nat}{A R:Mx}{L:Nat->Nat}{last:Int}{B:Mx}(I:BI n n A R n L last n B):last=det n A:=by
  have hL:∀t,t<n->L t=t:=by
    have up:∀d t,t+d+1=n->t<=L t->L t<=t:=by
      intro d
      induction d with
      | zero=>intro t h1 _;have:=I.Lc t (by omega);omega
      | succ d ih=>
        intro t h1 h2
        have:=I.Li t (t+1) (by omega) (by omega)
        have:=ih (t+1) (by omega) (by omega)
        omega
    have lo:∀t,t<n->t<=L t:=by
      intro t
      induction t with
      | zero=>intro _;omega
      | succ t ih=>intro h;have:=I.Li t (t+1) (by omega) h;have:=ih (by omega);omega
    intro t h
    have:=lo t h
    have:=up (n - t - 1) t (by omega) this
    omega
  rw [I.ld, <-I.ex.det]
  exact det_congr fun r hr t ht=>by rw [hL t ht]
theorem BI.det_less{n:Nat}{A R:Mx}{k:Nat}{L:Nat->Nat}{last:Int}{B:Mx}(I:BI n n A R k L last n B)(hk:k<n):det n A=0:=by
  obtain ⟨μ,hμ,q,h⟩:=I.bot k (Nat.le_refl _) hk
  have z:∀j,j<n->μ*B k j+sumN k (fun p=>q p*B p j)=0:=by
    intro j hj
    have e:=h j hj
    rw [I.zero k (Nat.le_refl _) hk j hj,Int.mul_zero] at e
    rcases Int.mul_eq_zero.mp e.symm with e | e
    . exact absurd e I.nz
    . exact e
  have c:=det_comb (n:=n) (M:=B) hk μ q (m:=k) (Nat.le_refl _)
  rw [det_zero_row (r:=k) hk (fun j hj=>by rw [setR_same];exact z j hj)] at c
  rcases Int.mul_eq_zero.mp c.symm with e | e
  . exact absurd e hμ
  . rw [<-I.ex.det];exact e
end Ba
namespace Ba
theorem sum_abs{X:Nat}:∀ {n:Nat} {f:Nat->Int},(∀i,i<n->(f i).natAbs<=X)->(sumN n f).natAbs<=n*X
  | 0,_,_=>by simp [sumN]
  | n+1,f,h=>by
    have h1:=sum_abs (n:=n) fun i hi=>h i (by omega)
    have h2:=h n (by omega)
    have h3:=Int.natAbs_add_le (sumN n f) (f n)
    rw [sumN,Nat.succ_mul]
    omega
theorem det_abs{N Y:Nat}:∀ {n:Nat} {M:Mx},n<=N->(∀i,i<n->∀j,j<n->(M i j).natAbs<=Y)->(det n M).natAbs<=(N*Y) ^ n
  | 0,_,_,_=>by simp [det]
  | n+1,M,hn,h=>by
    rw [det_succ]
    have t:∀p,p<n+1->(sgn (n - p)*M p n*det n (fun i=>M (skip p i))).natAbs<=Y*(N*Y) ^ n:=by
      intro p hp
      rw [Int.natAbs_mul,Int.natAbs_mul]
      have s:(sgn (n - p)).natAbs=1:=by unfold sgn;split <;> rfl
      rw [s,Nat.one_mul]
      exact Nat.mul_le_mul (h p hp n (by omega)) (det_abs (n:=n) (by omega) fun i hi j hj=>h (skip p i) (by unfold skip;split <;> omega) j (by omega))
    have:=sum_abs t
    refine Nat.le_trans this ?_
    rw [Nat.pow_succ,Nat.mul_comm ((N*Y) ^ n)]
    rw [Nat.mul_assoc]
    exact Nat.mul_le_mul hn (Nat.le_refl _)
theorem Ex.bound{n m Y:Nat}{A B:Mx}(h:Ex n A B)(hA:∀i,i<n->∀j,j<m->(A i j).natAbs<=Y):∀i,i<n->∀j,j<m->(B i j).natAbs<=Y:=by
  induction h with
  | refl=>exact hA
  | @step B r s h1 h2 h3 _ ih=>
    intro i hi j hj
    by_cases e1:i=s
    . subst e1
      rw [exch_s]
      show (- B r j).natAbs<=Y
      rw [Int.natAbs_neg]
      exact ih r h1 j hj
    . by_cases e2:i=r
      . subst e2
        rw [exch_r e1]
        exact ih s h2 j hj
      . rw [exch_ne e2 e1]
        exact ih i hi j hj
theorem pow_up{a s n:Nat}(ha:1<=a)(h:s<=n):a ^ s<=a ^ n:=Nat.pow_le_pow_right ha h
theorem BI.bound {n m Y : Nat} {A R : Mx} {k : Nat} {L : Nat -> Nat} {last : Int} {c : Nat} {B : Mx} (I : BI n m A R k L last c B) (hn : n <= 32) (hY : 1 <= Y) (hA : ∀ i, i < n -> ∀ j, j < m -> (A i j).natAbs <= Y) :
    (∀i,i<n->∀j,j<m->(R i j).natAbs<=(32*Y) ^ n)/\last.natAbs<=(32*Y) ^ n:=by
  have hB:=I.ex.bound hA
  have hL:∀t,t<k->L t<m:=fun t ht=>Nat.lt_of_lt_of_le (I.Lc t ht) I.cm
  have bo:∀s i j,s<=k->s+1<=n->i<n->j<m->(bord B s L i j).natAbs<=(32*Y) ^ n:=by
    intro s i j hs hsn hi hj
    refine Nat.le_trans (det_abs (N:=32) (Y:=Y) (by omega) fun r hr t ht=> ?_) (pow_up (by omega) hsn)
    refine hB _ ?_ _ ?_
    . unfold row;split <;> omega
    . unfold col;split
      . exact hL t (by omega)
      . exact hj
  refine ⟨fun i hi j hj=> ?_,?_⟩
  . by_cases h:i<k
    . rw [I.top i h j hj]
      exact bo i i j (by omega) (by omega) hi hj
    . rw [I.minor (by omega) hi hj]
      exact bo k i j (Nat.le_refl _) (by omega) hi hj
  . rw [I.ld]
    refine Nat.le_trans (det_abs (N:=32) (Y:=Y) (by have:=I.kn;omega) fun r hr t ht=> ?_) (pow_up (by omega) I.kn)
    exact hB r (by have:=I.kn;omega) _ (hL t ht)
end Ba
namespace Ba
theorem det_rowsum{n r:Nat}{M:Mx}(h:r<n)(f:Nat->Int)(g:Nat->Nat->Int):∀m,det n (setR M r (fun j=>sumN m (fun s=>f s*g s j)))=sumN m (fun s=>f s*det n (setR M r (g s)))
  | 0=>det_zero_row h fun j _=>by rw [setR_same];rfl
  | m+1=>by
    have e:(fun j=>sumN (m+1) (fun s=>f s*g s j))=fun j=>1*(fun j=>sumN m (fun s=>f s*g s j)) j+f m*g m j:=by
      funext j;rw [sumN];show _=1*sumN m (fun s=>f s*g s j)+f m*g m j;rw [Int.one_mul]
    rw [e,det_lin 1 (f m) h,det_rowsum h f g m,sumN];omega
def unit(s j:Nat):Int:=if j=s then 1 else 0
def cof(n:Nat)(M:Mx)(r s:Nat):Int:=det n (setR M r (unit s))
theorem det_cof{n r:Nat}{M:Mx}(h:r<n)(v:Nat->Int):det n (setR M r v)=sumN n (fun s=>v s*cof n M r s):=by
  unfold cof
  rw [<-det_rowsum h v unit n]
  refine det_congr fun i hi j hj=> ?_
  by_cases e:i=r
  . subst e
    rw [setR_same,setR_same,sum_one (r:=j) hj fun s _ hs=>by unfold unit;rw [if_neg (fun q=>hs q.symm),Int.mul_zero]]
    unfold unit;rw [if_pos rfl,Int.mul_one]
  . rw [setR_ne e,setR_ne e]
def crx(n:Nat)(M:Mx)(b:Nat->Int)(s:Nat):Int:=sumN n (fun r=>cof n M r s*b r)
theorem cramer(n:Nat)(M:Mx)(b:Nat->Int){i:Nat}(hi:i<n):sumN n (fun s=>M i s*crx n M b s)=det n M*b i:=by
  have e1:sumN n (fun s=>M i s*crx n M b s)=sumN n (fun s=>sumN n (fun r=>M i s*(cof n M r s*b r))):=sum_congr fun s _=>by
    unfold crx;rw [sum_mul]
  rw [e1,sum_comm]
  have e2:sumN n (fun r=>sumN n (fun s=>M i s*(cof n M r s*b r)))=sumN n (fun r=>b r*det n (setR M r (M i))):=sum_congr fun r hr=>by
    rw [det_cof hr, <-sum_mul]
    exact sum_congr fun s _=>by rw [<-Int.mul_assoc,Int.mul_comm]
  rw [e2,sum_one (r:=i) hi fun r hr hne=>by
    rw [det_same (r:=r) (s:=i) hr hi hne (by rw [setR_same,setR_ne (fun q=>hne q.symm)]),Int.mul_zero]]
  rw [setR_self,Int.mul_comm]
theorem bord_lin(B:Mx)(i:Nat)(L:Nat->Nat)(c:Nat):bord B i L i c=sumN (i+1) (fun p=>B p c*(sgn (i - p)*det i (fun r t=>B (skip p r) (L t)))):=by
  unfold bord
  rw [det_succ]
  refine sum_congr fun p hp=> ?_
  have e1:row i i p=p:=by unfold row;split <;> omega
  have e2:col i L c i=c:=by unfold col;split <;> omega
  have e3:det i (fun r t=>B (row i i (skip p r)) (col i L c t))=det i (fun r t=>B (skip p r) (L t)):=det_congr fun r hr t ht=>by
    have e4:row i i (skip p r)=skip p r:=by
      have:skip p r<=i:=by unfold skip;split <;> omega
      unfold row;split <;> omega
    have e5:col i L c t=L t:=by unfold col;rw [if_pos ht]
    rw [e4,e5]
  rw [e1,e2]
  show sgn (i - p)*B p c*det i (fun r t=>B (row i i (skip p r)) (col i L c t))=_
  rw [e3,Int.mul_comm (sgn (i - p)),Int.mul_assoc]
def redx(B:Mx)(k:Nat)(L:Nat->Nat)(j t:Nat):Int:=crx k (fun r t=>B r (L t)) (fun r=>B r j) t
theorem BI.red {n m : Nat} {A R : Mx} {k : Nat} {L : Nat -> Nat} {last : Int} {c : Nat} {B : Mx} (I : BI n m A R k L last c B) {i j : Nat} (hi : i < k) (hj : j < m) :
    sumN k (fun t=>R i (L t)*redx B k L j t)=last*R i j:=by
  have hL:∀t,t<k->L t<m:=fun t ht=>Nat.lt_of_lt_of_le (I.Lc t ht) I.cm
  have e1:sumN k (fun t=>R i (L t)*redx B k L j t)=sumN k (fun t=>sumN (i+1) (fun p=>B p (L t)*(sgn (i - p)*det i (fun r t=>B (skip p r) (L t)))*redx B k L j t)):=sum_congr fun t ht=>by
    rw [I.top i hi (L t) (hL t ht),bord_lin,Int.mul_comm, <-sum_mul]
    exact sum_congr fun p _=>Int.mul_comm _ _
  rw [e1,sum_comm,I.top i hi j hj,bord_lin, <-sum_mul]
  refine sum_congr fun p hp=> ?_
  have h:=cramer k (fun r t=>B r (L t)) (fun r=>B r j) (i:=p) (by omega)
  have e2:last=det k (fun r t=>B r (L t)):=I.ld
  rw [<-e2] at h
  have e3:sumN k (fun t=>B p (L t)*(sgn (i - p)*det i (fun r t=>B (skip p r) (L t)))*redx B k L j t)=(sgn (i - p)*det i (fun r t=>B (skip p r) (L t)))*sumN k (fun t=>B p (L t)*crx k (fun r t=>B r (L t)) (fun r=>B r j) t):=by
    rw [<-sum_mul]
    refine sum_congr fun t _=> ?_
    unfold redx
    generalize (sgn (i - p)*det i (fun r t=>B (skip p r) (L t)))=a
    rw [Int.mul_comm (B p (L t)) a,Int.mul_assoc]
  rw [e3,h]
  generalize (sgn (i - p)*det i (fun r t=>B (skip p r) (L t)))=a
  show a*(last*B p j)=last*(B p j*a)
  rw [Int.mul_comm a,Int.mul_assoc]
theorem sum_drop:∀ {k i:Nat} {f:Nat->Int},i<=k->(∀t,t<i->f t=0)->sumN k f=sumN (k - i) (fun t=>f (i+t))
  | 0, i, f, h, _ => by have : i = 0 := by omega
                        subst this;rfl
  | k+1,i,f,h,z=>by
    by_cases e:i=k+1
    . subst e
      rw [sum_zero z,Nat.sub_self];rfl
    . have e1:k+1 - i=(k - i)+1:=by omega
      rw [e1,sumN,sumN,sum_drop (k:=k) (by omega) z]
      congr 2
      omega
theorem sum_head:∀ {n:Nat} {f:Nat->Int},sumN (n+1) f=f 0+sumN n (fun t=>f (t+1))
  | 0,f=>by simp [sumN]
  | n+1,f=>by rw [sumN,sum_head (n:=n),sumN];omega
theorem BI.back {n m : Nat} {A R : Mx} {k : Nat} {L : Nat -> Nat} {last : Int} {c : Nat} {B : Mx} (I : BI n m A R k L last c B) {i j : Nat} (hi : i < k) (hj : j < m) :
    last*R i j - sumN (k - (i+1)) (fun t=>R i (L (i+1+t))*redx B k L j (i+1+t))=R i (L i)*redx B k L j i:=by
  have h:=I.red hi hj
  rw [sum_drop (i:=i) (by omega) fun t ht=>by rw [I.topz i hi (L t) (I.Li t i ht hi),Int.zero_mul]] at h
  have e:k - i=(k - (i+1))+1:=by omega
  rw [e,sum_head] at h
  have e2:sumN (k - (i+1)) (fun t=>R i (L (i+(t+1)))*redx B k L j (i+(t+1)))=sumN (k - (i+1)) (fun t=>R i (L (i+1+t))*redx B k L j (i+1+t)):=sum_congr fun t _=>by
    rw [show i+(t+1)=i+1+t by omega]
  rw [e2] at h
  simp only [Nat.add_zero] at h
  omega
theorem BI.back_div {n m : Nat} {A R : Mx} {k : Nat} {L : Nat -> Nat} {last : Int} {c : Nat} {B : Mx} (I : BI n m A R k L last c B) {i j : Nat} (hi : i < k) (hj : j < m) :
    Int.fdiv (last*R i j - sumN (k - (i+1)) (fun t=>R i (L (i+1+t))*redx B k L j (i+1+t))) (R i (L i))=redx B k L j i:=by
  rw [I.back hi hj]
  exact Int.mul_fdiv_cancel_left _ (I.topn i hi)
theorem BI.only {n m : Nat} {A R : Mx} {k : Nat} {L : Nat -> Nat} {last : Int} {c : Nat} {B : Mx} (I : BI n m A R k L last c B) {j : Nat} (hj : j < m) {y : Nat -> Int}
    (hy:∀i,i<k->sumN k (fun t=>R i (L t)*y t)=last*R i j):∀d i,i<k->k - i<=d->y i=redx B k L j i
  | 0,i,hi,hd=>by omega
  | d+1,i,hi,hd=>by
    have h:=hy i hi
    rw [<-I.red hi hj] at h
    rw [sum_drop (i:=i) (by omega) fun t ht=>by rw [I.topz i hi (L t) (I.Li t i ht hi),Int.zero_mul],
      sum_drop (f:=fun t=>R i (L t)*redx B k L j t) (i:=i) (by omega) fun t ht=>by rw [I.topz i hi (L t) (I.Li t i ht hi),Int.zero_mul]] at h
    have e:k - i=(k - (i+1))+1:=by omega
    rw [e,sum_head,sum_head] at h
    have e2:sumN (k - (i+1)) (fun t=>R i (L (i+(t+1)))*y (i+(t+1)))=sumN (k - (i+1)) (fun t=>R i (L (i+(t+1)))*redx B k L j (i+(t+1))):=sum_congr fun t ht=>by
      rw [I.only hj hy d (i+(t+1)) (by omega) (by omega)]
    rw [e2] at h
    have h2:R i (L i)*y i=R i (L i)*redx B k L j i:=by
      simp only [Nat.add_zero] at h
      omega
    exact mul_cancel (I.topn i hi) h2
theorem BI.red_lead{n m:Nat}{A R:Mx}{k:Nat}{L:Nat->Nat}{last:Int}{c:Nat}{B:Mx}(I:BI n m A R k L last c B){s i:Nat}(hs:s<k)(hi:i<k):redx B k L (L s) i=if i=s then last else 0:=by
  refine (I.only (j:=L s) (Nat.lt_of_lt_of_le (I.Lc s hs) I.cm) (y:=fun i=>if i=s then last else 0) (fun i hi=> ?_) k i hi (by omega)).symm
  rw [sum_one (r:=s) hs fun t _ ht=>by rw [if_neg ht,Int.mul_zero],if_pos rfl,Int.mul_comm]
theorem BI.red_ahead{n m:Nat}{A R:Mx}{k:Nat}{L:Nat->Nat}{last:Int}{c:Nat}{B:Mx}(I:BI n m A R k L last c B){i j:Nat}(hi:i<k)(hj:j<L i):∀d t,t<k->i<=t->k - t<=d->redx B k L j t=0
  | 0,t,ht,_,hd=>by omega
  | d+1,t,ht,hit,hd=>by
    have hLi:L i<=L t:=by
      rcases Nat.lt_or_ge i t with h | h
      . exact Nat.le_of_lt (I.Li i t h ht)
      . have:i=t:=by omega
        subst this;exact Nat.le_refl _
    have hm:j<m:=by have:=I.Lc t ht;have:=I.cm;omega
    have h:=I.back ht hm
    rw [I.topz t ht j (by omega),Int.mul_zero,sum_zero fun u hu=>by
      rw [I.red_ahead hi hj d (t+1+u) (by omega) (by omega) (by omega),Int.mul_zero]] at h
    have h2:R t (L t)*redx B k L j t=0:=by omega
    rcases Int.mul_eq_zero.mp h2 with h3 | h3
    . exact absurd h3 (I.topn t ht)
    . exact h3
theorem unit_abs(s j:Nat):(unit s j).natAbs<=1:=by unfold unit;split <;> decide
theorem cof_abs{N Y n:Nat}{M:Mx}(hn:n<=N)(hY:1<=Y)(h:∀i,i<n->∀j,j<n->(M i j).natAbs<=Y)(r s:Nat):(cof n M r s).natAbs<=(N*Y) ^ n:=by
  unfold cof
  refine det_abs hn fun i hi j hj=> ?_
  by_cases e:i=r
  . subst e;rw [setR_same];exact Nat.le_trans (unit_abs s j) hY
  . rw [setR_ne e];exact h i hi j hj
theorem crx_abs{N Y n:Nat}{M:Mx}{b:Nat->Int}(hn:n<=N)(hY:1<=Y)(h:∀i,i<n->∀j,j<n->(M i j).natAbs<=Y)(hb:∀i,i<n->(b i).natAbs<=Y)(s:Nat):(crx n M b s).natAbs<=n*((N*Y) ^ n*Y):=by
  unfold crx
  refine sum_abs fun i hi=> ?_
  rw [Int.natAbs_mul]
  exact Nat.mul_le_mul (cof_abs hn hY h i s) (hb i hi)
theorem BI.red_abs {n m Y : Nat} {A R : Mx} {k : Nat} {L : Nat -> Nat} {last : Int} {c : Nat} {B : Mx} (I : BI n m A R k L last c B) (hY : 1 <= Y) (hA : ∀ i, i < n -> ∀ j, j < m -> (A i j).natAbs <= Y) {j : Nat} (hj : j < m) (t : Nat) :
    (redx B k L j t).natAbs<=k*((n*Y) ^ k*Y):=by
  have hB:=I.ex.bound hA
  unfold redx
  refine crx_abs I.kn hY (fun r hr t ht=>hB r (Nat.lt_of_lt_of_le hr I.kn) (L t) (Nat.lt_of_lt_of_le (I.Lc t ht) I.cm)) (fun r hr=>hB r (Nat.lt_of_lt_of_le hr I.kn) j hj) t
end Ba
namespace Ba
def Ker(n m:Nat)(A:Mx)(x:Nat->Int):Prop:=∀i,i<n->sumN m (fun j=>A i j*x j)=0
structure RR (m k:Nat) (L:Nat->Nat) (ρ:Mx) (e:Int):Prop where
  nz:e≠0
  Lm:∀t,t<k->L t<m
  Li:∀s t,s<t->t<k->L s<L t
  ld:∀t,t<k->∀s,s<k->ρ t (L s)=if t=s then e else 0
  az:∀t,t<k->∀j,j<L t->ρ t j=0
theorem RR.inj{m k:Nat}{L:Nat->Nat}{ρ:Mx}{e:Int}(h:RR m k L ρ e){s t:Nat}(hs:s<k)(ht:t<k)(he:L s=L t):s=t:=by
  rcases Nat.lt_trichotomy s t with h1 | h1 | h1
  . have:=h.Li s t h1 ht;omega
  . exact h1
  . have:=h.Li t s h1 hs;omega
open Classical in
noncomputable def kv(k:Nat)(L:Nat->Nat)(ρ:Mx)(e:Int)(j:Nat)(c:Nat):Int:=
  if c=j then e else if h:∃t,t<k/\L t=c then - ρ h.choose j else 0
theorem kv_j{k:Nat}{L:Nat->Nat}{ρ:Mx}{e:Int}{j:Nat}:kv k L ρ e j j=e:=by unfold kv;rw [if_pos rfl]
theorem RR.kv_L{m k:Nat}{L:Nat->Nat}{ρ:Mx}{e:Int}(h:RR m k L ρ e){j t:Nat}(ht:t<k)(hj:L t≠j):kv k L ρ e j (L t) = - ρ t j:=by
  unfold kv
  rw [if_neg hj]
  have hx:∃s,s<k/\L s=L t:=⟨t,ht,rfl⟩
  rw [dif_pos hx,h.inj hx.choose_spec.1 ht hx.choose_spec.2]
theorem kv_else{k:Nat}{L:Nat->Nat}{ρ:Mx}{e:Int}{j c:Nat}(hc:c≠j)(hn:∀t,t<k->L t≠c):kv k L ρ e j c=0:=by
  unfold kv
  rw [if_neg hc,dif_neg]
  rintro ⟨t,ht,h⟩
  exact hn t ht h
theorem sum_pair{n r s:Nat}{f:Nat->Int}(hr:r<n)(hs:s<n)(hrs:r≠s)(h:∀i,i<n->i≠r->i≠s->f i=0):sumN n f=f r+f s:=by
  have e:sumN n f=sumN n (fun i=>if i=r then f r else 0)+sumN n (fun i=>if i=r then 0 else f i):=by
    rw [<-sum_add]
    exact sum_congr fun i _=>by split <;> simp_all
  rw [e,sum_one (r:=r) hr fun i _ hi=>by rw [if_neg hi],sum_one (r:=s) hs fun i hi hne=>by
    by_cases e2:i=r
    . rw [if_pos e2]
    . rw [if_neg e2];exact h i hi e2 hne]
  rw [if_pos rfl,if_neg (fun q=>hrs q.symm)]
theorem RR.row_kv {m k k' : Nat} {L : Nat -> Nat} {ρ ρ' : Mx} {e e' : Int} (h : RR m k L ρ e) (h' : RR m k' L ρ' e') (hk : k' = k) {j t : Nat} (hj : j < m) (hn : ∀ t, t < k -> L t ≠ j) (ht : t < k) :
    sumN m (fun c=>ρ' t c*kv k L ρ e j c)=e'*(- ρ t j)+ρ' t j*e:=by
  subst hk
  rw [sum_pair (r:=L t) (s:=j) (h.Lm t ht) hj (hn t ht) fun c hc h1 h2=> ?_]
  . rw [h.kv_L ht (hn t ht),kv_j,h'.ld t ht t ht,if_pos rfl]
  . by_cases hx:∃s,s<k'/\L s=c
    . obtain ⟨s,hs,rfl⟩:=hx
      have hts:t≠s:=fun q=>h1 (by rw [q])
      rw [h'.ld t ht s hs,if_neg hts,Int.zero_mul]
    . rw [kv_else h2 fun t ht q=>hx ⟨t,ht,q⟩,Int.mul_zero]
theorem RR.ker_kv{m k:Nat}{L:Nat->Nat}{ρ:Mx}{e:Int}(h:RR m k L ρ e){j:Nat}(hj:j<m)(hn:∀t,t<k->L t≠j):Ker k m ρ (kv k L ρ e j):=fun t ht=>by
  rw [h.row_kv h rfl hj hn ht,Int.mul_neg,Int.mul_comm];omega
theorem RR.kv_behind{m k:Nat}{L:Nat->Nat}{ρ:Mx}{e:Int}(h:RR m k L ρ e){j c:Nat}(hc:j<c):kv k L ρ e j c=0:=by
  by_cases hx:∃s,s<k/\L s=c
  . obtain ⟨s,hs,rfl⟩:=hx
    rw [h.kv_L hs (by omega),h.az s hs j hc];rfl
  . exact kv_else (by omega) fun t ht q=>hx ⟨t,ht,q⟩
theorem RR.lead_zero{m k:Nat}{L:Nat->Nat}{ρ:Mx}{e:Int}(h:RR m k L ρ e){t:Nat}(ht:t<k){x:Nat->Int}(hx:Ker k m ρ x)(hz:∀c,L t<c->x c=0):x (L t)=0:=by
  have h1:=hx t ht
  rw [sum_one (r:=L t) (h.Lm t ht) fun c hc hne=>by
    rcases Nat.lt_or_ge c (L t) with h2 | h2
    . rw [h.az t ht c h2,Int.zero_mul]
    . rw [hz c (by omega),Int.mul_zero],h.ld t ht t ht,if_pos rfl] at h1
  rcases Int.mul_eq_zero.mp h1 with h2 | h2
  . exact absurd h2 h.nz
  . exact h2
theorem RR.leads{m k k':Nat}{L L':Nat->Nat}{ρ ρ':Mx}{e e':Int}(h:RR m k L ρ e)(h':RR m k' L' ρ' e')(hk:∀x,Ker k' m ρ' x->Ker k m ρ x){t:Nat}(ht:t<k):∃u,u<k'/\L' u=L t:=by
  refine Classical.byContradiction fun hno=> ?_
  have hn:∀u,u<k'->L' u≠L t:=fun u hu q=>hno ⟨u,hu,q⟩
  have z:=h.lead_zero ht (hk _ (h'.ker_kv (h.Lm t ht) hn)) fun c hc=>h'.kv_behind hc
  rw [kv_j] at z
  exact h'.nz z
theorem RR.same_to {m k k' : Nat} {L L' : Nat -> Nat} {ρ ρ' : Mx} {e e' : Int} (h : RR m k L ρ e) (h' : RR m k' L' ρ' e')
    (a:∀t,t<k->∃u,u<k'/\L' u=L t) (b:∀t,t<k'->∃u,u<k/\L u=L' t):∀d t,t<d->(t<k↔t<k')/\(t<k->L t=L' t)
  | 0,t,ht=>by omega
  | d+1,t,ht=>by
    have ih:∀s,s<t->(s<k↔s<k')/\(s<k->L s=L' s):=fun s hs=>RR.same_to h h' a b d s (by omega)
    have p:t<k->t<k'/\L' t<=L t:=fun hk=>by
      obtain ⟨u,hu,e⟩:=a t hk
      rcases Nat.lt_or_ge u t with h1 | h1
      . have h2:=(ih u h1).2 (by omega)
        have:=h.Li u t h1 hk
        omega
      . refine ⟨by omega,?_⟩
        rcases Nat.lt_or_ge t u with h2 | h2
        . have:=h'.Li t u h2 hu;omega
        . have:t=u:=by omega
          subst this;omega
    have q:t<k'->t<k/\L t<=L' t:=fun hk=>by
      obtain ⟨u,hu,e⟩:=b t hk
      rcases Nat.lt_or_ge u t with h1 | h1
      . have h2:=(ih u h1).2 hu
        have:=h'.Li u t h1 hk
        omega
      . refine ⟨by omega,?_⟩
        rcases Nat.lt_or_ge t u with h2 | h2
        . have:=h.Li t u h2 hu;omega
        . have:t=u:=by omega
          subst this;omega
    refine ⟨⟨fun x=>(p x).1,fun x=>(q x).1⟩,fun x=> ?_⟩
    have:=(p x).2;have:=(q (p x).1).2
    omega
theorem RR.unique {m k k' : Nat} {L L' : Nat -> Nat} {ρ ρ' : Mx} {e e' : Int} (h : RR m k L ρ e) (h' : RR m k' L' ρ' e') (hk : ∀ x, Ker k m ρ x ↔ Ker k' m ρ' x) :
    k=k'/\(∀t,t<k->L t=L' t)/\∀t,t<k->∀j,j<m->e'*ρ t j=e*ρ' t j:=by
  have a:∀t,t<k->∃u,u<k'/\L' u=L t:=fun t ht=>h.leads h' (fun x=>(hk x).2) ht
  have b:∀t,t<k'->∃u,u<k/\L u=L' t:=fun t ht=>h'.leads h (fun x=>(hk x).1) ht
  have s:=RR.same_to h h' a b (k+k'+1)
  have ek:k=k':=by
    have s1:=(s k (by omega)).1;have s2:=(s k' (by omega)).1
    omega
  subst ek
  have eL:∀t,t<k->L t=L' t:=fun t ht=>(s t (by omega)).2 ht
  have h2:RR m k L ρ' e':=⟨h'.nz,h.Lm,h.Li,fun t ht s hs=>by rw [eL s hs];exact h'.ld t ht s hs,fun t ht j hj=>h'.az t ht j (by rw [<-eL t ht];exact hj)⟩
  refine ⟨rfl,eL,fun t ht j hj=> ?_⟩
  by_cases hx:∃s,s<k/\L s=j
  . obtain ⟨s,hs,rfl⟩:=hx
    rw [h.ld t ht s hs,h2.ld t ht s hs]
    split
    . exact Int.mul_comm _ _
    . rw [Int.mul_zero,Int.mul_zero]
  . have hn:∀t,t<k->L t≠j:=fun t ht q=>hx ⟨t,ht,q⟩
    have z:=(hk _).1 (h.ker_kv hj hn) t ht
    rw [h.row_kv h2 rfl hj hn ht,Int.mul_neg,Int.mul_comm (ρ' t j)] at z
    omega
theorem BI.rr{n m:Nat}{A R:Mx}{k:Nat}{L:Nat->Nat}{last:Int}{c:Nat}{B:Mx}(I:BI n m A R k L last c B):RR m k L (fun t j=>redx B k L j t) last where
  nz:=I.nz
  Lm:=fun t ht=>Nat.lt_of_lt_of_le (I.Lc t ht) I.cm
  Li:=I.Li
  ld:=fun t ht s hs=>I.red_lead hs ht
  az:=fun t ht j hj=>I.red_ahead ht hj k t ht (Nat.le_refl _) (by omega)
theorem Ex.ker{n m:Nat}{A B:Mx}(h:Ex n A B)(x:Nat->Int):Ker n m A x↔Ker n m B x:=by
  induction h with
  | refl=>exact Iff.rfl
  | @step B r s hr hs hrs _ ih=>
    rw [ih]
    have neg:sumN m (fun j=> - B r j*x j) = - sumN m (fun j=>B r j*x j):=by
      have:=sum_mul (-1) (n:=m) (f:=fun j=>B r j*x j)
      rw [show (- sumN m (fun j=>B r j*x j)) = -1*sumN m (fun j=>B r j*x j) by omega, <-this]
      exact sum_congr fun j _=>by rw [Int.neg_mul,Int.neg_mul,Int.one_mul]
    constructor
    . intro k i hi
      by_cases e1:i=s
      . subst e1;rw [exch_s];show sumN m (fun j=> - B r j*x j)=0;rw [neg,k r hr];rfl
      . by_cases e2:i=r
        . subst e2;rw [exch_r hrs];exact k s hs
        . rw [exch_ne e2 e1];exact k i hi
    . intro k i hi
      by_cases e1:i=s
      . subst e1;have:=k r hr;rw [exch_r hrs] at this;exact this
      . by_cases e2:i=r
        . subst e2;have h1:=k s hs;rw [exch_s] at h1
          have h2:sumN m (fun j=> - B i j*x j)=0:=h1
          rw [neg] at h2;omega
        . have:=k i hi;rw [exch_ne e2 e1] at this;exact this
theorem sum_mul_right(a:Int){n:Nat}{f:Nat->Int}:sumN n (fun i=>f i*a)=sumN n f*a:=by
  rw [Int.mul_comm, <-sum_mul];exact sum_congr fun i _=>Int.mul_comm _ _
theorem BI.ker{n m:Nat}{A R:Mx}{k:Nat}{L:Nat->Nat}{last:Int}{B:Mx}(I:BI n m A R k L last m B)(x:Nat->Int):Ker n m A x↔Ker k m (fun t j=>redx B k L j t) x:=by
  rw [I.ex.ker (m:=m)]
  constructor
  . intro h t ht
    show sumN m (fun j=>redx B k L j t*x j)=0
    have e:sumN m (fun j=>redx B k L j t*x j)=sumN m (fun j=>sumN k (fun r=>cof k (fun r t=>B r (L t)) r t*(B r j*x j))):=sum_congr fun j _=>by
      unfold redx crx
      rw [<-sum_mul_right]
      exact sum_congr fun r _=>Int.mul_assoc _ _ _
    rw [e,sum_comm]
    refine sum_zero fun r hr=> ?_
    rw [sum_mul,h r (Nat.lt_of_lt_of_le hr I.kn),Int.mul_zero]
  . intro h
    have top:∀p,p<k->sumN m (fun j=>B p j*x j)=0:=fun p hp=>by
      have e:last*sumN m (fun j=>B p j*x j)=0:=by
        rw [<-sum_mul]
        have e1:sumN m (fun j=>last*(B p j*x j))=sumN m (fun j=>sumN k (fun t=>B p (L t)*(redx B k L j t*x j))):=sum_congr fun j _=>by
          have c:=cramer k (fun r t=>B r (L t)) (fun r=>B r j) hp
          have e2:last=det k (fun r t=>B r (L t)):=I.ld
          rw [<-e2] at c
          rw [<-Int.mul_assoc]
          show last*B p j*x j=_
          rw [<-c, <-sum_mul_right]
          exact sum_congr fun t _=>Int.mul_assoc _ _ _
        rw [e1,sum_comm]
        refine sum_zero fun t ht=> ?_
        rw [sum_mul,show sumN m (fun j=>redx B k L j t*x j)=0 from h t ht,Int.mul_zero]
      rcases Int.mul_eq_zero.mp e with e | e
      . exact absurd e I.nz
      . exact e
    intro i hi
    rcases Nat.lt_or_ge i k with h1 | h1
    . exact top i h1
    . obtain ⟨μ,hμ,q,hq⟩:=I.bot i h1 hi
      have e:μ*sumN m (fun j=>B i j*x j)=0:=by
        rw [<-sum_mul]
        have e1:sumN m (fun j=>μ*(B i j*x j))=sumN m (fun j=> -1*sumN k (fun p=>q p*(B p j*x j))):=sum_congr fun j hj=>by
          have e2:=hq j hj
          rw [I.zero i h1 hi j hj,Int.mul_zero] at e2
          rcases Int.mul_eq_zero.mp e2.symm with e3 | e3
          . exact absurd e3 I.nz
          . have e4:μ*B i j = -1*sumN k (fun p=>q p*B p j):=by omega
            rw [<-Int.mul_assoc,e4,Int.mul_assoc, <-sum_mul_right]
            congr 1
            exact sum_congr fun p _=>Int.mul_assoc _ _ _
        rw [e1,sum_mul,sum_comm,sum_zero fun p hp=> ?_]
        . rfl
        . rw [sum_mul,top p hp,Int.mul_zero]
      rcases Int.mul_eq_zero.mp e with e | e
      . exact absurd e hμ
      . exact e
end Ba
namespace Ba
theorem sum_sub{n:Nat}{f g:Nat->Int}(h:sumN n (fun i=>f i - g i)=0):sumN n f=sumN n g:=by
  have e:=sum_lin 1 (-1) (n:=n) (f:=f) (g:=g)
  have e2:sumN n (fun i=>1*f i + -1*g i)=sumN n (fun i=>f i - g i):=sum_congr fun i _=>by omega
  rw [e2,h] at e
  omega
theorem Ex.comb{n:Nat}{A B:Mx}(h:Ex n A B):∀q:Nat->Int,∃q':Nat->Int,∀j,sumN n (fun i=>q i*B i j)=sumN n (fun i=>q' i*A i j):=by
  induction h with
  | refl=>exact fun q=>⟨q,fun _=>rfl⟩
  | @step B r s hr hs hrs _ ih=>
    intro q
    obtain ⟨q',h⟩:=ih fun i=>if i=s then q r else if i=r then - q s else q i
    refine ⟨q',fun j=>Eq.trans ?_ (h j)⟩
    refine sum_sub ?_
    rw [sum_pair hr hs hrs]
    . rw [exch_r hrs,exch_s]
      simp only [hrs,if_false,if_true]
      rw [Int.mul_neg,Int.neg_mul]
      omega
    . intro i _ h1 h2
      rw [exch_ne h1 h2]
      simp only [h1,h2,if_false]
      omega
theorem sum_ext0{n k:Nat}{f:Nat->Int}(h:k<=n):sumN n (fun i=>if i<k then f i else 0)=sumN k f:=by
  induction n with
  | zero => have : k = 0 := by omega
            subst this;rfl
  | succ n ih=>
    by_cases e:k=n+1
    . subst e;exact sum_congr fun i hi=>if_pos hi
    . show sumN n _+(if n<k then f n else 0)=_
      rw [ih (by omega),if_neg (by omega),Int.add_zero]
theorem BI.never {n m : Nat} {A R : Mx} {k : Nat} {L : Nat -> Nat} {last : Int} {B : Mx} (I : BI n (m + 1) A R k L last (m + 1) B) {s : Nat} (hs : s < k) (hm : L s = m) :
    ∃q:Nat->Int,(∀j,j<m->sumN n (fun i=>q i*A i j)=0)/\sumN n (fun i=>q i*A i m)≠0:=by
  obtain ⟨q,h⟩:=I.ex.comb fun r=>if r<k then cof k (fun r t=>B r (L t)) r s else 0
  have e:∀j,sumN n (fun i=>q i*A i j)=redx B k L j s:=fun j=>by
    rw [<-h j]
    unfold redx crx
    rw [<-sum_ext0 I.kn]
    refine sum_congr fun i _=> ?_
    by_cases hi:i<k
    . rw [if_pos hi,if_pos hi]
    . rw [if_neg hi,if_neg hi,Int.zero_mul]
  refine ⟨q,fun j hj=>(e j).trans (I.rr.az s hs j (by omega)),?_⟩
  rw [e m]
  have:=I.rr.ld s hs s hs
  rw [if_pos rfl,hm] at this
  show redx B k L m s≠0
  rw [show redx B k L m s=last from this]
  exact I.nz
theorem BI.found {n m : Nat} {A R : Mx} {k : Nat} {L : Nat -> Nat} {last : Int} {B : Mx} (I : BI n (m + 1) A R k L last (m + 1) B) (hn : ∀ t, t < k -> L t ≠ m) {X : Nat -> Int} (h1 : ∀ t, t < k -> X (L t) = redx B k L m t) (h0 : ∀ j, j < m -> (∀ t, t < k -> L t ≠ j) -> X j = 0) :
    ∀i,i<n->sumN m (fun j=>A i j*X j)=last*A i m:=by
  intro i hi
  have h:=(I.ker _).2 (I.rr.ker_kv (j:=m) (by omega) hn) i hi
  have h:sumN m (fun j=>A i j*kv k L (fun t j=>redx B k L j t) last m j)+A i m*kv k L (fun t j=>redx B k L j t) last m m=0:=h
  rw [kv_j] at h
  have e:sumN m (fun j=>A i j*kv k L (fun t j=>redx B k L j t) last m j) = -1*sumN m (fun j=>A i j*X j):=by
    rw [<-sum_mul]
    refine sum_congr fun j hj=> ?_
    have:kv k L (fun t j=>redx B k L j t) last m j = - X j:=by
      by_cases hx:∃t,t<k/\L t=j
      . obtain ⟨t,ht,rfl⟩:=hx
        rw [I.rr.kv_L ht (hn t ht),h1 t ht]
      . have hx:∀t,t<k->L t≠j:=fun t ht e=>hx ⟨t,ht,e⟩
        rw [kv_else (by omega) hx,h0 j hj hx]
        rfl
    rw [this,Int.mul_neg,Int.neg_mul,Int.one_mul]
  rw [e] at h
  rw [Int.mul_comm last]
  omega
end Ba
namespace K06
open PySem L2 Tf Dm
def top (i : Nat) : Stmt := PySem.Challenge.pw_trialfield_k06_whole_determinants.main.body.getD i (.Pass ⟨0, 0, 0, 0⟩)
structure Bl (mg:Str->Option Value):Prop where
  abs:mg "abs" = none
  int:mg "int" = none
  len:mg "len" = none
  list:mg "list" = none
  max:mg "max" = none
  range:mg "range" = none
  sum:mg "sum" = none
  zip:mg "zip" = none
abbrev s_greatest_divisor:Stmt:=top 1
theorem sc_greatest_divisor:FnScope ["one","other","rest"] ["one","other"] (defScope s_greatest_divisor):=⟨rfl,rfl,rfl,by decide +kernel,rfl,by decide +kernel,by decide +kernel⟩
abbrev s_fraction:Stmt:=top 2
theorem sc_fraction:FnScope ["top","bottom","divisor"] ["top","bottom"] (defScope s_fraction):=⟨rfl,rfl,rfl,by decide +kernel,rfl,by decide +kernel,by decide +kernel⟩
abbrev s_cleared_row:Stmt:=top 7
theorem sc_cleared_row:FnScope ["row","lead_row","column","last","lead","factor"] ["row","lead_row","column","last"] (defScope s_cleared_row):=⟨rfl,rfl,rfl,by decide +kernel,rfl,by decide +kernel,by decide +kernel⟩
abbrev s_common_bottom:Stmt:=top 8
theorem sc_common_bottom:FnScope ["row","bottom","number"] ["row"] (defScope s_common_bottom):=⟨rfl,rfl,rfl,by decide +kernel,rfl,by decide +kernel,by decide +kernel⟩
abbrev s_whole_row:Stmt:=top 9
theorem sc_whole_row:FnScope ["row","bottom"] ["row"] (defScope s_whole_row):=⟨rfl,rfl,rfl,by decide +kernel,rfl,by decide +kernel,by decide +kernel⟩
abbrev s_stairs_of:Stmt:=top 10
theorem sc_stairs_of:FnScope ["table"] ["table"] (defScope s_stairs_of):=⟨rfl,rfl,rfl,by decide +kernel,rfl,by decide +kernel,by decide +kernel⟩
abbrev s_fractions_over:Stmt:=top 11
theorem sc_fractions_over:FnScope ["numbers","bottom"] ["numbers","bottom"] (defScope s_fractions_over):=⟨rfl,rfl,rfl,by decide +kernel,rfl,by decide +kernel,by decide +kernel⟩
abbrev s_laid_over:Stmt:=top 12
theorem sc_laid_over:FnScope ["table"] ["table"] (defScope s_laid_over):=⟨rfl,rfl,rfl,by decide +kernel,rfl,by decide +kernel,by decide +kernel⟩
abbrev s_reduced:Stmt:=top 13
theorem sc_reduced:FnScope ["table","stairs","beneath","columns"] ["table"] (defScope s_reduced):=⟨rfl,rfl,rfl,by decide +kernel,rfl,by decide +kernel,by decide +kernel⟩
abbrev s_rank:Stmt:=top 14
theorem sc_rank:FnScope ["table"] ["table"] (defScope s_rank):=⟨rfl,rfl,rfl,by decide +kernel,rfl,by decide +kernel,by decide +kernel⟩
abbrev s_solution:Stmt:=top 15
theorem sc_solution:FnScope ["table","column","width","stairs","numbers","found","lead","number"] ["table","column"] (defScope s_solution):=⟨rfl,rfl,rfl,by decide +kernel,rfl,by decide +kernel,by decide +kernel⟩
abbrev s_witness:Stmt:=top 16
theorem sc_witness:FnScope ["table","column","laid"] ["table","column"] (defScope s_witness):=⟨rfl,rfl,rfl,by decide +kernel,rfl,by decide +kernel,by decide +kernel⟩
abbrev s_solved:Stmt:=top 17
theorem sc_solved:FnScope ["table","column","found"] ["table","column"] (defScope s_solved):=⟨rfl,rfl,rfl,by decide +kernel,rfl,by decide +kernel,by decide +kernel⟩
abbrev s_determinant:Stmt:=top 18
theorem sc_determinant:FnScope ["table","stairs","bottom","row"] ["table"] (defScope s_determinant):=⟨rfl,rfl,rfl,by decide +kernel,rfl,by decide +kernel,by decide +kernel⟩
abbrev sLmix:Stmt:=top 20
theorem scLmix:FnScope ["_law_cell","_law_j","_law_number"] ["_law_cell","_law_j"] (defScope sLmix):=⟨rfl,rfl,rfl,by decide +kernel,rfl,by decide +kernel,by decide +kernel⟩
abbrev sLdivisor:Stmt:=top 21
theorem scLdivisor:FnScope ["_law_one","_law_other"] ["_law_one","_law_other"] (defScope sLdivisor):=⟨rfl,rfl,rfl,by decide +kernel,rfl,by decide +kernel,by decide +kernel⟩
abbrev sLfraction:Stmt:=top 22
theorem scLfraction:FnScope ["_law_top","_law_bottom","_law_by"] ["_law_top","_law_bottom"] (defScope sLfraction):=⟨rfl,rfl,rfl,by decide +kernel,rfl,by decide +kernel,by decide +kernel⟩
abbrev sLplus:Stmt:=top 23
theorem scLplus:FnScope ["_law_one","_law_other"] ["_law_one","_law_other"] (defScope sLplus):=⟨rfl,rfl,rfl,by decide +kernel,rfl,by decide +kernel,by decide +kernel⟩
abbrev sLtimes:Stmt:=top 24
theorem scLtimes:FnScope ["_law_one","_law_other"] ["_law_one","_law_other"] (defScope sLtimes):=⟨rfl,rfl,rfl,by decide +kernel,rfl,by decide +kernel,by decide +kernel⟩
abbrev sLdrawn:Stmt:=top 25
theorem scLdrawn:FnScope ["_law_cell","_law_j","_law_drawn_here","_law_top"] ["_law_cell","_law_j"] (defScope sLdrawn):=⟨rfl,rfl,rfl,by decide +kernel,rfl,by decide +kernel,by decide +kernel⟩
abbrev sLbegun:Stmt:=top 26
theorem scLbegun:FnScope ["_law_cells","_law_total","_law_size","_law_table","_law_i","_law_row","_law_j","_law_at"] ["_law_cells","_law_total"] (defScope sLbegun):=⟨rfl,rfl,rfl,by decide +kernel,rfl,by decide +kernel,by decide +kernel⟩
abbrev sLturned:Stmt:=top 27
theorem scLturned:FnScope ["_law_table","_law_due","_law_cell","_law_rows","_law_i","_law_j","_law_way","_law_found","_law_by"] ["_law_table","_law_due","_law_cell"] (defScope sLturned):=⟨rfl,rfl,rfl,by decide +kernel,rfl,by decide +kernel,by decide +kernel⟩
abbrev sLunit:Stmt:=top 28
theorem scLunit:FnScope ["_law_size"] ["_law_size"] (defScope sLunit):=⟨rfl,rfl,rfl,by decide +kernel,rfl,by decide +kernel,by decide +kernel⟩
abbrev sLdot:Stmt:=top 29
theorem scLdot:FnScope ["_law_one","_law_other","_law_found","_law_x","_law_y"] ["_law_one","_law_other"] (defScope sLdot):=⟨rfl,rfl,rfl,by decide +kernel,rfl,by decide +kernel,by decide +kernel⟩
abbrev sLtold:Stmt:=top 30
theorem scLtold:FnScope ["_law_table","_law_due","_law_k","_law_kept","_law_size","_law_column","_law_word","_law_found"] ["_law_table","_law_due","_law_k"] (defScope sLtold):=⟨rfl,rfl,rfl,by decide +kernel,rfl,by decide +kernel,by decide +kernel⟩
abbrev sLfirst:Stmt:=top 31
theorem scLfirst:FnScope ["_law_table","_law_due","_law_i"] ["_law_table"] (defScope sLfirst):=⟨rfl,rfl,rfl,by decide +kernel,rfl,by decide +kernel,by decide +kernel⟩
abbrev s_law:Stmt:=top 32
theorem sc_law:FnScope ["_law_script","_law_cells","_law_total","_law_table","_law_due","_law_k"] ["_law_script"] (defScope s_law):=⟨rfl,rfl,rfl,by decide +kernel,rfl,by decide +kernel,by decide +kernel⟩
abbrev sS___init__:Stmt:=inClass (top 6) 0
theorem scS___init__:FnScope ["self","rows","column"] ["self","rows"] (defScope sS___init__):=⟨rfl,rfl,rfl,by decide +kernel,rfl,by decide +kernel,by decide +kernel⟩
abbrev sS_step_down:Stmt:=inClass (top 6) 1
theorem scS_step_down:FnScope ["self","column","top","place","lead_row","beneath"] ["self","column"] (defScope sS_step_down):=⟨rfl,rfl,rfl,by decide +kernel,rfl,by decide +kernel,by decide +kernel⟩
abbrev sS_place_of_lead:Stmt:=inClass (top 6) 2
theorem scS_place_of_lead:FnScope ["self","top","column","place"] ["self","top","column"] (defScope sS_place_of_lead):=⟨rfl,rfl,rfl,by decide +kernel,rfl,by decide +kernel,by decide +kernel⟩
abbrev sS_exchange:Stmt:=inClass (top 6) 3
theorem scS_exchange:FnScope ["self","top","place","lowered"] ["self","top","place"] (defScope sS_exchange):=⟨rfl,rfl,rfl,by decide +kernel,rfl,by decide +kernel,by decide +kernel⟩
abbrev sS_reduced_column:Stmt:=inClass (top 6) 4
theorem scS_reduced_column:FnScope ["self","column","count","numbers","place","row","known"] ["self","column"] (defScope sS_reduced_column):=⟨rfl,rfl,rfl,by decide +kernel,rfl,by decide +kernel,by decide +kernel⟩
def c_NOUGHT:PyData:= .tuple [.int 0, .int 1]
def c_UNIT:PyData:= .tuple [.int 1, .int 1]
section
variable {P:Program} {w:World} {K:PySem.W.Frag} {mg:Str->Option Value} {base:Heap} {f:Addr} {fd:FuncData} {C_S:Addr}
noncomputable def b_greatest_divisor : En -> Option Out :=
    (mSeq (mWhile (mTest (mBin dne (mPk 1) (mK (.int 0)))) (mSeq (mAsg 2 (mBin dMod (mPk 0) (mPk 1)))
    (mSeq (mAsg 0 (mVar 1))
    (mFrz 2 (mAsg 1 (mVar 2))))))
    (mRet (mCallP dAbs (mConsP (mPk 0) mNilP))))
noncomputable def m_greatest_divisor:List PyData->Option Sl:=runD 3 b_greatest_divisor 2
theorem ok_greatest_divisor (B:Bl mg) (F:Fun K "greatest_divisor" "greatest_divisor" s_greatest_divisor f fd):FnOk P w K mg base CX0 1 f fd ["one","other"] (spD K m_greatest_divisor):=by
  have sc:=sc_greatest_divisor
  exact fnD F sc_greatest_divisor rfl rfl fun cdv A outer s H E hr=>
    (dss_cons (ds_while PassesOwn.never (dt_ne hr.units (dp_var 1) (DE.dp de_int)) (dss_cons (ds_set 2 (de_mod (dp_var 0) (dp_var 1)) sc.nd)
    (dss_cons (ds_set 0 (de_var 1) sc.nd)
    (dss_one (ds_frz 2 (ds_set 1 (de_var 2) sc.nd))))))
    (dss_one (ds_ret (de_blt call_abs cd_abs bt_abs B.abs (dq_cons (dp_var 0) dq_nil)))))
noncomputable def b_fraction : En -> Option Out :=
    (mSeq (mAsg 2 (mCall m_greatest_divisor (mCons (mVar 0) (mCons (mVar 1) mNil))))
    (mSeq (mIf (mTest (mBin dLt (mPk 1) (mK (.int 0)))) (mAsg 2 (mUn (iun fun i=> -i) (mPk 2))) mNext)
    (mRet (mTup (mCons (mBin dFdiv (mPk 0) (mPk 2)) (mCons (mBin dFdiv (mPk 1) (mPk 2)) mNil))))))
noncomputable def m_fraction:List PyData->Option Sl:=runD 3 b_fraction 2
theorem ok_fraction (B:Bl mg) (D_greatest_divisor:Def P w K mg base 1 "greatest_divisor" ["one","other"] (spD K m_greatest_divisor)) (F:Fun K "fraction" "fraction" s_fraction f fd):FnOk P w K mg base CX0 2 f fd ["top","bottom"] (spD K m_fraction):=by
  have sc:=sc_fraction
  exact fnD F sc_fraction rfl rfl fun cdv A outer s H E hr=>
    (dss_cons (ds_set 2 (de_call D_greatest_divisor hr (da_cons (de_var 0) (da_cons (de_var 1) da_nil))) sc.nd)
    (dss_cons (ds_if (dt_lt (dp_var 1) (DE.dp de_int)) (dss_one (ds_set 2 (de_neg (dp_var 2)) sc.nd)) dss_nil)
    (dss_one (ds_ret (de_tup (da_cons (de_fdiv (dp_var 0) (dp_var 2)) (da_cons (de_fdiv (dp_var 1) (dp_var 2)) da_nil)))))))
noncomputable def b_cleared_row : En -> Option Out :=
    (mSeq (mAsg 4 (mBin dix (mPk 1) (mPk 2)))
    (mSeq (mAsg 5 (mBin dix (mPk 0) (mPk 2)))
    (mRet (mLC (subE [some 4,some 5,some 3,none,none]) (mZip (mCons (mVar 0) (mCons (mVar 1) mNil))) (gTupD [(gVar 3),(gVar 4)]) mYes (mBin dFdiv (mBin dSub (mBin dRep (mPk 0) (mPk 3)) (mBin dRep (mPk 1) (mPk 4))) (mPk 2))))))
noncomputable def m_cleared_row:List PyData->Option Sl:=runD 6 b_cleared_row 4
theorem ok_cleared_row (B:Bl mg) (F:Fun K "cleared_row" "cleared_row" s_cleared_row f fd):FnOk P w K mg base CX0 1 f fd ["row","lead_row","column","last"] (spD K m_cleared_row):=by
  have sc:=sc_cleared_row
  exact fnD F sc_cleared_row rfl rfl fun cdv A outer s H E hr=>
    (dss_cons (ds_set 4 (de_ix (dp_var 1) (dp_var 2)) sc.nd)
    (dss_cons (ds_set 5 (de_ix (dp_var 0) (dp_var 2)) sc.nd)
    (dss_one (ds_ret (de_lc (N':= ["lead","factor","last","number","above"]) (R':=PR K) cx_scope1 cx_names1 [some 4,some 5,some 3,none,none] (subE [some 4,some 5,some 3,none,none]) pr_sub (di_zip B.zip (da_cons (de_var 0) (da_cons (de_var 1) da_nil))) (fun _=>(dgk_tup (dgks_cons (dgk_name 3 (show List.Nodup (α:=Str) ["lead","factor","last","number","above"] by decide +kernel)) (dgks_cons (dgk_name 4 (show List.Nodup (α:=Str) ["lead","factor","last","number","above"] by decide +kernel)) dgks_nil)))) (fun _=>dts_nil) (fun _=>(de_fdiv (DE.dp (de_sub (DE.dp (de_mul (dp_var 0) (dp_var 3))) (DE.dp (de_mul (dp_var 1) (dp_var 4))))) (dp_var 2))))))))
noncomputable def b_common_bottom : En -> Option Out :=
    (mSeq (mAsg 1 (mK (.int 1)))
    (mSeq (mFor (mItems (mVar 0)) (gVar 2) (mFrz 1 (mAsg 1 (mBin dRep (mBin dFdiv (mPk 1) (mCall m_greatest_divisor (mCons (mVar 1) (mCons (mBin dix (mPk 2) (mK (.int 1))) mNil)))) (mBin dix (mPk 2) (mK (.int 1)))))))
    (mRet (mPk 1))))
noncomputable def m_common_bottom:List PyData->Option Sl:=runD 3 b_common_bottom 1
theorem ok_common_bottom (B:Bl mg) (D_greatest_divisor:Def P w K mg base 1 "greatest_divisor" ["one","other"] (spD K m_greatest_divisor)) (F:Fun K "common_bottom" "common_bottom" s_common_bottom f fd):FnOk P w K mg base CX0 2 f fd ["row"] (spD K m_common_bottom):=by
  have sc:=sc_common_bottom
  exact fnD F sc_common_bottom rfl rfl fun cdv A outer s H E hr=>
    (dss_cons (ds_set 1 de_int sc.nd)
    (dss_cons (ds_for PassesOwn.never (di_list (de_var 0)) (dg_name 2 sc.nd) (dss_one (ds_frz 1 (ds_set 1 (de_mul (DE.dp (de_fdiv (dp_var 1) (DE.dp (de_call D_greatest_divisor hr (da_cons (de_var 1) (da_cons (de_ix (dp_var 2) (DE.dp de_int)) da_nil)))))) (DE.dp (de_ix (dp_var 2) (DE.dp de_int)))) sc.nd))))
    (dss_one (ds_retV 1))))
noncomputable def b_whole_row : En -> Option Out :=
    (mSeq (mAsg 1 (mCall m_common_bottom (mCons (mVar 0) mNil)))
    (mRet (mLC (subE [some 1,none]) (mItems (mVar 0)) (gVar 1) mYes (mBin dRep (mBin dix (mPk 1) (mK (.int 0))) (mBin dFdiv (mPk 0) (mBin dix (mPk 1) (mK (.int 1))))))))
noncomputable def m_whole_row:List PyData->Option Sl:=runD 2 b_whole_row 1
theorem ok_whole_row (B:Bl mg) (D_common_bottom:Def P w K mg base 2 "common_bottom" ["row"] (spD K m_common_bottom)) (F:Fun K "whole_row" "whole_row" s_whole_row f fd):FnOk P w K mg base CX0 3 f fd ["row"] (spD K m_whole_row):=by
  have sc:=sc_whole_row
  exact fnD F sc_whole_row rfl rfl fun cdv A outer s H E hr=>
    (dss_cons (ds_set 1 (de_call D_common_bottom hr (da_cons (de_var 0) da_nil)) sc.nd)
    (dss_one (ds_ret (de_lc (N':= ["bottom","number"]) (R':=PR K) cx_scope1 cx_names1 [some 1,none] (subE [some 1,none]) pr_sub (di_list (de_var 0)) (fun _=>(dgk_name 1 (show List.Nodup (α:=Str) ["bottom","number"] by decide +kernel))) (fun _=>dts_nil) (fun _=>(de_mul (DE.dp (de_ix (dp_var 1) (DE.dp de_int))) (DE.dp (de_fdiv (dp_var 0) (DE.dp (de_ix (dp_var 1) (DE.dp de_int)))))))))))
noncomputable def bS_place_of_lead : En -> Option Out :=
    (mSeq (mFor (mRng2 (mConsP (mPk 1) (mConsP (mCallP dLen (mConsP (mPk 4) mNilP)) mNilP))) (gVar 3) (mIf (mTest (mBin dne (mBin dix (mBin dix (mPk 4) (mPk 3)) (mPk 2)) (mK (.int 0)))) (mRet (mPk 3)) mNext))
    (mRet (mK .none)))
noncomputable def mS_place_of_lead:En->List PyData->Option (En×PyData):=runM 4 3 3 bS_place_of_lead
theorem okS_place_of_lead (B:Bl mg) (K_S:Klass K C_S ["rows","leads","last"]) (F:Fun K "place_of_lead" "Stairs.place_of_lead" sS_place_of_lead f fd):FnOk P w K mg base CX0 1 f fd ["self","top","column"] (spM K C_S ["rows","leads","last"] mS_place_of_lead):=by
  have sc:=scS_place_of_lead
  exact fnM F scS_place_of_lead rfl rfl rfl fun cdv A outer s H E p hr=>
    (dss_cons (ds_for PassesOwn.never (di_range2 B.range (dq_cons (dp_var 1) (dq_cons (DE.dp (de_blt call_len_seq cd_len bt_len B.len (dq_cons (dp_fld 0 K_S) dq_nil))) dq_nil))) (dg_name 3 sc.nd) (dss_one (ds_if (dt_ne hr.units (DE.dp (de_ix (DE.dp (de_ix (dp_fld 0 K_S) (dp_var 3))) (dp_var 2))) (DE.dp de_int)) (dss_one (ds_retV 3)) dss_nil)))
    (dss_one (ds_ret de_none)))
noncomputable def bS_exchange : En -> Option Out :=
    (mSeq (mIf (mTest (mBin deq (mPk 2) (mPk 1))) mRetN mNext)
    (mSeq (mAsg 3 (mLC (subE [none]) (mItems (mBin dix (mPk 4) (mPk 1))) (gVar 0) mYes (mUn (iun fun i=> -i) (mPk 0))))
    (mSeq (mSet 4 (mPk 1) (mBin dix (mPk 4) (mPk 2)))
    (mFrz 3 (mSet 4 (mPk 2) (mVar 3))))))
noncomputable def mS_exchange:En->List PyData->Option (En×PyData):=runM 4 3 3 bS_exchange
theorem okS_exchange (B:Bl mg) (K_S:Klass K C_S ["rows","leads","last"]) (F:Fun K "exchange" "Stairs.exchange" sS_exchange f fd):FnOk P w K mg base CX0 1 f fd ["self","top","place"] (spM K C_S ["rows","leads","last"] mS_exchange):=by
  have sc:=scS_exchange
  exact fnM F scS_exchange rfl rfl rfl fun cdv A outer s H E p hr=>
    (dss_cons (ds_if (dt_eq hr.units (dp_var 2) (dp_var 1)) (dss_one ds_retN) dss_nil)
    (dss_cons (ds_setC (N':= ["number"]) (R':=PR K) cx_scope1 cx_names1 3 [none] (subE [none]) fr_sub0 sc.nd (di_list (de_ix (dp_fld 0 K_S) (dp_var 1))) (fun _=>(dgk_name 0 (show List.Nodup (α:=Str) ["number"] by decide +kernel))) (fun _=>dts_nil) (fun _=>(de_neg (dp_var 0))))
    (dss_cons (ds_setF 0 K_S (de_ix (dp_fld 0 K_S) (dp_var 2)) (dp_var 1))
    (dss_one (ds_frz 3 (ds_setF 0 K_S (de_var 3) (dp_var 2)))))))
noncomputable def bS_step_down : En -> Option Out :=
    (mSeq (mAsg 2 (mCallP dLen (mConsP (mPk 7) mNilP)))
    (mSeq (mFrz 2 (mMeth 6 mS_place_of_lead (mCons (mVar 2) (mCons (mVar 1) mNil)) fun ρ d=>some (.nx (ρ.set 3 (some (.val d))))))
    (mSeq (mIf (mTest (mBin disN (mPk 3) (mK .none))) mRetN mNext)
    (mSeq (mFrz 2 (mFrz 3 (mMeth 6 mS_exchange (mCons (mVar 2) (mCons (mVar 3) mNil)) fun ρ _=>some (.nx ρ))))
    (mSeq (mAsg 4 (mBin dix (mPk 6) (mPk 2)))
    (mSeq (mFrz 4 (mAsg 5 (mLC (subF [some 4,some 1,some 0,none] 6) (mItems (mSl (mPk 6) (mPart (mBin dAdd (mPk 2) (mK (.int 1)))) mNoPart)) (gVar 3) mYes (mCall m_cleared_row (mCons (mVar 3) (mCons (mVar 0) (mCons (mVar 1) (mCons (mVar 6) mNil))))))))
    (mSeq (mAsg 6 (mBin dAdd (mSl (mPk 6) mNoPart (mPart (mBin dAdd (mPk 2) (mK (.int 1))))) (mPk 5)))
    (mSeq (mApp 7 (mVar 1))
    (mAsg 8 (mBin dix (mPk 4) (mPk 1)))))))))))
noncomputable def mS_step_down:En->List PyData->Option (En×PyData):=runM 6 2 3 bS_step_down
theorem okS_step_down (B:Bl mg) (DS_place_of_lead:MDef P w K mg base 1 C_S "place_of_lead" ["self","top","column"] (spM K C_S ["rows","leads","last"] mS_place_of_lead)) (DS_exchange:MDef P w K mg base 1 C_S "exchange" ["self","top","place"] (spM K C_S ["rows","leads","last"] mS_exchange)) (D_cleared_row:Def P w K mg base 1 "cleared_row" ["row","lead_row","column","last"] (spD K m_cleared_row)) (K_S:Klass K C_S ["rows","leads","last"]) (F:Fun K "step_down" "Stairs.step_down" sS_step_down f fd):FnOk P w K mg base CX0 2 f fd ["self","column"] (spM K C_S ["rows","leads","last"] mS_step_down):=by
  have sc:=scS_step_down
  exact fnM F scS_step_down rfl rfl rfl fun cdv A outer s H E p hr=>
    (dss_cons (ds_set 2 (de_blt call_len_seq cd_len bt_len B.len (dq_cons (dp_fld 1 K_S) dq_nil)) sc.nd)
    (dss_cons (ds_frz 2 (ds_methA 3 DS_place_of_lead K_S hr (da_cons (de_var 2) (da_cons (de_var 1) da_nil)) sc.nd))
    (dss_cons (ds_if (dt_isN (dp_var 3) (DE.dp de_none)) (dss_one ds_retN) dss_nil)
    (dss_cons (ds_frz 2 (ds_frz 3 (ds_methE DS_exchange K_S hr (da_cons (de_var 2) (da_cons (de_var 3) da_nil)))))
    (dss_cons (ds_set 4 (de_ix (dp_fld 0 K_S) (dp_var 2)) sc.nd)
    (dss_cons (ds_frz 4 (ds_setC (N':= ["lead_row","column","self","row"]) (R':=FR K ⟨C_S,["rows","leads","last"],2,4,p⟩) cx_scope1 cx_names1 5 [some 4,some 1,some 0,none] (subF [some 4,some 1,some 0,none] 6) fr_sub sc.nd (di_list (de_sl (dp_fld 0 K_S) (do_some (DE.dp (de_add (dp_var 2) (DE.dp de_int)))) do_none)) (fun _=>(dgk_name 3 (show List.Nodup (α:=Str) ["lead_row","column","self","row"] by decide +kernel))) (fun _=>dts_nil) (fun _=>(de_call D_cleared_row hr (da_cons (de_var 3) (da_cons (de_var 0) (da_cons (de_var 1) (da_cons (de_fld 2 K_S) da_nil))))))))
    (dss_cons (ds_fld 0 K_S (de_add (DE.dp (de_sl (dp_fld 0 K_S) do_none (do_some (DE.dp (de_add (dp_var 2) (DE.dp de_int)))))) (dp_var 5)))
    (dss_cons (ds_appF 1 K_S (de_var 1))
    (dss_one (ds_fld 2 K_S (de_ix (dp_var 4) (dp_var 1))))))))))))
noncomputable def bS___init__ : En -> Option Out :=
    (mSeq (mAsg 3 (mCallP dList (mConsP (mPk 1) mNilP)))
    (mSeq (mAsg 4 (mLst mNil))
    (mSeq (mAsg 5 (mK (.int 1)))
    (mFor (mRng1 (mConsP (mCallP dLen (mConsP (mBin dix (mPk 1) (mK (.int 0))) mNilP)) mNilP)) (gVar 2) (mMeth 3 mS_step_down (mCons (mVar 2) mNil) fun ρ _=>some (.nx ρ))))))
noncomputable def mS___init__:En->List PyData->Option (En×PyData):=runM 3 2 3 bS___init__
theorem okS___init__ (B:Bl mg) (DS_step_down:MDef P w K mg base 2 C_S "step_down" ["self","column"] (spM K C_S ["rows","leads","last"] mS_step_down)) (K_S:Klass K C_S ["rows","leads","last"]) (F:Fun K "__init__" "Stairs.__init__" sS___init__ f fd):FnOk P w K mg base CX0 3 f fd ["self","rows"] (spM K C_S ["rows","leads","last"] mS___init__):=by
  have sc:=scS___init__
  exact fnM F scS___init__ rfl rfl rfl fun cdv A outer s H E p hr=>
    (dss_cons (ds_fld 0 K_S (de_ty call_list_of cd_list bt_list B.list (dq_cons (dp_var 1) dq_nil)))
    (dss_cons (ds_fld 1 K_S (de_lst da_nil))
    (dss_cons (ds_fld 2 K_S de_int)
    (dss_one (ds_for PassesOwn.never (di_range1 B.range (dq_cons (DE.dp (de_blt call_len_seq cd_len bt_len B.len (dq_cons (DE.dp (de_ix (dp_var 1) (DE.dp de_int))) dq_nil))) dq_nil)) (dg_name 2 sc.nd) (dss_one (ds_methE DS_step_down K_S hr (da_cons (de_var 2) da_nil))))))))
noncomputable def m_stairs_of:List PyData->Option En:=runO 1 1 (mMake 3 mS___init__ (mCons (mLC (subE [none]) (mItems (mVar 0)) (gVar 0) mYes (mCall m_whole_row (mCons (mVar 0) mNil))) mNil))
theorem ok_stairs_of (B:Bl mg) (D_whole_row:Def P w K mg base 3 "whole_row" ["row"] (spD K m_whole_row)) (DS___init__:KDef P w K mg base 3 C_S "Stairs" ["self","rows"] (spM K C_S ["rows","leads","last"] mS___init__)) (K_S:Klass K C_S ["rows","leads","last"]) (F:Fun K "stairs_of" "stairs_of" s_stairs_of f fd):FnOk P w K mg base CX0 5 f fd ["table"] (spO K C_S ["rows","leads","last"] m_stairs_of):=by
  have sc:=sc_stairs_of
  exact fnO F sc_stairs_of rfl rfl rfl fun cdv A outer s H E hr=>
    (db_make DS___init__ hr (da_cons (de_lc (N':= ["row"]) (R':=PR K) cx_scope1 cx_names1 [none] (subE [none]) pr_sub (di_list (de_var 0)) (fun _=>(dgk_name 0 (show List.Nodup (α:=Str) ["row"] by decide +kernel))) (fun _=>dts_nil) (fun _=>(de_call D_whole_row hr (da_cons (de_var 0) da_nil)))) da_nil))
noncomputable def b_fractions_over : En -> Option Out :=
    (mRet (mLC (subE [some 1,none]) (mItems (mVar 0)) (gVar 1) mYes (mCall m_fraction (mCons (mVar 1) (mCons (mVar 0) mNil)))))
noncomputable def m_fractions_over:List PyData->Option Sl:=runD 2 b_fractions_over 2
theorem ok_fractions_over (B:Bl mg) (D_fraction:Def P w K mg base 2 "fraction" ["top","bottom"] (spD K m_fraction)) (F:Fun K "fractions_over" "fractions_over" s_fractions_over f fd):FnOk P w K mg base CX0 3 f fd ["numbers","bottom"] (spD K m_fractions_over):=by
  have sc:=sc_fractions_over
  exact fnD F sc_fractions_over rfl rfl fun cdv A outer s H E hr=>
    (dss_one (ds_ret (de_lc (N':= ["bottom","number"]) (R':=PR K) cx_scope1 cx_names1 [some 1,none] (subE [some 1,none]) pr_sub (di_list (de_var 0)) (fun _=>(dgk_name 1 (show List.Nodup (α:=Str) ["bottom","number"] by decide +kernel))) (fun _=>dts_nil) (fun _=>(de_call D_fraction hr (da_cons (de_var 1) (da_cons (de_var 0) da_nil)))))))
noncomputable def b_laid_over : En -> Option Out :=
    (mRet (mLC (subE [some 0,none]) (mRng1 (mConsP (mCallP dLen (mConsP (mBin dix (mPk 0) (mK (.int 0))) mNilP)) mNilP)) (gVar 1) mYes (mLC (subE [some 1,none]) (mItems (mVar 0)) (gVar 1) mYes (mBin dix (mPk 1) (mPk 0)))))
noncomputable def m_laid_over:List PyData->Option Sl:=runD 1 b_laid_over 1
theorem ok_laid_over (B:Bl mg) (F:Fun K "laid_over" "laid_over" s_laid_over f fd):FnOk P w K mg base CX0 1 f fd ["table"] (spD K m_laid_over):=by
  have sc:=sc_laid_over
  exact fnD F sc_laid_over rfl rfl fun cdv A outer s H E hr=>
    (dss_one (ds_ret (de_lc (N':= ["table","k"]) (R':=PR K) cx_scope1 cx_names1 [some 0,none] (subE [some 0,none]) pr_sub (di_range1 B.range (dq_cons (DE.dp (de_blt call_len_seq cd_len bt_len B.len (dq_cons (DE.dp (de_ix (dp_var 0) (DE.dp de_int))) dq_nil))) dq_nil)) (fun _=>(dgk_name 1 (show List.Nodup (α:=Str) ["table","k"] by decide +kernel))) (fun _=>dts_nil) (fun _=>(de_lc (N':= ["k","row"]) (R':=PR K) cxC_scope cxC_names [some 1,none] (subE [some 1,none]) pr_sub (di_list (de_var 0)) (fun _=>(dgk_name 1 (show List.Nodup (α:=Str) ["k","row"] by decide +kernel))) (fun _=>dts_nil) (fun _=>(de_ix (dp_var 1) (dp_var 0))))))))
noncomputable def bS_reduced_column : En -> Option Out :=
    (mSeq (mAsg 2 (mCallP dLen (mConsP (mPk 8) mNilP)))
    (mSeq (mAsg 3 (mBin dRep (mLst (mCons (mK (.int 0)) mNil)) (mPk 2)))
    (mSeq (mFor (mRngD (mConsP (mBin dSub (mPk 2) (mK (.int 1))) (mConsP (mUn (iun fun i=> -i) (mK (.int 1))) (mConsP (mUn (iun fun i=> -i) (mK (.int 1))) mNilP)))) (gVar 4) (mSeq (mAsg 5 (mBin dix (mPk 7) (mPk 4)))
    (mSeq (mAsg 6 (mCallP dSum (mConsP (mLC (subF [some 5,some 0,some 3,none] 7) (mRng2 (mConsP (mBin dAdd (mPk 4) (mK (.int 1))) (mConsP (mPk 2) mNilP))) (gVar 3) mYes (mBin dRep (mBin dix (mPk 0) (mBin dix (mPk 5) (mPk 3))) (mBin dix (mPk 2) (mPk 3)))) mNilP)))
    (mSet 3 (mPk 4) (mBin dFdiv (mBin dSub (mBin dRep (mPk 9) (mBin dix (mPk 5) (mPk 1))) (mPk 6)) (mBin dix (mPk 5) (mBin dix (mPk 8) (mPk 4))))))))
    (mRet (mPk 3)))))
noncomputable def mS_reduced_column:List PyData->List PyData->Option Sl:=runR 7 2 3 bS_reduced_column
theorem okS_reduced_column (B:Bl mg) (K_S:Klass K C_S ["rows","leads","last"]) (F:Fun K "reduced_column" "Stairs.reduced_column" sS_reduced_column f fd):FnOk P w K mg base CX0 1 f fd ["self","column"] (spR K C_S ["rows","leads","last"] mS_reduced_column):=by
  have sc:=scS_reduced_column
  exact fnR F scS_reduced_column rfl rfl rfl fun cdv A outer s H E p hr=>
    (dss_cons (ds_set 2 (de_blt call_len_seq cd_len bt_len B.len (dq_cons (dp_fldR 1 K_S) dq_nil)) sc.nd)
    (dss_cons (ds_set 3 (de_mul (DE.dp (de_lst (da_cons de_int da_nil))) (dp_var 2)) sc.nd)
    (dss_cons (ds_for PassesOwn.never (di_rangeD B.range (dq_cons (DE.dp (de_sub (dp_var 2) (DE.dp de_int))) (dq_cons (DE.dp (de_neg (DE.dp de_int))) (dq_cons (DE.dp (de_neg (DE.dp de_int))) dq_nil)))) (dg_name 4 sc.nd) (dss_cons (ds_set 5 (de_ix (dp_fldR 0 K_S) (dp_var 4)) sc.nd)
    (dss_cons (ds_set 6 (de_blt (call_sum rfl) cd_sum bt_sum B.sum (dq_cons (DE.dp (de_lc (N':= ["row","self","numbers","k"]) (R':=FO K ⟨C_S,["rows","leads","last"],1,4,p⟩) cx_scope1 cx_names1 [some 5,some 0,some 3,none] (subF [some 5,some 0,some 3,none] 7) fo_sub (di_range2 B.range (dq_cons (DE.dp (de_add (dp_var 4) (DE.dp de_int))) (dq_cons (dp_var 2) dq_nil))) (fun _=>(dgk_name 3 (show List.Nodup (α:=Str) ["row","self","numbers","k"] by decide +kernel))) (fun _=>dts_nil) (fun _=>(de_mul (DE.dp (de_ix (dp_var 0) (DE.dp (de_ix (dp_fldR 1 K_S) (dp_var 3))))) (DE.dp (de_ix (dp_var 2) (dp_var 3))))))) dq_nil)) sc.nd)
    (dss_one (ds_setI 3 (de_fdiv (DE.dp (de_sub (DE.dp (de_mul (dp_fldR 2 K_S) (DE.dp (de_ix (dp_var 5) (dp_var 1))))) (dp_var 6))) (DE.dp (de_ix (dp_var 5) (DE.dp (de_ix (dp_fldR 1 K_S) (dp_var 4)))))) (dp_var 4))))))
    (dss_one (ds_retV 3)))))
noncomputable def b_reduced : En -> Option Out :=
    (mObj 4 1 (mCallO m_stairs_of (mCons (mVar 0) mNil))
    (mSeq (mAsg 2 (mBin dRep (mLst (mCons (mK c_NOUGHT) mNil)) (mBin dSub (mCallP dLen (mConsP (mPk 0) mNilP)) (mCallP dLen (mConsP (mPk 5) mNilP)))))
    (mSeq (mAsg 3 (mLC (subF [some 1,some 2,none] 4) (mRng1 (mConsP (mCallP dLen (mConsP (mBin dix (mPk 0) (mK (.int 0))) mNilP)) mNilP)) (gVar 2) mYes (mBin dAdd (mCall m_fractions_over (mCons (mMethR 3 mS_reduced_column (mCons (mVar 2) mNil)) (mCons (mVar 5) mNil))) (mPk 1))))
    (mFrz 3 (mRet (mCall m_laid_over (mCons (mVar 3) mNil)))))))
noncomputable def m_reduced:List PyData->Option Sl:=runD 4 b_reduced 1
theorem ok_reduced (B:Bl mg) (D_stairs_of:Def P w K mg base 5 "stairs_of" ["table"] (spO K C_S ["rows","leads","last"] m_stairs_of)) (D_fractions_over:Def P w K mg base 3 "fractions_over" ["numbers","bottom"] (spD K m_fractions_over)) (DS_reduced_column:MDef P w K mg base 1 C_S "reduced_column" ["self","column"] (spR K C_S ["rows","leads","last"] mS_reduced_column)) (D_laid_over:Def P w K mg base 1 "laid_over" ["table"] (spD K m_laid_over)) (C_NOUGHT:GlobC K mg "NOUGHT" c_NOUGHT) (K_S:Klass K C_S ["rows","leads","last"]) (F:Fun K "reduced" "reduced" s_reduced f fd):FnOk P w K mg base CX0 6 f fd ["table"] (spD K m_reduced):=by
  have sc:=sc_reduced
  exact fnD F sc_reduced rfl rfl fun cdv A outer s H E hr=>
    (dss_obj 1 4 (db_call D_stairs_of hr (da_cons (de_var 0) da_nil)) (fun p=>
    (dss_cons (ds_set 2 (de_mul (DE.dp (de_lst (da_cons (de_globC C_NOUGHT) da_nil))) (DE.dp (de_sub (DE.dp (de_blt call_len_seq cd_len bt_len B.len (dq_cons (dp_var 0) dq_nil))) (DE.dp (de_blt call_len_seq cd_len bt_len B.len (dq_cons (dp_fld 1 K_S) dq_nil)))))) sc.nd)
    (dss_cons (ds_setC (N':= ["stairs","beneath","column"]) (R':=FR K ⟨C_S,["rows","leads","last"],0,3,p⟩) cx_scope1 cx_names1 3 [some 1,some 2,none] (subF [some 1,some 2,none] 4) fr_sub sc.nd (di_range1 B.range (dq_cons (DE.dp (de_blt call_len_seq cd_len bt_len B.len (dq_cons (DE.dp (de_ix (dp_var 0) (DE.dp de_int))) dq_nil))) dq_nil)) (fun _=>(dgk_name 2 (show List.Nodup (α:=Str) ["stairs","beneath","column"] by decide +kernel))) (fun _=>dts_nil) (fun _=>(de_add (DE.dp (de_call D_fractions_over hr (da_cons (de_methR DS_reduced_column K_S hr (da_cons (de_var 2) da_nil)) (da_cons (de_fld 2 K_S) da_nil)))) (dp_var 1))))
    (dss_one (ds_frz 3 (ds_ret (de_call D_laid_over hr (da_cons (de_var 3) da_nil)))))))) sc.nd)
noncomputable def b_rank : En -> Option Out :=
    (mRet (mCallP dLen (mConsP (mFldO 1 (mCallO m_stairs_of (mCons (mVar 0) mNil))) mNilP)))
noncomputable def m_rank:List PyData->Option Sl:=runD 1 b_rank 1
theorem ok_rank (B:Bl mg) (D_stairs_of:Def P w K mg base 5 "stairs_of" ["table"] (spO K C_S ["rows","leads","last"] m_stairs_of)) (K_S:Klass K C_S ["rows","leads","last"]) (F:Fun K "rank" "rank" s_rank f fd):FnOk P w K mg base CX0 6 f fd ["table"] (spD K m_rank):=by
  have sc:=sc_rank
  exact fnD F sc_rank rfl rfl fun cdv A outer s H E hr=>
    (dss_one (ds_ret (de_blt call_len_seq cd_len bt_len B.len (dq_cons (DE.dp (de_fldO 1 K_S (db_call D_stairs_of hr (da_cons (de_var 0) da_nil)))) dq_nil))))
noncomputable def b_solution : En -> Option Out :=
    (mSeq (mAsg 2 (mCallP dLen (mConsP (mBin dix (mPk 0) (mK (.int 0))) mNilP)))
    (mObj 8 3 (mCallO m_stairs_of (mCons (mLC (subE [none,none]) (mZip (mCons (mVar 0) (mCons (mVar 1) mNil))) (gTupD [(gVar 0),(gVar 1)]) mYes (mBin dAdd (mPk 0) (mLst (mCons (mVar 1) mNil)))) mNil))
    (mSeq (mIf (mTest (mBin (dInD false) (mPk 2) (mPk 9))) (mRet (mK .none)) mNext)
    (mSeq (mFrz 2 (mAsg 4 (mCall m_fractions_over (mCons (mMethR 8 mS_reduced_column (mCons (mVar 2) mNil)) (mCons (mVar 10) mNil)))))
    (mSeq (mAsg 5 (mBin dRep (mLst (mCons (mK c_NOUGHT) mNil)) (mPk 2)))
    (mSeq (mFrz 9 (mFrz 4 (mFor (mZip (mCons (mVar 9) (mCons (mVar 4) mNil))) (gTupD [(gVar 6),(gVar 7)]) (mSet 5 (mPk 6) (mVar 7)))))
    (mRet (mPk 5))))))))
noncomputable def m_solution:List PyData->Option Sl:=runD 8 b_solution 2
theorem ok_solution (B:Bl mg) (D_stairs_of:Def P w K mg base 5 "stairs_of" ["table"] (spO K C_S ["rows","leads","last"] m_stairs_of)) (D_fractions_over:Def P w K mg base 3 "fractions_over" ["numbers","bottom"] (spD K m_fractions_over)) (DS_reduced_column:MDef P w K mg base 1 C_S "reduced_column" ["self","column"] (spR K C_S ["rows","leads","last"] mS_reduced_column)) (C_NOUGHT:GlobC K mg "NOUGHT" c_NOUGHT) (K_S:Klass K C_S ["rows","leads","last"]) (F:Fun K "solution" "solution" s_solution f fd):FnOk P w K mg base CX0 6 f fd ["table","column"] (spD K m_solution):=by
  have sc:=sc_solution
  exact fnD F sc_solution rfl rfl fun cdv A outer s H E hr=>
    (dss_cons (ds_set 2 (de_blt call_len_seq cd_len bt_len B.len (dq_cons (DE.dp (de_ix (dp_var 0) (DE.dp de_int))) dq_nil)) sc.nd)
    (dss_obj 3 8 (db_call D_stairs_of hr (da_cons (de_lc (N':= ["row","number"]) (R':=PR K) cx_scope1 cx_names1 [none,none] (subE [none,none]) pr_sub (di_zip B.zip (da_cons (de_var 0) (da_cons (de_var 1) da_nil))) (fun _=>(dgk_tup (dgks_cons (dgk_name 0 (show List.Nodup (α:=Str) ["row","number"] by decide +kernel)) (dgks_cons (dgk_name 1 (show List.Nodup (α:=Str) ["row","number"] by decide +kernel)) dgks_nil)))) (fun _=>dts_nil) (fun _=>(de_add (dp_var 0) (DE.dp (de_lst (da_cons (de_var 1) da_nil)))))) da_nil)) (fun p=>
    (dss_cons (ds_if (dt_inD hr.units (dp_var 2) (dp_fld 1 K_S)) (dss_one (ds_ret de_none)) dss_nil)
    (dss_cons (ds_frz 2 (ds_set 4 (de_call D_fractions_over hr (da_cons (de_methR DS_reduced_column K_S hr (da_cons (de_var 2) da_nil)) (da_cons (de_fld 2 K_S) da_nil))) sc.nd))
    (dss_cons (ds_set 5 (de_mul (DE.dp (de_lst (da_cons (de_globC C_NOUGHT) da_nil))) (dp_var 2)) sc.nd)
    (dss_cons (ds_frzF 9 (ds_frz 4 (ds_for PassesOwn.never (di_zip B.zip (da_cons (de_fld 1 K_S) (da_cons (de_var 4) da_nil))) (dg_tup (dgs_cons (dg_name 6 sc.nd) (dgs_cons (dg_name 7 sc.nd) dgs_nil))) (dss_one (ds_setI 5 (de_var 7) (dp_var 6))))))
    (dss_one (ds_retV 5))))))) sc.nd))
noncomputable def b_witness : En -> Option Out :=
    (mSeq (mAsg 2 (mCall m_laid_over (mCons (mVar 0) mNil)))
    (mRet (mCall m_solution (mCons (mBin dAdd (mPk 2) (mLst (mCons (mCallP dList (mConsP (mPk 1) mNilP)) mNil))) (mCons (mBin dAdd (mBin dRep (mLst (mCons (mK c_NOUGHT) mNil)) (mCallP dLen (mConsP (mPk 2) mNilP))) (mLst (mCons (mK c_UNIT) mNil))) mNil)))))
noncomputable def m_witness:List PyData->Option Sl:=runD 3 b_witness 2
theorem ok_witness (B:Bl mg) (D_laid_over:Def P w K mg base 1 "laid_over" ["table"] (spD K m_laid_over)) (D_solution:Def P w K mg base 6 "solution" ["table","column"] (spD K m_solution)) (C_NOUGHT:GlobC K mg "NOUGHT" c_NOUGHT) (C_UNIT:GlobC K mg "UNIT" c_UNIT) (F:Fun K "witness" "witness" s_witness f fd):FnOk P w K mg base CX0 7 f fd ["table","column"] (spD K m_witness):=by
  have sc:=sc_witness
  exact fnD F sc_witness rfl rfl fun cdv A outer s H E hr=>
    (dss_cons (ds_set 2 (de_call D_laid_over hr (da_cons (de_var 0) da_nil)) sc.nd)
    (dss_one (ds_ret (de_call D_solution hr (da_cons (de_add (dp_var 2) (DE.dp (de_lst (da_cons (de_ty call_list_of cd_list bt_list B.list (dq_cons (dp_var 1) dq_nil)) da_nil)))) (da_cons (de_add (DE.dp (de_mul (DE.dp (de_lst (da_cons (de_globC C_NOUGHT) da_nil))) (DE.dp (de_blt call_len_seq cd_len bt_len B.len (dq_cons (dp_var 2) dq_nil))))) (DE.dp (de_lst (da_cons (de_globC C_UNIT) da_nil)))) da_nil))))))
noncomputable def b_solved : En -> Option Out :=
    (mSeq (mAsg 2 (mCall m_solution (mCons (mVar 0) (mCons (mVar 1) mNil))))
    (mSeq (mIf (mTest (mBin disN (mPk 2) (mK .none))) (mRet (mTup (mCons (mK (.str "never")) (mCons (mCall m_witness (mCons (mVar 0) (mCons (mVar 1) mNil))) mNil)))) mNext)
    (mFrz 2 (mRet (mTup (mCons (mK (.str "found")) (mCons (mVar 2) mNil)))))))
noncomputable def m_solved:List PyData->Option Sl:=runD 3 b_solved 2
theorem ok_solved (B:Bl mg) (D_solution:Def P w K mg base 6 "solution" ["table","column"] (spD K m_solution)) (D_witness:Def P w K mg base 7 "witness" ["table","column"] (spD K m_witness)) (F:Fun K "solved" "solved" s_solved f fd):FnOk P w K mg base CX0 8 f fd ["table","column"] (spD K m_solved):=by
  have sc:=sc_solved
  exact fnD F sc_solved rfl rfl fun cdv A outer s H E hr=>
    (dss_cons (ds_set 2 (de_call D_solution hr (da_cons (de_var 0) (da_cons (de_var 1) da_nil))) sc.nd)
    (dss_cons (ds_if (dt_isN (dp_var 2) (DE.dp de_none)) (dss_one (ds_ret (de_tup (da_cons de_str (da_cons (de_call D_witness hr (da_cons (de_var 0) (da_cons (de_var 1) da_nil))) da_nil))))) dss_nil)
    (dss_one (ds_frz 2 (ds_ret (de_tup (da_cons de_str (da_cons (de_var 2) da_nil))))))))
noncomputable def b_determinant : En -> Option Out :=
    (mObj 4 1 (mCallO m_stairs_of (mCons (mVar 0) mNil))
    (mSeq (mIf (mTest (mBin dLt (mCallP dLen (mConsP (mPk 5) mNilP)) (mCallP dLen (mConsP (mPk 0) mNilP)))) (mRet (mK c_NOUGHT)) mNext)
    (mSeq (mAsg 2 (mK (.int 1)))
    (mSeq (mFor (mItems (mVar 0)) (gVar 3) (mAsg 2 (mBin dRep (mPk 2) (mCall m_common_bottom (mCons (mVar 3) mNil)))))
    (mFrz 2 (mRet (mCall m_fraction (mCons (mVar 6) (mCons (mVar 2) mNil)))))))))
noncomputable def m_determinant:List PyData->Option Sl:=runD 4 b_determinant 1
theorem ok_determinant (B:Bl mg) (D_stairs_of:Def P w K mg base 5 "stairs_of" ["table"] (spO K C_S ["rows","leads","last"] m_stairs_of)) (D_common_bottom:Def P w K mg base 2 "common_bottom" ["row"] (spD K m_common_bottom)) (D_fraction:Def P w K mg base 2 "fraction" ["top","bottom"] (spD K m_fraction)) (C_NOUGHT:GlobC K mg "NOUGHT" c_NOUGHT) (K_S:Klass K C_S ["rows","leads","last"]) (F:Fun K "determinant" "determinant" s_determinant f fd):FnOk P w K mg base CX0 6 f fd ["table"] (spD K m_determinant):=by
  have sc:=sc_determinant
  exact fnD F sc_determinant rfl rfl fun cdv A outer s H E hr=>
    (dss_obj 1 4 (db_call D_stairs_of hr (da_cons (de_var 0) da_nil)) (fun p=>
    (dss_cons (ds_if (dt_lt (DE.dp (de_blt call_len_seq cd_len bt_len B.len (dq_cons (dp_fld 1 K_S) dq_nil))) (DE.dp (de_blt call_len_seq cd_len bt_len B.len (dq_cons (dp_var 0) dq_nil)))) (dss_one (ds_ret (de_globC C_NOUGHT))) dss_nil)
    (dss_cons (ds_set 2 de_int sc.nd)
    (dss_cons (ds_for PassesOwn.never (di_list (de_var 0)) (dg_name 3 sc.nd) (dss_one (ds_set 2 (de_mul (dp_var 2) (DE.dp (de_call D_common_bottom hr (da_cons (de_var 3) da_nil)))) sc.nd)))
    (dss_one (ds_frz 2 (ds_ret (de_call D_fraction hr (da_cons (de_fld 2 K_S) (da_cons (de_var 2) da_nil)))))))))) sc.nd)
noncomputable def bLmix : En -> Option Out :=
    (mSeq (mIf (mTest (mBin deq (mBin dMod (mPk 0) (mK (.int 2))) (mK (.int 1)))) (mRet (mBin dMod (mBin dShr (mPk 0) (mBin dAdd (mK (.int 1)) (mBin dRep (mK (.int 10)) (mPk 1)))) (mK (.int 1024)))) mNext)
    (mSeq (mAsg 2 (mBin dMod (mBin dAdd (mBin dRep (mPk 0) (mBin dAdd (mBin dRep (mK (.int 2)) (mPk 1)) (mK (.int 3)))) (mPk 1)) (mK (.int 2147483629))))
    (mSeq (mAsg 2 (mBin dMod (mBin dRep (mBin dAdd (mBin dRep (mPk 2) (mPk 2)) (mK (.int 1))) (mK (.int 48271))) (mK (.int 2147483629))))
    (mRet (mBin dMod (mBin dRep (mPk 2) (mPk 2)) (mK (.int 2147483587)))))))
noncomputable def mLmix:List PyData->Option Sl:=runD 3 bLmix 2
theorem okLmix (B:Bl mg) (F:Fun K "_law_mix" "_law_mix" sLmix f fd):FnOk P w K mg base CX0 1 f fd ["_law_cell","_law_j"] (spD K mLmix):=by
  have sc:=scLmix
  exact fnD F scLmix rfl rfl fun cdv A outer s H E hr=>
    (dss_cons (ds_if (dt_eq hr.units (DE.dp (de_mod (dp_var 0) (DE.dp de_int))) (DE.dp de_int)) (dss_one (ds_ret (de_mod (DE.dp (de_shr (dp_var 0) (DE.dp (de_add (DE.dp de_int) (DE.dp (de_mul (DE.dp de_int) (dp_var 1))))))) (DE.dp de_int)))) dss_nil)
    (dss_cons (ds_set 2 (de_mod (DE.dp (de_add (DE.dp (de_mul (dp_var 0) (DE.dp (de_add (DE.dp (de_mul (DE.dp de_int) (dp_var 1))) (DE.dp de_int))))) (dp_var 1))) (DE.dp de_int)) sc.nd)
    (dss_cons (ds_set 2 (de_mod (DE.dp (de_mul (DE.dp (de_add (DE.dp (de_mul (dp_var 2) (dp_var 2))) (DE.dp de_int))) (DE.dp de_int))) (DE.dp de_int)) sc.nd)
    (dss_one (ds_ret (de_mod (DE.dp (de_mul (dp_var 2) (dp_var 2))) (DE.dp de_int)))))))
noncomputable def bLdivisor : En -> Option Out :=
    (mSeq (mWhile (mTest (mBin dne (mPk 1) (mK (.int 0)))) (mPar 0 1 (mCons (mVar 1) (mCons (mBin dMod (mPk 0) (mPk 1)) mNil))))
    (mRet (mCallP dAbs (mConsP (mPk 0) mNilP))))
noncomputable def mLdivisor:List PyData->Option Sl:=runD 2 bLdivisor 2
theorem okLdivisor (B:Bl mg) (F:Fun K "_law_divisor" "_law_divisor" sLdivisor f fd):FnOk P w K mg base CX0 1 f fd ["_law_one","_law_other"] (spD K mLdivisor):=by
  have sc:=scLdivisor
  exact fnD F scLdivisor rfl rfl fun cdv A outer s H E hr=>
    (dss_cons (ds_while PassesOwn.never (dt_ne hr.units (dp_var 1) (DE.dp de_int)) (dss_one (ds_par 0 1 (da_cons (de_var 1) (da_cons (de_mod (dp_var 0) (dp_var 1)) da_nil)) sc.nd)))
    (dss_one (ds_ret (de_blt call_abs cd_abs bt_abs B.abs (dq_cons (dp_var 0) dq_nil)))))
noncomputable def bLfraction : En -> Option Out :=
    (mSeq (mAsg 2 (mCall mLdivisor (mCons (mVar 0) (mCons (mVar 1) mNil))))
    (mRet (mTup (mCons (mBin dFdiv (mPk 0) (mPk 2)) (mCons (mBin dFdiv (mPk 1) (mPk 2)) mNil)))))
noncomputable def mLfraction:List PyData->Option Sl:=runD 3 bLfraction 2
theorem okLfraction (B:Bl mg) (DLdivisor:Def P w K mg base 1 "_law_divisor" ["_law_one","_law_other"] (spD K mLdivisor)) (F:Fun K "_law_fraction" "_law_fraction" sLfraction f fd):FnOk P w K mg base CX0 2 f fd ["_law_top","_law_bottom"] (spD K mLfraction):=by
  have sc:=scLfraction
  exact fnD F scLfraction rfl rfl fun cdv A outer s H E hr=>
    (dss_cons (ds_set 2 (de_call DLdivisor hr (da_cons (de_var 0) (da_cons (de_var 1) da_nil))) sc.nd)
    (dss_one (ds_ret (de_tup (da_cons (de_fdiv (dp_var 0) (dp_var 2)) (da_cons (de_fdiv (dp_var 1) (dp_var 2)) da_nil))))))
noncomputable def bLplus : En -> Option Out :=
    (mRet (mCall mLfraction (mCons (mBin dAdd (mBin dRep (mBin dix (mPk 0) (mK (.int 0))) (mBin dix (mPk 1) (mK (.int 1)))) (mBin dRep (mBin dix (mPk 1) (mK (.int 0))) (mBin dix (mPk 0) (mK (.int 1))))) (mCons (mBin dRep (mBin dix (mPk 0) (mK (.int 1))) (mBin dix (mPk 1) (mK (.int 1)))) mNil))))
noncomputable def mLplus:List PyData->Option Sl:=runD 2 bLplus 2
theorem okLplus (B:Bl mg) (DLfraction:Def P w K mg base 2 "_law_fraction" ["_law_top","_law_bottom"] (spD K mLfraction)) (F:Fun K "_law_plus" "_law_plus" sLplus f fd):FnOk P w K mg base CX0 3 f fd ["_law_one","_law_other"] (spD K mLplus):=by
  have sc:=scLplus
  exact fnD F scLplus rfl rfl fun cdv A outer s H E hr=>
    (dss_one (ds_ret (de_call DLfraction hr (da_cons (de_add (DE.dp (de_mul (DE.dp (de_ix (dp_var 0) (DE.dp de_int))) (DE.dp (de_ix (dp_var 1) (DE.dp de_int))))) (DE.dp (de_mul (DE.dp (de_ix (dp_var 1) (DE.dp de_int))) (DE.dp (de_ix (dp_var 0) (DE.dp de_int)))))) (da_cons (de_mul (DE.dp (de_ix (dp_var 0) (DE.dp de_int))) (DE.dp (de_ix (dp_var 1) (DE.dp de_int)))) da_nil)))))
noncomputable def bLtimes : En -> Option Out :=
    (mRet (mCall mLfraction (mCons (mBin dRep (mBin dix (mPk 0) (mK (.int 0))) (mBin dix (mPk 1) (mK (.int 0)))) (mCons (mBin dRep (mBin dix (mPk 0) (mK (.int 1))) (mBin dix (mPk 1) (mK (.int 1)))) mNil))))
noncomputable def mLtimes:List PyData->Option Sl:=runD 2 bLtimes 2
theorem okLtimes (B:Bl mg) (DLfraction:Def P w K mg base 2 "_law_fraction" ["_law_top","_law_bottom"] (spD K mLfraction)) (F:Fun K "_law_times" "_law_times" sLtimes f fd):FnOk P w K mg base CX0 3 f fd ["_law_one","_law_other"] (spD K mLtimes):=by
  have sc:=scLtimes
  exact fnD F scLtimes rfl rfl fun cdv A outer s H E hr=>
    (dss_one (ds_ret (de_call DLfraction hr (da_cons (de_mul (DE.dp (de_ix (dp_var 0) (DE.dp de_int))) (DE.dp (de_ix (dp_var 1) (DE.dp de_int)))) (da_cons (de_mul (DE.dp (de_ix (dp_var 0) (DE.dp de_int))) (DE.dp (de_ix (dp_var 1) (DE.dp de_int)))) da_nil)))))
noncomputable def bLdrawn : En -> Option Out :=
    (mSeq (mAsg 2 (mCall mLmix (mCons (mVar 0) (mCons (mVar 1) mNil))))
    (mSeq (mAsg 3 (mBin dSub (mBin dMod (mPk 2) (mK (.int 13))) (mK (.int 6))))
    (mSeq (mIf (mTest (mBin deq (mBin dMod (mPk 2) (mK (.int 5))) (mK (.int 0)))) (mAsg 3 (mBin dSub (mBin dMod (mBin dAdd (mBin dRep (mPk 0) (mBin dAdd (mPk 1) (mK (.int 1)))) (mPk 2)) (mBin dSub (mBin dRep (mK (.int 2)) (mBin dPow (mK (.int 10)) (mK (.int 6)))) (mK (.int 1)))) (mBin dSub (mBin dPow (mK (.int 10)) (mK (.int 6))) (mK (.int 1))))) mNext)
    (mFrz 3 (mRet (mCall mLfraction (mCons (mVar 3) (mCons (mBin dAdd (mK (.int 1)) (mBin dMod (mBin dFdiv (mPk 2) (mK (.int 13))) (mK (.int 6)))) mNil))))))))
noncomputable def mLdrawn:List PyData->Option Sl:=runD 4 bLdrawn 2
theorem okLdrawn (B:Bl mg) (DLmix:Def P w K mg base 1 "_law_mix" ["_law_cell","_law_j"] (spD K mLmix)) (DLfraction:Def P w K mg base 2 "_law_fraction" ["_law_top","_law_bottom"] (spD K mLfraction)) (F:Fun K "_law_drawn" "_law_drawn" sLdrawn f fd):FnOk P w K mg base CX0 3 f fd ["_law_cell","_law_j"] (spD K mLdrawn):=by
  have sc:=scLdrawn
  exact fnD F scLdrawn rfl rfl fun cdv A outer s H E hr=>
    (dss_cons (ds_set 2 (de_call DLmix hr (da_cons (de_var 0) (da_cons (de_var 1) da_nil))) sc.nd)
    (dss_cons (ds_set 3 (de_sub (DE.dp (de_mod (dp_var 2) (DE.dp de_int))) (DE.dp de_int)) sc.nd)
    (dss_cons (ds_if (dt_eq hr.units (DE.dp (de_mod (dp_var 2) (DE.dp de_int))) (DE.dp de_int)) (dss_one (ds_set 3 (de_sub (DE.dp (de_mod (DE.dp (de_add (DE.dp (de_mul (dp_var 0) (DE.dp (de_add (dp_var 1) (DE.dp de_int))))) (dp_var 2))) (DE.dp (de_sub (DE.dp (de_mul (DE.dp de_int) (DE.dp (de_pow (DE.dp de_int) (DE.dp de_int))))) (DE.dp de_int))))) (DE.dp (de_sub (DE.dp (de_pow (DE.dp de_int) (DE.dp de_int))) (DE.dp de_int)))) sc.nd)) dss_nil)
    (dss_one (ds_frz 3 (ds_ret (de_call DLfraction hr (da_cons (de_var 3) (da_cons (de_add (DE.dp de_int) (DE.dp (de_mod (DE.dp (de_fdiv (dp_var 2) (DE.dp de_int))) (DE.dp de_int)))) da_nil)))))))))
noncomputable def bLbegun : En -> Option (List (List PyData)) :=
    (mSeqW (mAsg 2 (mBin dix (mLst (mCons (mK (.int 1)) (mCons (mK (.int 2)) (mCons (mK (.int 3)) (mCons (mK (.int 3)) (mCons (mK (.int 4)) (mCons (mK (.int 4)) (mCons (mK (.int 5)) (mCons (mK (.int 2)) mNil))))))))) (mBin dMod (mCall mLmix (mCons (mVar 1) (mCons (mK (.int 1)) mNil))) (mK (.int 8)))))
    (mRowsInW 3 mLst0W
    (mSeqW (mFor (mRng1 (mConsP (mPk 2) mNilP)) (gVar 4) (mSeq (mAsg 5 (mLC (subE [none]) (mRng1 (mConsP (mPk 2) mNilP)) (gVar 0) mYes (mTup (mCons (mK (.int 0)) (mCons (mK (.int 1)) mNil)))))
    (mSeq (mFor (mRng2 (mConsP (mPk 4) (mConsP (mPk 2) mNilP))) (gVar 6) (mSet 5 (mPk 6) (mCall mLdrawn (mCons (mBin dix (mPk 0) (mBin dMod (mBin dAdd (mBin dRep (mK (.int 6)) (mPk 4)) (mPk 6)) (mCallP dLen (mConsP (mPk 0) mNilP)))) (mCons (mBin dAdd (mBin dAdd (mK (.int 10)) (mBin dRep (mK (.int 6)) (mPk 4))) (mPk 6)) mNil)))))
    (mSeq (mIf (mTest (mBin deq (mBin dix (mPk 5) (mPk 4)) (mTup (mCons (mK (.int 0)) (mCons (mK (.int 1)) mNil))))) (mSet 5 (mPk 4) (mTup (mCons (mK (.int 1)) (mCons (mK (.int 1)) mNil)))) mNext)
    (mAppWN 3 5)))))
    (mSeqW (mIf (mTest (mBin deq (mBin dMod (mCall mLmix (mCons (mVar 1) (mCons (mK (.int 2)) mNil))) (mK (.int 4))) (mK (.int 1)))) (mSeq (mAsg 7 (mBin dMod (mCall mLmix (mCons (mVar 1) (mCons (mK (.int 3)) mNil))) (mPk 2)))
    (mSetW 3 (mPk 7) (mPk 7) (mTup (mCons (mK (.int 0)) (mCons (mK (.int 1)) mNil))))) mNext)
    (mGiveW 3)))))
noncomputable def mLbegun:List PyData->Option (List (List PyData)):=runW 8 bLbegun 2
theorem okLbegun (B:Bl mg) (DLmix:Def P w K mg base 1 "_law_mix" ["_law_cell","_law_j"] (spD K mLmix)) (DLdrawn:Def P w K mg base 3 "_law_drawn" ["_law_cell","_law_j"] (spD K mLdrawn)) (F:Fun K "_law_begun" "_law_begun" sLbegun f fd):FnOk P w K mg base CX0 4 f fd ["_law_cells","_law_total"] (spW K mLbegun):=by
  have sc:=scLbegun
  exact fnW F scLbegun rfl rfl fun cdv A outer s H E hr=>
    (dsw_cons (ds_set 2 (de_ix (DE.dp (de_lst (da_cons de_int (da_cons de_int (da_cons de_int (da_cons de_int (da_cons de_int (da_cons de_int (da_cons de_int (da_cons de_int da_nil)))))))))) (DE.dp (de_mod (DE.dp (de_call DLmix hr (da_cons (de_var 1) (da_cons de_int da_nil)))) (DE.dp de_int)))) sc.nd)
    (dsw_rows 3 rfl sc.nd dew_lst0
    (dww_cons rfl (ds_for PassesOwn.never (di_range1 B.range (dq_cons (dp_var 2) dq_nil)) (dg_name 4 sc.nd) (dss_cons (ds_setC (N':= ["_law_j"]) (R':=PR K) cx_scope1 cx_names1 5 [none] (subE [none]) pinW_sub sc.nd (di_range1 B.range (dq_cons (dp_var 2) dq_nil)) (fun _=>(dgk_name 0 (show List.Nodup (α:=Str) ["_law_j"] by decide +kernel))) (fun _=>dts_nil) (fun _=>(de_tup (da_cons de_int (da_cons de_int da_nil)))))
    (dss_cons (ds_for PassesOwn.never (di_range2 B.range (dq_cons (dp_var 4) (dq_cons (dp_var 2) dq_nil))) (dg_name 6 sc.nd) (dss_one (ds_setI 5 (de_call DLdrawn hr (da_cons (de_ix (dp_var 0) (DE.dp (de_mod (DE.dp (de_add (DE.dp (de_mul (DE.dp de_int) (dp_var 4))) (dp_var 6))) (DE.dp (de_blt call_len_seq cd_len bt_len B.len (dq_cons (dp_var 0) dq_nil)))))) (da_cons (de_add (DE.dp (de_add (DE.dp de_int) (DE.dp (de_mul (DE.dp de_int) (dp_var 4))))) (dp_var 6)) da_nil))) (dp_var 6))))
    (dss_cons (ds_if (dt_eq hr.units (DE.dp (de_ix (dp_var 5) (dp_var 4))) (DE.dp (de_tup (da_cons de_int (da_cons de_int da_nil))))) (dss_one (ds_setI 5 (de_tup (da_cons de_int (da_cons de_int da_nil))) (dp_var 4))) dss_nil)
    (dss_one (ds_appWN 3 5 rfl))))))
    (dww_cons rfl (ds_if (dt_eq hr.units (DE.dp (de_mod (DE.dp (de_call DLmix hr (da_cons (de_var 1) (da_cons de_int da_nil)))) (DE.dp de_int))) (DE.dp de_int)) (dss_cons (ds_set 7 (de_mod (DE.dp (de_call DLmix hr (da_cons (de_var 1) (da_cons de_int da_nil)))) (dp_var 2)) sc.nd)
    (dss_one (ds_setW 3 rfl (de_tup (da_cons de_int (da_cons de_int da_nil))) (dp_var 7) (dp_var 7)))) dss_nil)
    (dww_ret 3)))))
noncomputable def bLturned : En -> Option Out :=
    (mSeq (mAsg 3 (mCallP dLen (mConsP (mPk 0) mNilP)))
    (mSeq (mAsg 4 (mBin dMod (mCall mLmix (mCons (mVar 2) (mCons (mK (.int 50)) mNil))) (mPk 3)))
    (mSeq (mAsg 5 (mBin dMod (mBin dAdd (mBin dAdd (mPk 4) (mK (.int 1))) (mBin dMod (mCall mLmix (mCons (mVar 2) (mCons (mK (.int 51)) mNil))) (mCallP dMax (mConsP (mK (.int 1)) (mConsP (mBin dSub (mPk 3) (mK (.int 1))) mNilP))))) (mPk 3)))
    (mSeq (mAsg 6 (mBin dMod (mCall mLmix (mCons (mVar 2) (mCons (mK (.int 52)) mNil))) (mK (.int 4))))
    (mSeq (mAsg 7 (mCallP dList (mConsP (mPk 0) mNilP)))
    (mSeq (mIf (mOr (mTest (mBin deq (mPk 3) (mK (.int 1)))) (mTest (mBin deq (mPk 6) (mK (.int 0))))) (mSeq (mAsg 8 (mBin dix (mLst (mCons (mTup (mCons (mUn (iun fun i=> -i) (mK (.int 1))) (mCons (mK (.int 1)) mNil))) (mCons (mTup (mCons (mK (.int 2)) (mCons (mK (.int 1)) mNil))) (mCons (mTup (mCons (mK (.int 1)) (mCons (mK (.int 2)) mNil))) (mCons (mTup (mCons (mUn (iun fun i=> -i) (mK (.int 2))) (mCons (mK (.int 1)) mNil))) (mCons (mTup (mCons (mUn (iun fun i=> -i) (mK (.int 1))) (mCons (mK (.int 2)) mNil))) (mCons (mTup (mCons (mK (.int 3)) (mCons (mK (.int 1)) mNil))) (mCons (mTup (mCons (mK (.int 1)) (mCons (mK (.int 3)) mNil))) (mCons (mTup (mCons (mUn (iun fun i=> -i) (mK (.int 1))) (mCons (mK (.int 3)) mNil))) mNil))))))))) (mBin dMod (mCall mLmix (mCons (mVar 2) (mCons (mK (.int 53)) mNil))) (mK (.int 8)))))
    (mSeq (mFrz 8 (mSet 7 (mPk 4) (mLC (subE [some 8,none]) (mItems (mBin dix (mPk 0) (mPk 4))) (gVar 1) mYes (mCall mLtimes (mCons (mVar 0) (mCons (mVar 1) mNil))))))
    (mFrz 7 (mFrz 8 (mRet (mTup (mCons (mVar 7) (mCons (mCall mLtimes (mCons (mVar 8) (mCons (mVar 1) mNil))) mNil)))))))) mNext)
    (mSeq (mIf (mTest (mBin deq (mPk 6) (mK (.int 1)))) (mSeq (mSet 7 (mPk 4) (mBin dix (mPk 0) (mPk 5)))
    (mSeq (mSet 7 (mPk 5) (mBin dix (mPk 0) (mPk 4)))
    (mFrz 7 (mRet (mTup (mCons (mVar 7) (mCons (mTup (mCons (mUn (iun fun i=> -i) (mBin dix (mPk 1) (mK (.int 0)))) (mCons (mBin dix (mPk 1) (mK (.int 1))) mNil))) mNil))))))) mNext)
    (mSeq (mAsg 8 (mTup (mCons (mBin dSub (mBin dMod (mCall mLmix (mCons (mVar 2) (mCons (mK (.int 54)) mNil))) (mK (.int 3))) (mK (.int 1))) (mCons (mK (.int 1)) mNil))))
    (mSeq (mFrz 8 (mSet 7 (mPk 4) (mLC (subE [some 8,none,none]) (mZip (mCons (mBin dix (mPk 0) (mPk 4)) (mCons (mBin dix (mPk 0) (mPk 5)) mNil))) (gTupD [(gVar 1),(gVar 2)]) mYes (mCall mLplus (mCons (mVar 1) (mCons (mCall mLtimes (mCons (mVar 0) (mCons (mVar 2) mNil))) mNil))))))
    (mFrz 7 (mRet (mTup (mCons (mVar 7) (mCons (mVar 1) mNil))))))))))))))
noncomputable def mLturned:List PyData->Option Sl:=runD 9 bLturned 3
theorem okLturned (B:Bl mg) (DLmix:Def P w K mg base 1 "_law_mix" ["_law_cell","_law_j"] (spD K mLmix)) (DLtimes:Def P w K mg base 3 "_law_times" ["_law_one","_law_other"] (spD K mLtimes)) (DLplus:Def P w K mg base 3 "_law_plus" ["_law_one","_law_other"] (spD K mLplus)) (F:Fun K "_law_turned" "_law_turned" sLturned f fd):FnOk P w K mg base CX0 4 f fd ["_law_table","_law_due","_law_cell"] (spD K mLturned):=by
  have sc:=scLturned
  exact fnD F scLturned rfl rfl fun cdv A outer s H E hr=>
    (dss_cons (ds_set 3 (de_blt call_len_seq cd_len bt_len B.len (dq_cons (dp_var 0) dq_nil)) sc.nd)
    (dss_cons (ds_set 4 (de_mod (DE.dp (de_call DLmix hr (da_cons (de_var 2) (da_cons de_int da_nil)))) (dp_var 3)) sc.nd)
    (dss_cons (ds_set 5 (de_mod (DE.dp (de_add (DE.dp (de_add (dp_var 4) (DE.dp de_int))) (DE.dp (de_mod (DE.dp (de_call DLmix hr (da_cons (de_var 2) (da_cons de_int da_nil)))) (DE.dp (de_blt (call_max2 rfl) cd_max bt_max B.max (dq_cons (DE.dp de_int) (dq_cons (DE.dp (de_sub (dp_var 3) (DE.dp de_int))) dq_nil)))))))) (dp_var 3)) sc.nd)
    (dss_cons (ds_set 6 (de_mod (DE.dp (de_call DLmix hr (da_cons (de_var 2) (da_cons de_int da_nil)))) (DE.dp de_int)) sc.nd)
    (dss_cons (ds_set 7 (de_ty call_list_of cd_list bt_list B.list (dq_cons (dp_var 0) dq_nil)) sc.nd)
    (dss_cons (ds_if (dt_w (dw_or (dt_eq hr.units (dp_var 3) (DE.dp de_int)) (dw_or1 (dt_eq hr.units (dp_var 6) (DE.dp de_int))))) (dss_cons (ds_set 8 (de_ix (DE.dp (de_lst (da_cons (de_tup (da_cons (de_neg (DE.dp de_int)) (da_cons de_int da_nil))) (da_cons (de_tup (da_cons de_int (da_cons de_int da_nil))) (da_cons (de_tup (da_cons de_int (da_cons de_int da_nil))) (da_cons (de_tup (da_cons (de_neg (DE.dp de_int)) (da_cons de_int da_nil))) (da_cons (de_tup (da_cons (de_neg (DE.dp de_int)) (da_cons de_int da_nil))) (da_cons (de_tup (da_cons de_int (da_cons de_int da_nil))) (da_cons (de_tup (da_cons de_int (da_cons de_int da_nil))) (da_cons (de_tup (da_cons (de_neg (DE.dp de_int)) (da_cons de_int da_nil))) da_nil)))))))))) (DE.dp (de_mod (DE.dp (de_call DLmix hr (da_cons (de_var 2) (da_cons de_int da_nil)))) (DE.dp de_int)))) sc.nd)
    (dss_cons (ds_frz 8 (ds_setI 7 (de_lc (N':= ["_law_by","_law_x"]) (R':=PR K) cx_scope1 cx_names1 [some 8,none] (subE [some 8,none]) pr_sub (di_list (de_ix (dp_var 0) (dp_var 4))) (fun _=>(dgk_name 1 (show List.Nodup (α:=Str) ["_law_by","_law_x"] by decide +kernel))) (fun _=>dts_nil) (fun _=>(de_call DLtimes hr (da_cons (de_var 0) (da_cons (de_var 1) da_nil))))) (dp_var 4)))
    (dss_one (ds_frz 7 (ds_frz 8 (ds_ret (de_tup (da_cons (de_var 7) (da_cons (de_call DLtimes hr (da_cons (de_var 8) (da_cons (de_var 1) da_nil))) da_nil))))))))) dss_nil)
    (dss_cons (ds_if (dt_eq hr.units (dp_var 6) (DE.dp de_int)) (dss_cons (ds_setI 7 (de_ix (dp_var 0) (dp_var 5)) (dp_var 4))
    (dss_cons (ds_setI 7 (de_ix (dp_var 0) (dp_var 4)) (dp_var 5))
    (dss_one (ds_frz 7 (ds_ret (de_tup (da_cons (de_var 7) (da_cons (de_tup (da_cons (de_neg (DE.dp (de_ix (dp_var 1) (DE.dp de_int)))) (da_cons (de_ix (dp_var 1) (DE.dp de_int)) da_nil))) da_nil)))))))) dss_nil)
    (dss_cons (ds_set 8 (de_tup (da_cons (de_sub (DE.dp (de_mod (DE.dp (de_call DLmix hr (da_cons (de_var 2) (da_cons de_int da_nil)))) (DE.dp de_int))) (DE.dp de_int)) (da_cons de_int da_nil))) sc.nd)
    (dss_cons (ds_frz 8 (ds_setI 7 (de_lc (N':= ["_law_by","_law_x","_law_y"]) (R':=PR K) cx_scope1 cx_names1 [some 8,none,none] (subE [some 8,none,none]) pr_sub (di_zip B.zip (da_cons (de_ix (dp_var 0) (dp_var 4)) (da_cons (de_ix (dp_var 0) (dp_var 5)) da_nil))) (fun _=>(dgk_tup (dgks_cons (dgk_name 1 (show List.Nodup (α:=Str) ["_law_by","_law_x","_law_y"] by decide +kernel)) (dgks_cons (dgk_name 2 (show List.Nodup (α:=Str) ["_law_by","_law_x","_law_y"] by decide +kernel)) dgks_nil)))) (fun _=>dts_nil) (fun _=>(de_call DLplus hr (da_cons (de_var 1) (da_cons (de_call DLtimes hr (da_cons (de_var 0) (da_cons (de_var 2) da_nil))) da_nil))))) (dp_var 4)))
    (dss_one (ds_frz 7 (ds_ret (de_tup (da_cons (de_var 7) (da_cons (de_var 1) da_nil)))))))))))))))
noncomputable def bLunit : En -> Option Out :=
    (mRet (mLC (subE [some 0,none]) (mRng1 (mConsP (mPk 0) mNilP)) (gVar 1) mYes (mLC (subE [some 1,none]) (mRng1 (mConsP (mPk 0) mNilP)) (gVar 1) mYes (mTup (mCons (mCallP dInt (mConsP (mBin deq (mPk 0) (mPk 1)) mNilP)) (mCons (mK (.int 1)) mNil))))))
noncomputable def mLunit:List PyData->Option Sl:=runD 1 bLunit 1
theorem okLunit (B:Bl mg) (F:Fun K "_law_unit" "_law_unit" sLunit f fd):FnOk P w K mg base CX0 1 f fd ["_law_size"] (spD K mLunit):=by
  have sc:=scLunit
  exact fnD F scLunit rfl rfl fun cdv A outer s H E hr=>
    (dss_one (ds_ret (de_lc (N':= ["_law_size","_law_i"]) (R':=PR K) cx_scope1 cx_names1 [some 0,none] (subE [some 0,none]) pr_sub (di_range1 B.range (dq_cons (dp_var 0) dq_nil)) (fun _=>(dgk_name 1 (show List.Nodup (α:=Str) ["_law_size","_law_i"] by decide +kernel))) (fun _=>dts_nil) (fun _=>(de_lc (N':= ["_law_i","_law_j"]) (R':=PR K) cxC_scope cxC_names [some 1,none] (subE [some 1,none]) pr_sub (di_range1 B.range (dq_cons (dp_var 0) dq_nil)) (fun _=>(dgk_name 1 (show List.Nodup (α:=Str) ["_law_i","_law_j"] by decide +kernel))) (fun _=>dts_nil) (fun _=>(de_tup (da_cons (de_ty call_int1 cd_int bt_int B.int (dq_cons (DE.dp (de_eq hr.units (dp_var 0) (dp_var 1))) dq_nil)) (da_cons de_int da_nil)))))))))
noncomputable def bLdot : En -> Option Out :=
    (mSeq (mAsg 2 (mTup (mCons (mK (.int 0)) (mCons (mK (.int 1)) mNil))))
    (mSeq (mFor (mZip (mCons (mVar 0) (mCons (mVar 1) mNil))) (gTupD [(gVar 3),(gVar 4)]) (mFrz 2 (mAsg 2 (mCall mLplus (mCons (mVar 2) (mCons (mCall mLtimes (mCons (mVar 3) (mCons (mVar 4) mNil))) mNil))))))
    (mRet (mPk 2))))
noncomputable def mLdot:List PyData->Option Sl:=runD 5 bLdot 2
theorem okLdot (B:Bl mg) (DLplus:Def P w K mg base 3 "_law_plus" ["_law_one","_law_other"] (spD K mLplus)) (DLtimes:Def P w K mg base 3 "_law_times" ["_law_one","_law_other"] (spD K mLtimes)) (F:Fun K "_law_dot" "_law_dot" sLdot f fd):FnOk P w K mg base CX0 4 f fd ["_law_one","_law_other"] (spD K mLdot):=by
  have sc:=scLdot
  exact fnD F scLdot rfl rfl fun cdv A outer s H E hr=>
    (dss_cons (ds_set 2 (de_tup (da_cons de_int (da_cons de_int da_nil))) sc.nd)
    (dss_cons (ds_for PassesOwn.never (di_zip B.zip (da_cons (de_var 0) (da_cons (de_var 1) da_nil))) (dg_tup (dgs_cons (dg_name 3 sc.nd) (dgs_cons (dg_name 4 sc.nd) dgs_nil))) (dss_one (ds_frz 2 (ds_set 2 (de_call DLplus hr (da_cons (de_var 2) (da_cons (de_call DLtimes hr (da_cons (de_var 3) (da_cons (de_var 4) da_nil))) da_nil))) sc.nd))))
    (dss_one (ds_retV 2))))
noncomputable def bLtold : En -> Option Out :=
    (mSeq (mAsg 3 (mLC (subE [none]) (mItems (mVar 0)) (gVar 0) mYes (mCallP dList (mConsP (mPk 0) mNilP))))
    (mSeq (mAsg 4 (mCallP dLen (mConsP (mPk 0) mNilP)))
    (mSeq (mIf (mOr (mTest (mBin dne (mCall m_determinant (mCons (mVar 0) mNil)) (mPk 1))) (mOr (mTest (mBin dne (mBin dLt (mCall m_rank (mCons (mVar 0) mNil)) (mPk 4)) (mBin deq (mPk 1) (mTup (mCons (mK (.int 0)) (mCons (mK (.int 1)) mNil)))))) (mTest (mBin dne (mPk 0) (mPk 3))))) (mRet (mK (.bool false))) mNext)
    (mSeq (mIf (mTest (mBin deq (mPk 1) (mTup (mCons (mK (.int 0)) (mCons (mK (.int 1)) mNil))))) (mRet (mK (.bool true))) mNext)
    (mSeq (mFrz 4 (mIf (mTest (mBin dne (mCall m_reduced (mCons (mVar 0) mNil)) (mCall mLunit (mCons (mVar 4) mNil)))) (mRet (mK (.bool false))) mNext))
    (mSeq (mFrz 4 (mAsg 5 (mBin dix (mCall mLunit (mCons (mVar 4) mNil)) (mBin dMod (mPk 2) (mPk 4)))))
    (mSeq (mFrz 5 (mAsgT (gTupD [(gVar 6),(gVar 7)]) (mCall m_solved (mCons (mVar 0) (mCons (mVar 5) mNil)))))
    (mSeq (mIf (mOr (mTest (mBin dne (mPk 6) (mK (.str "found")))) (mTest (mBin dne (mLC (subE [some 7,none]) (mItems (mVar 0)) (gVar 1) mYes (mCall mLdot (mCons (mVar 1) (mCons (mVar 0) mNil)))) (mPk 5)))) (mRet (mK (.bool false))) mNext)
    (mRet (mBin deq (mPk 0) (mPk 3)))))))))))
noncomputable def mLtold:List PyData->Option Sl:=runD 8 bLtold 3
theorem okLtold (B:Bl mg) (D_rank:Def P w K mg base 6 "rank" ["table"] (spD K m_rank)) (D_determinant:Def P w K mg base 6 "determinant" ["table"] (spD K m_determinant)) (D_reduced:Def P w K mg base 6 "reduced" ["table"] (spD K m_reduced)) (DLunit:Def P w K mg base 1 "_law_unit" ["_law_size"] (spD K mLunit)) (D_solved:Def P w K mg base 8 "solved" ["table","column"] (spD K m_solved)) (DLdot:Def P w K mg base 4 "_law_dot" ["_law_one","_law_other"] (spD K mLdot)) (F:Fun K "_law_told" "_law_told" sLtold f fd):FnOk P w K mg base CX0 9 f fd ["_law_table","_law_due","_law_k"] (spD K mLtold):=by
  have sc:=scLtold
  exact fnD F scLtold rfl rfl fun cdv A outer s H E hr=>
    (dss_cons (ds_setC (N':= ["_law_row"]) (R':=PR K) cx_scope1 cx_names1 3 [none] (subE [none]) pr_sub sc.nd (di_list (de_var 0)) (fun _=>(dgk_name 0 (show List.Nodup (α:=Str) ["_law_row"] by decide +kernel))) (fun _=>dts_nil) (fun _=>(de_ty call_list_of cd_list bt_list B.list (dq_cons (dp_var 0) dq_nil))))
    (dss_cons (ds_set 4 (de_blt call_len_seq cd_len bt_len B.len (dq_cons (dp_var 0) dq_nil)) sc.nd)
    (dss_cons (ds_if (dt_w (dw_or (dt_ne hr.units (DE.dp (de_call D_determinant hr (da_cons (de_var 0) da_nil))) (dp_var 1)) (dw_or (dt_ne hr.units (DE.dp (de_lt (DE.dp (de_call D_rank hr (da_cons (de_var 0) da_nil))) (dp_var 4))) (DE.dp (de_eq hr.units (dp_var 1) (DE.dp (de_tup (da_cons de_int (da_cons de_int da_nil))))))) (dw_or1 (dt_ne hr.units (dp_var 0) (dp_var 3)))))) (dss_one (ds_ret de_bool)) dss_nil)
    (dss_cons (ds_if (dt_eq hr.units (dp_var 1) (DE.dp (de_tup (da_cons de_int (da_cons de_int da_nil))))) (dss_one (ds_ret de_bool)) dss_nil)
    (dss_cons (ds_frz 4 (ds_if (dt_ne hr.units (DE.dp (de_call D_reduced hr (da_cons (de_var 0) da_nil))) (DE.dp (de_call DLunit hr (da_cons (de_var 4) da_nil)))) (dss_one (ds_ret de_bool)) dss_nil))
    (dss_cons (ds_frz 4 (ds_set 5 (de_ix (DE.dp (de_call DLunit hr (da_cons (de_var 4) da_nil))) (DE.dp (de_mod (dp_var 2) (dp_var 4)))) sc.nd))
    (dss_cons (ds_frz 5 (ds_asgT (de_call D_solved hr (da_cons (de_var 0) (da_cons (de_var 5) da_nil))) (dg_tup (dgs_cons (dg_name 6 sc.nd) (dgs_cons (dg_name 7 sc.nd) dgs_nil)))))
    (dss_cons (ds_if (dt_w (dw_or (dt_ne hr.units (dp_var 6) (DE.dp de_str)) (dw_or1 (dt_ne hr.units (DE.dp (de_lc (N':= ["_law_found","_law_row"]) (R':=PR K) cx_scope1 cx_names1 [some 7,none] (subE [some 7,none]) pr_sub (di_list (de_var 0)) (fun _=>(dgk_name 1 (show List.Nodup (α:=Str) ["_law_found","_law_row"] by decide +kernel))) (fun _=>dts_nil) (fun _=>(de_call DLdot hr (da_cons (de_var 1) (da_cons (de_var 0) da_nil)))))) (dp_var 5))))) (dss_one (ds_ret de_bool)) dss_nil)
    (dss_one (ds_ret (de_eq hr.units (dp_var 0) (dp_var 3))))))))))))
noncomputable def bLfirst : En -> Option Out :=
    (mSeq (mAsg 1 (mTup (mCons (mK (.int 1)) (mCons (mK (.int 1)) mNil))))
    (mSeq (mFor (mRng1 (mConsP (mCallP dLen (mConsP (mPk 0) mNilP)) mNilP)) (gVar 2) (mFrz 1 (mAsg 1 (mCall mLtimes (mCons (mVar 1) (mCons (mBin dix (mBin dix (mPk 0) (mPk 2)) (mPk 2)) mNil))))))
    (mRet (mPk 1))))
noncomputable def mLfirst:List PyData->Option Sl:=runD 3 bLfirst 1
theorem okLfirst (B:Bl mg) (DLtimes:Def P w K mg base 3 "_law_times" ["_law_one","_law_other"] (spD K mLtimes)) (F:Fun K "_law_first" "_law_first" sLfirst f fd):FnOk P w K mg base CX0 4 f fd ["_law_table"] (spD K mLfirst):=by
  have sc:=scLfirst
  exact fnD F scLfirst rfl rfl fun cdv A outer s H E hr=>
    (dss_cons (ds_set 1 (de_tup (da_cons de_int (da_cons de_int da_nil))) sc.nd)
    (dss_cons (ds_for PassesOwn.never (di_range1 B.range (dq_cons (DE.dp (de_blt call_len_seq cd_len bt_len B.len (dq_cons (dp_var 0) dq_nil))) dq_nil)) (dg_name 2 sc.nd) (dss_one (ds_frz 1 (ds_set 1 (de_call DLtimes hr (da_cons (de_var 1) (da_cons (de_ix (DE.dp (de_ix (dp_var 0) (dp_var 2))) (dp_var 2)) da_nil))) sc.nd))))
    (dss_one (ds_retV 1))))
noncomputable def b_law : En -> Option Out :=
    (mSeq (mAsg 1 (mBin dAdd (mSl (mPk 0) mNoPart (mPart (mK (.int 63)))) (mLst (mCons (mK (.int 0)) mNil))))
    (mSeq (mAsg 2 (mCallP dSum (mConsP (mPk 1) mNilP)))
    (mSeq (mFrz 2 (mFrz 1 (mAsg 3 (mOwnW (mCallW mLbegun (mCons (mVar 1) (mCons (mVar 2) mNil)))))))
    (mSeq (mFrz 3 (mAsg 4 (mCall mLfirst (mCons (mVar 3) mNil))))
    (mSeq (mFor (mRng1 (mConsP (mCallP dLen (mConsP (mPk 1) mNilP)) mNilP)) (gVar 5) (mSeq (mFrz 3 (mFrz 4 (mAsgT (gTupD [(gVar 3),(gVar 4)]) (mCall mLturned (mCons (mVar 3) (mCons (mVar 4) (mCons (mBin dAdd (mBin dix (mPk 1) (mPk 5)) (mBin dMod (mPk 5) (mK (.int 2)))) mNil)))))))
    (mIf (mOr (mTest (mBin deq (mBin dMod (mPk 5) (mK (.int 16))) (mK (.int 15)))) (mTest (mBin deq (mPk 5) (mBin dSub (mCallP dLen (mConsP (mPk 1) mNilP)) (mK (.int 1)))))) (mSeq (mFrz 3 (mFrz 4 (mIf (mNot (mTest (mCall mLtold (mCons (mLC (subE [none]) (mItems (mVar 3)) (gVar 0) mYes (mCallP dList (mConsP (mPk 0) mNilP))) (mCons (mVar 4) (mCons (mBin dAdd (mPk 5) (mPk 2)) mNil)))))) (mRet (mK (.bool false))) mNext)))
    (mSeq (mFrz 1 (mAsg 3 (mOwnW (mCallW mLbegun (mCons (mVar 1) (mCons (mBin dAdd (mPk 2) (mPk 5)) mNil))))))
    (mFrz 3 (mAsg 4 (mCall mLfirst (mCons (mVar 3) mNil)))))) mNext)))
    (mRet (mK (.bool true))))))))
noncomputable def m_law:List PyData->Option Sl:=runD 6 b_law 1
theorem ok_law (B:Bl mg) (DLbegun:Def P w K mg base 4 "_law_begun" ["_law_cells","_law_total"] (spW K mLbegun)) (DLfirst:Def P w K mg base 4 "_law_first" ["_law_table"] (spD K mLfirst)) (DLturned:Def P w K mg base 4 "_law_turned" ["_law_table","_law_due","_law_cell"] (spD K mLturned)) (DLtold:Def P w K mg base 9 "_law_told" ["_law_table","_law_due","_law_k"] (spD K mLtold)) (F:Fun K "law" "law" s_law f fd):FnOk P w K mg base CX0 10 f fd ["_law_script"] (spD K m_law):=by
  have sc:=sc_law
  exact fnD F sc_law rfl rfl fun cdv A outer s H E hr=>
    (dss_cons (ds_set 1 (de_add (DE.dp (de_sl (dp_var 0) do_none (do_some (DE.dp de_int)))) (DE.dp (de_lst (da_cons de_int da_nil)))) sc.nd)
    (dss_cons (ds_set 2 (de_blt (call_sum rfl) cd_sum bt_sum B.sum (dq_cons (dp_var 1) dq_nil)) sc.nd)
    (dss_cons (ds_frz 2 (ds_frz 1 (ds_set 3 (de_ofW (dew_call DLbegun hr (da_cons (de_var 1) (da_cons (de_var 2) da_nil)))) sc.nd)))
    (dss_cons (ds_frz 3 (ds_set 4 (de_call DLfirst hr (da_cons (de_var 3) da_nil)) sc.nd))
    (dss_cons (ds_for PassesOwn.never (di_range1 B.range (dq_cons (DE.dp (de_blt call_len_seq cd_len bt_len B.len (dq_cons (dp_var 1) dq_nil))) dq_nil)) (dg_name 5 sc.nd) (dss_cons (ds_frz 3 (ds_frz 4 (ds_asgT (de_call DLturned hr (da_cons (de_var 3) (da_cons (de_var 4) (da_cons (de_add (DE.dp (de_ix (dp_var 1) (dp_var 5))) (DE.dp (de_mod (dp_var 5) (DE.dp de_int)))) da_nil)))) (dg_tup (dgs_cons (dg_name 3 sc.nd) (dgs_cons (dg_name 4 sc.nd) dgs_nil))))))
    (dss_one (ds_if (dt_w (dw_or (dt_eq hr.units (DE.dp (de_mod (dp_var 5) (DE.dp de_int))) (DE.dp de_int)) (dw_or1 (dt_eq hr.units (dp_var 5) (DE.dp (de_sub (DE.dp (de_blt call_len_seq cd_len bt_len B.len (dq_cons (dp_var 1) dq_nil))) (DE.dp de_int))))))) (dss_cons (ds_frz 3 (ds_frz 4 (ds_if (dt_not (dt_val (DE.dp (de_call DLtold hr (da_cons (de_lc (N':= ["_law_row"]) (R':=PR K) cx_scope1 cx_names1 [none] (subE [none]) pr_sub (di_list (de_var 3)) (fun _=>(dgk_name 0 (show List.Nodup (α:=Str) ["_law_row"] by decide +kernel))) (fun _=>dts_nil) (fun _=>(de_ty call_list_of cd_list bt_list B.list (dq_cons (dp_var 0) dq_nil)))) (da_cons (de_var 4) (da_cons (de_add (dp_var 5) (dp_var 2)) da_nil))))))) (dss_one (ds_ret de_bool)) dss_nil)))
    (dss_cons (ds_frz 1 (ds_set 3 (de_ofW (dew_call DLbegun hr (da_cons (de_var 1) (da_cons (de_add (dp_var 2) (dp_var 5)) da_nil)))) sc.nd))
    (dss_one (ds_frz 3 (ds_set 4 (de_call DLfirst hr (da_cons (de_var 3) da_nil)) sc.nd))))) dss_nil))))
    (dss_one (ds_ret de_bool)))))))
end
local macro_rules | `(tactic| walk_at "ev") => `(tactic| simp only [mSeq, mIf, mTest, mBin, mUn, mK, mPk, mVar, mAsg, mRet, mRetN, mCall, mCons, mNil, mCallP, mConsP, mNilP, mTup, mLst, mOr, mAnd, mNot, mNotV, mAndV, mOrV, mIfE, mNext, mBrk, mCt, mDrop, mApp, mSet, mFrz, frz1, mPar, mAsgT, gVar, gTupD, gsAll, mItems, mItemsT, mSl, mPart, mNoPart, mDat, Sl.dat, mYes, mIsi, tyD, isiD, iop, icmp, iun, dAddI, dSub, dAdd, dLt, dLe, dGt, dGe, deq, dne, disN, disNN, isNone, dix, dLen, dAbs, dList, dTuple, dInt, dSl, Option.bind_some, Option.map_some, Option.join_some, Option.some.injEq, List.getElem?_cons_zero, List.getElem?_cons_succ, List.set_cons_zero, List.set_cons_succ, List.length_cons, List.length_nil, eqD_int, List.cons_append, List.nil_append, List.append_nil, List.map_cons, List.map_nil, if_true, if_false, Bool.false_eq_true, reduceIte, reduceCtorEq, Bool.not_true, Bool.not_false, decide_true, decide_false])
theorem run_gd(a b:Int):m_greatest_divisor [.int a, .int b]=some (.val (.int (Int.gcd a b))):=by
  refine runD_rt (ρ:= [some (.val (.int a)),some (.val (.int b)),none]) rfl rfl ?_
  unfold b_greatest_divisor
  obtain ⟨ρ',h1,⟨x,y,r,rfl,hg⟩,h3⟩:=while_inv (c:=mTest (mBin dne (mPk 1) (mK (.int 0)))) (b:=(mSeq (mAsg 2 (mBin dMod (mPk 0) (mPk 1))) (mSeq (mAsg 0 (mVar 1)) (mFrz 2 (mAsg 1 (mVar 2))))))
    (ρ:= [some (.val (.int a)),some (.val (.int b)),none]) (fun ρ=>∃x y r,ρ = [some (.val (.int x)),some (.val (.int y)),r]/\Int.gcd x y=Int.gcd a b)
    (fun ρ=>match ρ with | [_,some (.val (.int y)),_]=>y.natAbs | _=>0) ⟨a,b,none,rfl,rfl⟩ (by
      rintro ρ ⟨x,y,r,rfl,hg⟩
      by_cases hy:y=0
      . left
        walk_at "ev"
        simp [hy]
      . right
        refine ⟨by walk_at "ev";simp [hy],_,by walk_at "ev";rw [modS hy];walk_at "ev";rfl,⟨_,_,_,rfl,(gcd_fmod x y).trans hg⟩,fmod_lt hy⟩)
  refine rts_seq h1 (rts_ret ?_)
  have hy:y=0:=by
    revert h3
    walk_at "ev"
    simp
  subst hy
  walk_at "ev"
  congr 3
  rw [<-hg,Int.gcd_zero_right]
  split <;> omega
theorem run_frac{a b:Int}(hb:b≠0)(hB:Bt 9000 b):m_fraction [.int a, .int b]=some (.val (encF (fr a b))):=by
  refine runD_rt (ρ:= [some (.val (.int a)),some (.val (.int b)),none]) rfl rfl ?_
  unfold b_fraction
  have hs:=sg_ne (a:=a) hb
  have hS:=sg_bt (a:=a) hb hB
  refine rts_seq (asg_to (call_to (by walk_at "ev") (run_gd a b))) ?_
  refine rts_seq (ρ':= [some (.val (.int a)),some (.val (.int b)),some (.val (.int (sg a b)))]) ?_ ?_
  . walk_at "ev"
    unfold sg
    by_cases h:b<0 <;> simp [h]
  . refine rts_ret ?_
    walk_at "ev"
    rw [divS ⟨hs,hS⟩,divS ⟨hs,hS⟩]
    walk_at "ev"
    rfl
theorem cmL{i j:Int}(h1 : -(2 ^ 64)<i)(h2:i<2 ^ 64):CMulA i j:= .inl (.inl ⟨h1,h2⟩)
theorem cmR{i j:Int}(h1 : -(2 ^ 64)<j)(h2:j<2 ^ 64):CMulA i j:= .inl (.inr ⟨h1,h2⟩)
theorem run_lgd(a b:Int):mLdivisor [.int a, .int b]=some (.val (.int (Int.gcd a b))):=by
  refine runD_rt (ρ:= [some (.val (.int a)),some (.val (.int b))]) rfl rfl ?_
  unfold bLdivisor
  obtain ⟨ρ',h1,⟨x,y,rfl,hg⟩,h3⟩:=while_inv (c:=mTest (mBin dne (mPk 1) (mK (.int 0)))) (b:=(mPar 0 1 (mCons (mVar 1) (mCons (mBin dMod (mPk 0) (mPk 1)) mNil))))
    (ρ:= [some (.val (.int a)),some (.val (.int b))]) (fun ρ=>∃x y,ρ = [some (.val (.int x)),some (.val (.int y))]/\Int.gcd x y=Int.gcd a b)
    (fun ρ=>match ρ with | [_,some (.val (.int y))]=>y.natAbs | _=>0) ⟨a,b,rfl,rfl⟩ (by
      rintro ρ ⟨x,y,rfl,hg⟩
      by_cases hy:y=0
      . left
        walk_at "ev"
        simp [hy]
      . right
        refine ⟨by walk_at "ev";simp [hy],_,by walk_at "ev";rw [modS hy];walk_at "ev",⟨_,_,rfl,(gcd_fmod x y).trans hg⟩,fmod_lt hy⟩)
  refine rts_seq h1 (rts_ret ?_)
  have hy:y=0:=by
    revert h3
    walk_at "ev"
    simp
  subst hy
  walk_at "ev"
  congr 3
  rw [<-hg,Int.gcd_zero_right]
  split <;> omega
theorem run_lfrac{a b:Int}(hb:0<b)(hB:Bt 9000 b):mLfraction [.int a, .int b]=some (.val (encF (fr a b))):=by
  refine runD_rt (ρ:= [some (.val (.int a)),some (.val (.int b)),none]) rfl rfl ?_
  unfold bLfraction
  have hs:=sg_ne (a:=a) (show b≠0 by omega)
  have hS:=sg_bt (a:=a) (show b≠0 by omega) hB
  have e:((Int.gcd a b:Nat):Int)=sg a b:=by unfold sg;rw [if_neg (by omega)]
  refine rts_seq (asg_to (call_to (by walk_at "ev") (run_lgd a b))) (rts_ret ?_)
  rw [e]
  walk_at "ev"
  rw [divS ⟨hs,hS⟩,divS ⟨hs,hS⟩]
  walk_at "ev"
  rfl
theorem run_mix(c:Int){j:Int}(h0:0<=j)(h1:j<1000000):∃v,mLmix [.int c, .int j]=some (.val (.int v))/\0<=v/\v<2147483648:=by
  by_cases hc:c.fmod 2=1
  . refine ⟨(c / 2 ^ (1+10*j).toNat).fmod 1024,runD_rt (ρ:= [some (.val (.int c)),some (.val (.int j)),none]) rfl rfl ?_,Int.fmod_nonneg_of_pos _ (by decide),?_⟩
    . unfold bLmix
      refine rts_seqR (rts_if (b:=true) ?_ (rts_ret ?_))
      . walk_at "ev"
        rw [modS (by decide)]
        walk_at "ev"
        simp [hc]
      . walk_at "ev"
        rw [mulS (cmL (by decide) (by decide))]
        walk_at "ev"
        rw [shrS (by omega)]
        walk_at "ev"
        rw [modS (by decide)]
    . have:=Int.fmod_lt_of_pos (c / 2 ^ (1+10*j).toNat) (show (0:Int)<1024 by decide)
      omega
  . have n1:=fun x:Int=>Int.fmod_nonneg_of_pos x (show (0:Int)<2147483629 by decide)
    have n2:=fun x:Int=>Int.fmod_lt_of_pos x (show (0:Int)<2147483629 by decide)
    let w1:=(c*(2*j+3)+j).fmod 2147483629
    let w2:=((w1*w1+1)*48271).fmod 2147483629
    refine ⟨(w2*w2).fmod 2147483587,runD_rt (ρ:= [some (.val (.int c)),some (.val (.int j)),none]) rfl rfl ?_,Int.fmod_nonneg_of_pos _ (by decide),?_⟩
    . unfold bLmix
      refine rts_seq (ρ':= [some (.val (.int c)),some (.val (.int j)),none]) (if_to (b:=false) ?_ ?_) ?_
      . walk_at "ev"
        rw [modS (by decide)]
        walk_at "ev"
        simp [hc]
      . walk_at "ev"
      refine rts_seq (asg_to (r:= .val (.int w1)) ?_) ?_
      . walk_at "ev"
        rw [mulS (cmL (by decide) (by decide))]
        walk_at "ev"
        rw [mulS (cmR (by omega) (by omega))]
        walk_at "ev"
        rw [modS (by decide)]
      have a1:=n1 (c*(2*j+3)+j)
      have a2:=n2 (c*(2*j+3)+j)
      refine rts_seq (asg_to (r:= .val (.int w2)) ?_) ?_
      . walk_at "ev"
        rw [mulS (cmL (by show _<w1;omega) (by show w1<_;omega))]
        walk_at "ev"
        rw [mulS (cmR (by decide) (by decide))]
        walk_at "ev"
        rw [modS (by decide)]
      have b1:=n1 ((w1*w1+1)*48271)
      have b2:=n2 ((w1*w1+1)*48271)
      refine rts_ret ?_
      walk_at "ev"
      rw [mulS (cmL (by show _<w2;omega) (by show w2<_;omega))]
      walk_at "ev"
      rw [modS (by decide)]
    . have:=Int.fmod_lt_of_pos (w2*w2) (show (0:Int)<2147483587 by decide)
      omega
open Ba in
def rowD(m:Nat)(r:Nat->Int):PyData:= .list ((List.range m).map fun j=> .int (r j))
def matD(n m:Nat)(R:Ba.Mx):List PyData:=(List.range n).map fun i=>rowD m (R i)
def ldD(k:Nat)(L:Nat->Nat):List PyData:=(List.range k).map fun t=> .int (L t)
def flds(n m:Nat)(R:Ba.Mx)(k:Nat)(L:Nat->Nat)(last:Int):En:= [some (.own (matD n m R)),some (.own (ldD k L)),some (.val (.int last))]
theorem atI_range{α:Type}{f:Nat->α}{n i:Nat}(h:i<n):atI ((List.range n).map f) (i:Int)=some (f i):=L2.atI_nat (by rw [List.getElem?_map,List.getElem?_range h];rfl)
theorem atI_mat{n m i:Nat}{R:Ba.Mx}(h:i<n):atI (matD n m R) (i:Int)=some (rowD m (R i)):=atI_range h
theorem len_mat{n m:Nat}{R:Ba.Mx}:(matD n m R).length=n:=by simp [matD]
theorem len_ld{k:Nat}{L:Nat->Nat}:(ldD k L).length=k:=by simp [ldD]
theorem set_range{α:Type}{f:Nat->α}{n k:Nat}{x:α}:((List.range n).map f).set k x=(List.range n).map fun i=>if i=k then x else f i:=by
  refine List.ext_getElem? fun i=> ?_
  rw [List.getElem?_set,List.getElem?_map,List.getElem?_map]
  by_cases hi:i<n
  . rw [List.getElem?_range hi]
    by_cases e:k=i
    . subst e;simp [hi]
    . simp [e,Ne.symm e]
  . rw [List.getElem?_eq_none (l:=List.range n) (by simpa using hi)]
    split
    . rename_i e;subst e;simp [hi]
    . rfl
theorem mat_set{n m k:Nat}{R:Ba.Mx}{r:Nat->Int}:(matD n m R).set k (rowD m r)=matD n m (Ba.setR R k r):=by
  unfold matD
  rw [set_range]
  refine List.map_congr_left fun i _=> ?_
  unfold Ba.setR
  split <;> rfl
def stP(n m k c:Nat)(R:Ba.Mx)(L:Nat->Nat)(last:Int)(z:Option Sl):En:= [none,some (.val (.int k)),some (.val (.int c)),z,some (.own (matD n m R)),some (.own (ldD k L)),some (.val (.int last))]
theorem place_rg{n m k c:Nat}{R:Ba.Mx}{L:Nat->Nat}{last:Int}(hk:k<=n)(hn:n<=1000):mRng2 (mConsP (mPk 1) (mConsP (mCallP dLen (mConsP (mPk 4) mNilP)) mNilP)) (stP n m k c R L last none)=some (rngD k (n - k)):=by
  refine rng2_to ?_ (by omega) hn
  unfold stP
  walk_at "ev"
  rw [len_mat]
theorem place_test{n m k c i:Nat}{R:Ba.Mx}{L:Nat->Nat}{last:Int}(hi:i<n)(hc:c<m):(mTest (mBin dne (mBin dix (mBin dix (mPk 4) (mPk 3)) (mPk 2)) (mK (.int 0)))) (stP n m k c R L last (some (.val (.int (i:Int)))))=some (!decide (R i c=0)):=by
  unfold stP
  walk_at "ev"
  rw [atI_mat hi]
  simp only [rowD,Option.map_some,Option.bind_some,Sl.dat,atI_range hc,eqD_int]
theorem run_place {n m k c : Nat} {R : Ba.Mx} {L : Nat -> Nat} {last : Int} (hk : k <= n) (hc : c < m) (hn : n <= 1000) :
    (∃p,k<=p/\p<n/\R p c≠0/\mS_place_of_lead (flds n m R k L last) [.int k, .int c]=some (flds n m R k L last, .int p)) \/
    ((∀i,k<=i->i<n->R i c=0)/\mS_place_of_lead (flds n m R k L last) [.int k, .int c]=some (flds n m R k L last, .none)):=by
  have key:=forM_find (fg:=gVar 3) (gb:=mIf (mTest (mBin dne (mBin dix (mBin dix (mPk 4) (mPk 3)) (mPk 2)) (mK (.int 0)))) (mRet (mPk 3)) mNext) (lo:=k) (n:=n - k) (ρ:=stP n m k c R L last none)
    (fun i ρ=>(∃z,ρ=stP n m k c R L last z)/\∀t,t<i->R (k+t) c=0) (fun o=>∃p z,k<=p/\p<n/\R p c≠0/\o = .rt (.val (.int (p:Nat))) (stP n m k c R L last z)) ⟨⟨none,rfl⟩,fun t h=>absurd h (by omega)⟩ (by
      rintro i ρ hi ⟨⟨z,rfl⟩,hz⟩
      refine ⟨stP n m k c R L last (some (.val (.int ((k:Int)+(i:Nat))))),rfl,?_⟩
      have e:(k:Int)+(i:Nat)=((k+i:Nat):Int):=by omega
      rw [e]
      have test:=place_test (k:=k) (i:=k+i) (R:=R) (L:=L) (last:=last) (show k+i<n by omega) hc
      by_cases h:R (k+i) c=0
      . left
        refine ⟨stP n m k c R L last (some (.val (.int ((k+i:Nat):Int)))),if_to (b:=false) (by rw [test];simp [h]) (by rfl),⟨_,rfl⟩,fun t ht=> ?_⟩
        by_cases e2:t=i
        . subst e2;exact h
        . exact hz t (by omega)
      . right
        exact ⟨.val (.int ((k+i:Nat):Int)),stP n m k c R L last (some (.val (.int ((k+i:Nat):Int)))),if_to (b:=true) (by rw [test];simp [h]) (by rfl),k+i,_,by omega,by omega,h,rfl⟩)
  rcases key with ⟨ρ',h1,⟨z,rfl⟩,h2⟩ | ⟨o,h1,p,z,hp,hpn,hr,rfl⟩
  . right
    refine ⟨fun i h3 h4=>by have:=h2 (i - k) (by omega);rwa [show k+(i - k)=i by omega] at this,?_⟩
    exact runM_rt (ρ:=stP n m k c R L last none) (ρ':=stP n m k c R L last z) rfl rfl rfl (seq_to (for_to (place_rg hk hn) h1) (ret_to rfl))
  . left
    refine ⟨p,hp,hpn,hr,?_⟩
    exact runM_rt (ρ:=stP n m k c R L last none) (ρ':=stP n m k c R L last z) rfl rfl rfl (seq_rt (for_to (place_rg hk hn) h1))
theorem dix_mat{n m i:Nat}{R:Ba.Mx}(h:i<n):dix (.own (matD n m R)) (.val (.int (i:Int)))=some (.val (rowD m (R i))):=by
  show (atI (matD n m R) (i:Int)).map Sl.val=_
  rw [atI_mat h]
  rfl
theorem dix_row{m j:Nat}{r:Nat->Int}(h:j<m):dix (.val (rowD m r)) (.val (.int (j:Int)))=some (.val (.int (r j))):=by
  show (atI ((List.range m).map fun j=>PyData.int (r j)) (j:Int)).map Sl.val=_
  rw [atI_range h]
  rfl
theorem ixN_nat{n k:Nat}(h:k<n):ixN n (k:Int)=some k:=by
  unfold ixN
  rw [if_pos (by omega),if_pos (by omega)]
  simp
theorem run_exch {n m k p t : Nat} {R : Ba.Mx} {L : Nat -> Nat} {last : Int} (hk : k < n) (hp : p < n) (hm : m <= 1000) :
    mS_exchange (flds n m R t L last) [.int k, .int p]=some (flds n m (if p=k then R else Ba.exch R k p) t L last, .none):=by
  by_cases e:p=k
  . subst e
    rw [if_pos rfl]
    refine runM_rt (ρ:= [none,some (.val (.int (p:Nat))),some (.val (.int (p:Nat))),none,some (.own (matD n m R)),some (.own (ldD t L)),some (.val (.int last))]) (ρ':= [none,some (.val (.int (p:Nat))),some (.val (.int (p:Nat))),none,some (.own (matD n m R)),some (.own (ldD t L)),some (.val (.int last))]) rfl rfl rfl ?_
    unfold bS_exchange
    refine seq_rt (if_to (b:=true) ?_ rfl)
    walk_at "ev"
  . rw [if_neg e]
    refine runM_nx (ρ:= [none,some (.val (.int (k:Nat))),some (.val (.int (p:Nat))),none,some (.own (matD n m R)),some (.own (ldD t L)),some (.val (.int last))]) (ρ':= [none,some (.val (.int (k:Nat))),some (.val (.int (p:Nat))),some (.val (rowD m fun j=> - R k j)),some (.own (matD n m (Ba.exch R k p))),some (.own (ldD t L)),some (.val (.int last))]) rfl rfl rfl ?_
    unfold bS_exchange
    refine seq_to (if_to (b:=false) ?_ rfl) ?_
    . walk_at "ev"
      have:¬((p:Int)=(k:Int)):=by omega
      simp [this]
    refine seq_to (asg_to (lc_to (ds:=(List.range m).map fun j=> .int (R k j)) (es:=(List.range m).map fun j=> .int (- R k j)) ?_ ?_ ?_)) ?_
    . simp only [mItems,mBin,mPk,List.getElem?_cons_zero,List.getElem?_cons_succ,Option.join_some,Option.bind_some,dix_mat hk]
      rfl
    . rw [List.length_map,List.length_range]
      have:1000<sizeLine:=by decide
      omega
    . refine compM_map fun j _=> ?_
      rfl
    refine seq_to (ρ':= [none,some (.val (.int (k:Nat))),some (.val (.int (p:Nat))),some (.own ((List.range m).map fun j=> .int (- R k j))),some (.own (matD n m (Ba.setR R k (R p)))),some (.own (ldD t L)),some (.val (.int last))]) ?_ ?_
    . simp only [mSet,mBin,mPk,List.set_cons_succ,List.set_cons_zero,List.getElem?_cons_zero,List.getElem?_cons_succ,Option.join_some,Option.bind_some,dix_mat hp,len_mat,ixN_nat hk,Option.map_some,Sl.dat,mat_set]
    . simp only [mFrz,frz1,mSet,mVar,mPk,List.set_cons_succ,List.set_cons_zero,List.getElem?_cons_zero,List.getElem?_cons_succ,Option.join_some,Option.bind_some,len_mat,ixN_nat hp,Option.map_some,Sl.dat]
      show some (Out.nx [none,some (.val (.int (k:Nat))),some (.val (.int (p:Nat))),some (.val (rowD m fun j=> - R k j)),some (.own ((matD n m (Ba.setR R k (R p))).set p (rowD m fun j=> - R k j))),some (.own (ldD t L)),some (.val (.int last))])=_
      rw [mat_set]
      rfl
theorem zip_range{m:Nat}{f g:Nat->PyData}:zipD ((List.range m).map f) ((List.range m).map g)=(List.range m).map fun j=> .tuple [f j,g j]:=by
  unfold zipD
  refine List.ext_getElem? fun i=> ?_
  rw [List.getElem?_zipWith,List.getElem?_map,List.getElem?_map,List.getElem?_map]
  cases h:(List.range m)[i]? <;> rfl
theorem run_cleared {m c : Nat} {r l : Nat -> Int} {last : Int} (hc : c < m) (hm : m <= 1000) (hr : ∀ j, j < m -> Bt 4000 (r j)) (hl : ∀ j, j < m -> Bt 4000 (l j)) (h0 : last ≠ 0) (hB : Bt 9000 last) :
    m_cleared_row [rowD m r,rowD m l, .int c, .int last]=some (.own ((List.range m).map fun j=> .int ((l c*r j - r c*l j).fdiv last))):=by
  have M:∀ {i j:Int},Bt 4000 i->Bt 4000 j->CMulA i j:=fun h k=> .inr (cmulC h k rfl)
  refine runD_rt (ρ:= [some (.val (rowD m r)),some (.val (rowD m l)),some (.val (.int (c:Nat))),some (.val (.int last)),none,none]) rfl rfl ?_
  unfold b_cleared_row
  refine rts_seq (asg_to (r:= .val (.int (l c))) ?_) ?_
  . simp only [mBin,mPk,List.getElem?_cons_zero,List.getElem?_cons_succ,Option.join_some,Option.bind_some,dix_row hc]
  refine rts_seq (asg_to (r:= .val (.int (r c))) ?_) ?_
  . simp only [mBin,mPk,List.set_cons_succ,List.set_cons_zero,List.getElem?_cons_zero,List.getElem?_cons_succ,Option.join_some,Option.bind_some,dix_row hc]
  refine rts_ret (lc_to (ds:=(List.range m).map fun j=> .tuple [.int (r j), .int (l j)]) ?_ ?_ ?_)
  . rw [<-zip_range]
    rfl
  . rw [List.length_map,List.length_range]
    have:1000<sizeLine:=by decide
    omega
  . refine compM_map fun j hj=> ?_
    have hj:=List.mem_range.mp hj
    show elM _ _ _ [some (.val (.int (l c))),some (.val (.int (r c))),some (.val (.int last)),none,none] _=_
    unfold elM
    walk_at "ev"
    rw [mulS (M (hl c hc) (hr j hj)),mulS (M (hr c hc) (hl j hj))]
    walk_at "ev"
    rw [divS ⟨h0,hB⟩]
    walk_at "ev"
theorem cut_from{f:Nat->PyData}{n k:Nat}(h:k<=n):cutD ((List.range n).map f) (some (k:Int)) none=(List.range (n - k)).map fun i=>f (k+i):=by
  unfold cutD
  rw [HT.sIx_none,HT.sIx_nat,List.length_map,List.length_range,Nat.min_eq_left h]
  refine List.ext_getElem? fun i=> ?_
  rw [List.getElem?_take,List.getElem?_drop,List.getElem?_map,List.getElem?_map]
  by_cases hi:i<n - k
  . rw [if_pos hi,List.getElem?_range hi,List.getElem?_range (show k+i<n by omega)]
    rfl
  . rw [if_neg hi,List.getElem?_eq_none (l:=List.range (n - k)) (by simpa using hi)]
    rfl
theorem cut_upto{f:Nat->PyData}{n k:Nat}(h:k<=n):cutD ((List.range n).map f) none (some (k:Int))=(List.range k).map f:=by
  unfold cutD
  rw [HT.sIx_none,HT.sIx_nat,List.length_map,List.length_range,Nat.min_eq_left h,List.drop_zero,Nat.sub_zero]
  refine List.ext_getElem? fun i=> ?_
  rw [List.getElem?_take,List.getElem?_map,List.getElem?_map]
  by_cases hi:i<k
  . rw [if_pos hi,List.getElem?_range hi,List.getElem?_range (show i<n by omega)]
  . rw [if_neg hi,List.getElem?_eq_none (l:=List.range k) (by simpa using hi)]
    rfl
theorem range_app{f g:Nat->PyData}{n k:Nat}(h:k<=n):(List.range k).map f++(List.range (n - k)).map (fun i=>g (k+i))=(List.range n).map fun i=>if i<k then f i else g i:=by
  refine List.ext_getElem? fun i=> ?_
  rw [List.getElem?_map]
  by_cases hi:i<k
  . rw [List.getElem?_append_left (by simpa using hi),List.getElem?_map,List.getElem?_range hi,List.getElem?_range (show i<n by omega)]
    simp [hi]
  . rw [List.getElem?_append_right (by simpa using hi),List.getElem?_map,List.length_map,List.length_range]
    by_cases h2:i<n
    . rw [List.getElem?_range h2,List.getElem?_range (show i - k<n - k by omega)]
      simp only [Option.map_some,if_neg hi,show k+(i - k)=i by omega]
    . rw [List.getElem?_eq_none (l:=List.range (n - k)) (by simp;omega),List.getElem?_eq_none (l:=List.range n) (by simp;omega)]
      rfl
theorem ld_snoc{k c:Nat}{L:Nat->Nat}:ldD k L ++ [.int (c:Int)]=ldD (k+1) (fun t=>if t=k then c else L t):=by
  unfold ldD
  rw [List.range_succ,List.map_append]
  congr 1
  . refine List.map_congr_left fun t ht=> ?_
    have:=List.mem_range.mp ht
    show _=PyData.int ((if t=k then c else L t:Nat):Int)
    rw [if_neg (by omega)]
  . simp
theorem bt_of{x:Int}{Y n:Nat}(h:x.natAbs<=(32*Y) ^ n)(hY:(32*Y) ^ n<2 ^ 4000):Bt 4000 x:=Nat.lt_of_le_of_lt h hY
def stepR(R:Ba.Mx)(k c:Nat)(last:Int):Ba.Mx:=fun i j=>if i<k+1 then R i j else (Ba.clr R k c i j).fdiv last
theorem run_step {n m Y k c : Nat} {A R B : Ba.Mx} {L : Nat -> Nat} {last : Int} (I : Ba.BI n m A R k L last c B) (hc : c < m) (hn : n <= 32) (hm : m <= 1000) (hY1 : 1 <= Y) (hY : (32 * Y) ^ n < 2 ^ 4000) (hA : ∀ i, i < n -> ∀ j, j < m -> (A i j).natAbs <= Y) :
    ∃R' k' L' last' B',Ba.BI n m A R' k' L' last' (c+1) B'/\mS_step_down (flds n m R k L last) [.int c]=some (flds n m R' k' L' last', .none):=by
  have sl:3000<sizeLine:=by decide
  rcases run_place (L:=L) (last:=last) (R:=R) I.kn hc (show n<=1000 by omega) with ⟨p,hkp,hpn,hR,pl⟩ | ⟨hz,pl⟩
  . have hk:k<n:=by omega
    obtain ⟨R1,hR1,B1,I1,hl⟩:∃R1,R1=(if p=k then R else Ba.exch R k p)/\∃B1,Ba.BI n m A R1 k L last c B1/\R1 k c≠0:=by
      by_cases e:p=k
      . subst e;exact ⟨R,by rw [if_pos rfl],B,I,hR⟩
      . exact ⟨Ba.exch R k p,by rw [if_neg e],_,I.exch (by omega) hpn,by rw [Ba.exch_r (Ne.symm e)];exact hR⟩
    have ex:=run_exch (t:=k) (R:=R) (L:=L) (last:=last) hk hpn hm
    rw [<-hR1] at ex
    obtain ⟨bR,bl⟩:=I1.bound hn hY1 hA
    have BR:∀i,i<n->∀j,j<m->Bt 4000 (R1 i j):=fun i hi j hj=>bt_of (bR i hi j hj) hY
    have Bl:Bt 9000 last:=(bt_of bl hY).mono (by decide)
    have st2:Ba.BI n m A (stepR R1 k c last) (k+1) (fun t=>if t=k then c else L t) (R1 k c) (c+1) B1:=by
      refine I1.step hc hk hl (fun i hi j hj=> ?_) (fun i h1 h2 j hj=> ?_)
      . unfold stepR;rw [if_pos (by omega)]
      . unfold stepR
        rw [if_neg (by omega)]
        have:=(I1.exact hc hk hl h1 h2).2 j hj
        rw [this]
        rw [Int.mul_fdiv_cancel_left _ I1.nz]
    refine ⟨stepR R1 k c last,k+1,fun t=>if t=k then c else L t,R1 k c,B1,st2,?_⟩
    have mat2:(List.range (k+1)).map (fun i=>rowD m (R1 i))++(List.range (n - (k+1))).map (fun i=>rowD m fun j=>(Ba.clr R1 k c (k+1+i) j).fdiv last)=matD n m (stepR R1 k c last):=by
      rw [range_app (g:=fun i=>rowD m fun j=>(Ba.clr R1 k c i j).fdiv last) (show k+1<=n by omega)]
      unfold matD
      refine List.map_congr_left fun i _=> ?_
      by_cases hi:i<k+1
      . rw [if_pos hi];unfold stepR rowD;simp only [if_pos hi]
      . rw [if_neg hi];unfold stepR rowD;simp only [if_neg hi]
    refine runM_nx (ρ:= [none,some (.val (.int (c:Nat))),none,none,none,none,some (.own (matD n m R)),some (.own (ldD k L)),some (.val (.int last))])
      (ρ':= [none,some (.val (.int (c:Nat))),some (.val (.int (k:Nat))),some (.val (.int (p:Nat))),some (.val (rowD m (R1 k))),some (.own ((List.range (n - (k+1))).map fun i=>rowD m fun j=>(Ba.clr R1 k c (k+1+i) j).fdiv last)),some (.own (matD n m (stepR R1 k c last))),some (.own (ldD (k+1) (fun t=>if t=k then c else L t))),some (.val (.int (R1 k c)))]) rfl rfl rfl ?_
    unfold bS_step_down
    refine seq_to (ρ':= [none,some (.val (.int (c:Nat))),some (.val (.int (k:Nat))),none,none,none,some (.own (matD n m R)),some (.own (ldD k L)),some (.val (.int last))]) ?_ ?_
    . walk_at "ev"
      rw [len_ld]
    refine seq_to (ρ':= [none,some (.val (.int (c:Nat))),some (.val (.int (k:Nat))),some (.val (.int (p:Nat))),none,none,some (.own (matD n m R)),some (.own (ldD k L)),some (.val (.int last))]) ?_ ?_
    . show mMeth 6 _ _ _ [none,some (.val (.int (c:Nat))),some (.val (.int (k:Nat))),none,none,none,some (.own (matD n m R)),some (.own (ldD k L)),some (.val (.int last))]=_
      unfold mMeth
      walk_at "ev"
      show Option.bind (mS_place_of_lead (flds n m R k L last) [.int (k:Nat), .int (c:Nat)]) _=_
      rw [pl]
      rfl
    refine seq_to (if_to (b:=false) (by walk_at "ev") rfl) ?_
    refine seq_to (ρ':= [none,some (.val (.int (c:Nat))),some (.val (.int (k:Nat))),some (.val (.int (p:Nat))),none,none,some (.own (matD n m R1)),some (.own (ldD k L)),some (.val (.int last))]) ?_ ?_
    . simp only [mFrz,frz1,List.getElem?_cons_zero,List.getElem?_cons_succ,Option.join_some]
      unfold mMeth
      walk_at "ev"
      show Option.bind (mS_exchange (flds n m R k L last) [.int (k:Nat), .int (p:Nat)]) _=_
      rw [ex]
      rfl
    refine seq_to (asg_to (r:= .val (rowD m (R1 k))) ?_) ?_
    . simp only [mBin,mPk,List.getElem?_cons_zero,List.getElem?_cons_succ,Option.join_some,Option.bind_some,dix_mat hk]
    refine seq_to (ρ':= [none,some (.val (.int (c:Nat))),some (.val (.int (k:Nat))),some (.val (.int (p:Nat))),some (.val (rowD m (R1 k))),some (.own ((List.range (n - (k+1))).map fun i=>rowD m fun j=>(Ba.clr R1 k c (k+1+i) j).fdiv last)),some (.own (matD n m R1)),some (.own (ldD k L)),some (.val (.int last))]) ?_ ?_
    . show mAsg 5 _ [none,some (.val (.int (c:Nat))),some (.val (.int (k:Nat))),some (.val (.int (p:Nat))),some (.val (rowD m (R1 k))),none,some (.own (matD n m R1)),some (.own (ldD k L)),some (.val (.int last))]=_
      refine asg_to (lc_to (ds:=(List.range (n - (k+1))).map fun i=>rowD m (R1 (k+1+i))) ?_ ?_ ?_)
      . walk_at "ev"
        rw [show ((k:Int)+1)=((k+1:Nat):Int) from rfl]
        unfold matD
        rw [cut_from (f:=fun i=>rowD m (R1 i)) (by omega)]
      . rw [List.length_map,List.length_range];omega
      . refine compM_map fun i hi=> ?_
        have hi:=List.mem_range.mp hi
        show elM _ _ _ [some (.val (rowD m (R1 k))),some (.val (.int (c:Nat))),none,none,some (.own (matD n m R1)),some (.own (ldD k L)),some (.val (.int last))] _=_
        unfold elM
        walk_at "ev"
        rw [run_cleared hc hm (fun j hj=>BR _ (by omega) j hj) (fun j hj=>BR k hk j hj) I1.nz Bl]
        rfl
    refine seq_to (asg_to (r:= .own (matD n m (stepR R1 k c last))) ?_) ?_
    . walk_at "ev"
      rw [show ((k:Int)+1)=((k+1:Nat):Int) from rfl]
      show (if ((cutD (matD n m R1) none (some ((k+1:Nat):Int))).length+_)<=_ then some (Sl.own (cutD (matD n m R1) none (some ((k+1:Nat):Int))++_)) else none)=_
      have c2:cutD (matD n m R1) none (some ((k+1:Nat):Int))=(List.range (k+1)).map fun i=>rowD m (R1 i):=cut_upto (by omega)
      rw [c2,mat2,if_pos]
      rw [List.length_map,List.length_map,List.length_range,List.length_range]
      omega
    refine seq_to (ρ':= [none,some (.val (.int (c:Nat))),some (.val (.int (k:Nat))),some (.val (.int (p:Nat))),some (.val (rowD m (R1 k))),some (.own ((List.range (n - (k+1))).map fun i=>rowD m fun j=>(Ba.clr R1 k c (k+1+i) j).fdiv last)),some (.own (matD n m (stepR R1 k c last))),some (.own (ldD (k+1) (fun t=>if t=k then c else L t))),some (.val (.int last))]) ?_ ?_
    . walk_at "ev"
      rw [if_pos (by rw [len_ld];omega),ld_snoc]
    . refine asg_to ?_
      simp only [mBin,mPk,List.getElem?_cons_zero,List.getElem?_cons_succ,Option.join_some,Option.bind_some,dix_row hc]
  . refine ⟨R,k,L,last,B,I.none hc hz,?_⟩
    refine runM_rt (ρ:= [none,some (.val (.int (c:Nat))),none,none,none,none,some (.own (matD n m R)),some (.own (ldD k L)),some (.val (.int last))])
      (ρ':= [none,some (.val (.int (c:Nat))),some (.val (.int (k:Nat))),some (.val .none),none,none,some (.own (matD n m R)),some (.own (ldD k L)),some (.val (.int last))]) rfl rfl rfl ?_
    unfold bS_step_down
    refine seq_to (ρ':= [none,some (.val (.int (c:Nat))),some (.val (.int (k:Nat))),none,none,none,some (.own (matD n m R)),some (.own (ldD k L)),some (.val (.int last))]) ?_ ?_
    . walk_at "ev"
      rw [len_ld]
    refine seq_to (ρ':= [none,some (.val (.int (c:Nat))),some (.val (.int (k:Nat))),some (.val .none),none,none,some (.own (matD n m R)),some (.own (ldD k L)),some (.val (.int last))]) ?_ ?_
    . show mMeth 6 _ _ _ [none,some (.val (.int (c:Nat))),some (.val (.int (k:Nat))),none,none,none,some (.own (matD n m R)),some (.own (ldD k L)),some (.val (.int last))]=_
      unfold mMeth
      walk_at "ev"
      show Option.bind (mS_place_of_lead (flds n m R k L last) [.int (k:Nat), .int (c:Nat)]) _=_
      rw [pl]
      rfl
    exact seq_rt (if_to (b:=true) (by walk_at "ev") rfl)
theorem run_init {n m Y : Nat} {A : Ba.Mx} (h1 : 1 <= n) (hn : n <= 32) (hm : m <= 1000) (hY1 : 1 <= Y) (hY : (32 * Y) ^ n < 2 ^ 4000) (hA : ∀ i, i < n -> ∀ j, j < m -> (A i j).natAbs <= Y) :
    ∃R k L last B,Ba.BI n m A R k L last m B/\mS___init__ [none,none,none] [.list (matD n m A)]=some (flds n m R k L last, .none):=by
  obtain ⟨ρ',hf,z,R,k,L,last,B,rfl,I⟩:=forM_range (fg:=gVar 2) (gb:=mMeth 3 mS_step_down (mCons (mVar 2) mNil) fun ρ _=>some (.nx ρ)) (lo:=0) (n:=m)
    (ρ:= [none,some (.val (.list (matD n m A))),none,some (.own (matD n m A)),some (.own (ldD 0 fun _=>0)),some (.val (.int 1))])
    (fun c ρ=>∃z R k L last B,ρ = [none,some (.val (.list (matD n m A))),z,some (.own (matD n m R)),some (.own (ldD k L)),some (.val (.int last))]/\Ba.BI n m A R k L last c B)
    ⟨none,A,0,fun _=>0,1,A,rfl,Ba.BI.start A⟩ (by
      rintro c ρ hc ⟨z,R,k,L,last,B,rfl,I⟩
      obtain ⟨R',k',L',last',B',I',hs⟩:=run_step I hc hn hm hY1 hY hA
      refine ⟨_,rfl,[none,some (.val (.list (matD n m A))),some (.val (.int (c:Nat))),some (.own (matD n m R')),some (.own (ldD k' L')),some (.val (.int last'))], .inl ?_,_,R',k',L',last',B',rfl,I'⟩
      rw [show (0:Int)+(c:Nat)=((c:Nat):Int) from Int.zero_add _]
      unfold mMeth
      walk_at "ev"
      show Option.bind (mS_step_down (flds n m R k L last) [.int (c:Nat)]) _=_
      rw [hs]
      rfl)
  refine ⟨R,k,L,last,B,I,?_⟩
  refine runM_nx (ρ:= [none,some (.val (.list (matD n m A))),none,none,none,none]) (ρ':= [none,some (.val (.list (matD n m A))),z,some (.own (matD n m R)),some (.own (ldD k L)),some (.val (.int last))]) rfl rfl rfl ?_
  unfold bS___init__
  refine seq_to (asg_to (r:= .own (matD n m A)) rfl) (seq_to (asg_to (r:= .own []) rfl) (seq_to (asg_to (r:= .val (.int 1)) rfl) (for_to (rng1_to (j:=m) ?_ hm) hf)))
  show mConsP (mCallP dLen (mConsP (mBin dix (mPk 1) (mK (.int 0))) mNilP)) mNilP [none,some (.val (.list (matD n m A))),none,some (.own (matD n m A)),some (.own []),some (.val (.int 1))]=_
  have e:dix (.val (.list (matD n m A))) (.val (.int 0))=some (.val (rowD m (A 0))):=by
    show (atI (matD n m A) ((0:Nat):Int)).map Sl.val=_
    rw [atI_mat (by omega)]
    rfl
  simp only [mConsP,mNilP,mCallP,mBin,mPk,mK,List.getElem?_cons_zero,List.getElem?_cons_succ,Option.join_some,Option.bind_some,e,dLen,Sl.dat,rowD,List.length_map,List.length_range]
abbrev Tb:=Nat->Nat->Int×Int
def frD(m:Nat)(r:Nat->Int×Int):PyData:= .list ((List.range m).map fun j=>encF (r j))
def tabD(n m:Nat)(t:Tb):PyData:= .list ((List.range n).map fun i=>frD m (t i))
def cbN(r:Nat->Int×Int):Nat->Int
  | 0=>1
  | j+1=>(cbN r j).fdiv (Int.gcd (cbN r j) (r j).2)*(r j).2
theorem cb_all{r:Nat->Int×Int}{D:Nat}:∀ {m:Nat},(∀j,j<m->0<(r j).2/\(r j).2.natAbs<=D)->0<cbN r m/\(cbN r m).natAbs<=D ^ m/\∀j,j<m->(r j).2 ∣ cbN r m
  | 0,_=>⟨show (0:Int)<1 by decide,by simp [cbN],fun j h=>absurd h (by omega)⟩
  | m+1,h=>by
    obtain ⟨h1,h2,h3⟩:=cb_all (m:=m) fun j hj=>h j (by omega)
    obtain ⟨h4,h5⟩:=h m (by omega)
    have hg:0<Int.gcd (cbN r m) (r m).2:=Int.gcd_pos_iff.mpr (.inl (by omega))
    have hd1:=Int.gcd_dvd_left (cbN r m) (r m).2
    have hd2:=Int.gcd_dvd_right (cbN r m) (r m).2
    have e0:cbN r (m+1)=(cbN r m).fdiv (Int.gcd (cbN r m) (r m).2)*(r m).2:=rfl
    generalize Int.gcd (cbN r m) (r m).2=g at *
    generalize cbN r m=c at *
    obtain ⟨x,rfl⟩:=hd1
    obtain ⟨y,hy⟩:=hd2
    have gp:(0:Int)<(g:Int):=by omega
    have e:cbN r (m+1)=x*(r m).2:=by rw [e0,Int.mul_fdiv_cancel_left _ (by omega)]
    have xp:0<x:=by
      rcases (by omega:0<x\/x<=0) with p | p
      . exact p
      . have:=Int.mul_nonpos_of_nonneg_of_nonpos (Int.le_of_lt gp) p
        omega
    have xle:x.natAbs<=((g:Int)*x).natAbs:=by
      rw [Int.natAbs_mul]
      exact Nat.le_mul_of_pos_left _ (by omega)
    refine ⟨by rw [e];exact Int.mul_pos xp h4,?_,fun j hj=> ?_⟩
    . rw [e,Int.natAbs_mul,Nat.pow_succ]
      exact Nat.mul_le_mul (Nat.le_trans xle h2) h5
    . rw [e]
      by_cases q:j=m
      . subst q;exact Int.dvd_mul_left _ _
      . have a:=h3 j (by omega)
        have b:(g:Int)*x ∣ x*(r m).2:=by
          rw [hy]
          exact ⟨y,by rw [Int.mul_comm (g:Int) x,Int.mul_assoc]⟩
        exact Int.dvd_trans a b
def whN(m:Nat)(r:Nat->Int×Int)(j:Nat):Int:=(r j).1*(cbN r m).fdiv (r j).2
theorem dix_fr{m j:Nat}{r:Nat->Int×Int}(h:j<m):dix (.val (frD m r)) (.val (.int (j:Int)))=some (.val (encF (r j))):=by
  show (atI ((List.range m).map fun j=>encF (r j)) (j:Int)).map Sl.val=_
  rw [atI_range h]
  rfl
theorem dix_f0(q:Int×Int):dix (.val (encF q)) (.val (.int 0))=some (.val (.int q.1)):=rfl
theorem dix_f1(q:Int×Int):dix (.val (encF q)) (.val (.int 1))=some (.val (.int q.2)):=rfl
theorem run_cb{m D:Nat}{r:Nat->Int×Int}(h:∀j,j<m->0<(r j).2/\(r j).2.natAbs<=D)(hD:D ^ m<2 ^ 4000)(hD1:1<=D)(hD2:D<2 ^ 4000):m_common_bottom [frD m r]=some (.val (.int (cbN r m))):=by
  obtain ⟨ρ',hf,z,rfl⟩:=forM_list (fg:=gVar 2) (gb:=(mFrz 1 (mAsg 1 (mBin dRep (mBin dFdiv (mPk 1) (mCall m_greatest_divisor (mCons (mVar 1) (mCons (mBin dix (mPk 2) (mK (.int 1))) mNil)))) (mBin dix (mPk 2) (mK (.int 1)))))))
    (ds:=(List.range m).map fun j=>encF (r j)) (ρ:= [some (.val (frD m r)),some (.val (.int 1)),none]) (fun i ρ=>∃z,ρ = [some (.val (frD m r)),some (.val (.int (cbN r i))),z]) ⟨none,rfl⟩ (by
      rintro i d ρ hd ⟨z,rfl⟩
      rw [List.getElem?_map] at hd
      by_cases hi:i<m
      . rw [List.getElem?_range hi] at hd
        cases hd
        obtain ⟨c1,c2,c3⟩:=cb_all (r:=r) (D:=D) (m:=i) fun j hj=>h j (by omega)
        obtain ⟨h4,h5⟩:=h i hi
        have b1:Bt 4000 (cbN r i):=Nat.lt_of_le_of_lt (Nat.le_trans c2 (Nat.pow_le_pow_right hD1 (by omega))) hD
        have b2:Bt 4000 (r i).2:=Nat.lt_of_le_of_lt h5 hD2
        have hg:0<Int.gcd (cbN r i) (r i).2:=Int.gcd_pos_iff.mpr (.inl (by omega))
        have b3:Bt 4000 ((Int.gcd (cbN r i) (r i).2:Nat):Int):=by
          refine b2.of_le ?_
          have:=Int.natAbs_dvd_natAbs.mpr (Int.gcd_dvd_right (cbN r i) (r i).2)
          exact Nat.le_of_dvd (by omega) (by simpa using this)
        refine ⟨_,rfl,[some (.val (frD m r)),some (.val (.int (cbN r (i+1)))),some (.val (encF (r i)))], .inl ?_,_,rfl⟩
        simp only [mFrz,frz1,mAsg,mBin,mPk,mVar,mK,mCall,mCons,mNil,List.set_cons_succ,List.set_cons_zero,List.getElem?_cons_zero,List.getElem?_cons_succ,Option.join_some,Option.bind_some,dix_f1,Sl.dat,run_gd]
        rw [divS ⟨by omega,b3.mono (by decide)⟩]
        simp only [Option.bind_some]
        rw [mulS (.inr (cmulC (n:=4000) (m:=4000) b1.fdiv b2 rfl))]
        rfl
      . rw [List.getElem?_eq_none (l:=List.range m) (by simpa using hi)] at hd;cases hd)
  rw [List.length_map,List.length_range] at hf
  refine runD_rt (ρ:= [some (.val (frD m r)),none,none]) rfl rfl ?_
  unfold b_common_bottom
  refine rts_seq (asg_to (r:= .val (.int 1)) rfl) (rts_seq (for_to (ds:=(List.range m).map fun j=>encF (r j)) rfl hf) (rts_ret rfl))
theorem run_wr{m D:Nat}{r:Nat->Int×Int}(h:∀j,j<m->0<(r j).2/\(r j).2.natAbs<=D)(hT:∀j,j<m->Bt 4000 (r j).1)(hm:m<=1000)(hD:D ^ m<2 ^ 4000)(hD1:1<=D)(hD2:D<2 ^ 4000):m_whole_row [frD m r]=some (.own ((List.range m).map fun j=> .int (whN m r j))):=by
  obtain ⟨c1,c2,c3⟩:=cb_all (r:=r) (D:=D) (m:=m) h
  refine runD_rt (ρ:= [some (.val (frD m r)),none]) rfl rfl ?_
  unfold b_whole_row
  refine rts_seq (asg_to (call_to (ds:= [frD m r]) rfl (run_cb h hD hD1 hD2))) (rts_ret (lc_to (ds:=(List.range m).map fun j=>encF (r j)) rfl ?_ ?_))
  . rw [List.length_map,List.length_range]
    have:1000<sizeLine:=by decide
    omega
  . refine compM_map fun j hj=> ?_
    have hj:=List.mem_range.mp hj
    show elM _ _ _ [some (.val (.int (cbN r m))),none] _=_
    unfold elM
    obtain ⟨h4,h5⟩:=h j hj
    have b1:Bt 4000 (cbN r m):=Nat.lt_of_le_of_lt c2 hD
    have b2:Bt 4000 (r j).2:=Nat.lt_of_le_of_lt h5 hD2
    simp only [gVar,mYes,mBin,mPk,mK,List.set_cons_succ,List.set_cons_zero,List.getElem?_cons_zero,List.getElem?_cons_succ,Option.join_some,Option.bind_some,dix_f0,dix_f1]
    rw [divS ⟨by omega,b2.mono (by decide)⟩]
    simp only [Option.bind_some]
    rw [mulS (.inr (cmulC (n:=4000) (m:=4000) (hT j hj) b1.fdiv rfl))]
    rfl
theorem fdiv_abs{a b:Int}(hb:0<b):(a.fdiv b).natAbs<=a.natAbs:=by
  rw [Int.fdiv_eq_ediv_of_nonneg a (Int.le_of_lt hb)]
  exact Int.natAbs_ediv_le_natAbs a b
def W(m:Nat)(t:Tb):Ba.Mx:=fun i=>whN m (t i)
structure TabOk (n m D T:Nat) (t:Tb):Prop where
  n1:1<=n
  n32:n<=32
  m1000:m<=1000
  D1:1<=D
  T1:1<=T
  bot:∀i,i<n->∀j,j<m->0<(t i j).2/\(t i j).2.natAbs<=D
  top:∀i,i<n->∀j,j<m->(t i j).1.natAbs<=T
  size:(32*(T*D ^ m)) ^ n<2 ^ 4000
theorem TabOk.TD{n m D T:Nat}{t:Tb}(k:TabOk n m D T t):T*D ^ m<2 ^ 4000:=by
  refine Nat.lt_of_le_of_lt ?_ k.size
  have p:1<=T*D ^ m:=Nat.mul_pos k.T1 (Nat.pow_pos k.D1)
  calc T*D ^ m<=32*(T*D ^ m):=by omega
    _=(32*(T*D ^ m)) ^ 1:=(Nat.pow_one _).symm
    _<=_:=Nat.pow_le_pow_right (by omega) k.n1
theorem TabOk.Dm{n m D T:Nat}{t:Tb}(k:TabOk n m D T t):D ^ m<2 ^ 4000:=Nat.lt_of_le_of_lt (Nat.le_mul_of_pos_left _ k.T1) k.TD
theorem TabOk.Tl{n m D T:Nat}{t:Tb}(k:TabOk n m D T t):T<2 ^ 4000:=Nat.lt_of_le_of_lt (Nat.le_mul_of_pos_right _ (Nat.pow_pos k.D1)) k.TD
theorem TabOk.Dl{n m D T:Nat}{t:Tb}(k:TabOk n m D T t)(hm:1<=m):D<2 ^ 4000:=by
  refine Nat.lt_of_le_of_lt ?_ k.Dm
  calc D=D ^ 1:=(Nat.pow_one _).symm
    _<=_:=Nat.pow_le_pow_right k.D1 hm
theorem TabOk.Wb{n m D T:Nat}{t:Tb}(k:TabOk n m D T t):∀i,i<n->∀j,j<m->(W m t i j).natAbs<=T*D ^ m:=by
  intro i hi j hj
  obtain ⟨c1,c2,_⟩:=cb_all (r:=t i) (D:=D) (m:=m) fun j hj=>k.bot i hi j hj
  show ((t i j).1*(cbN (t i) m).fdiv (t i j).2).natAbs<=_
  rw [Int.natAbs_mul]
  exact Nat.mul_le_mul (k.top i hi j hj) (Nat.le_trans (fdiv_abs (k.bot i hi j hj).1) c2)
theorem run_so{n m D T:Nat}{t:Tb}(k:TabOk n m D T t)(hm1:1<=m):∃R l L last B,Ba.BI n m (W m t) R l L last m B/\m_stairs_of [tabD n m t]=some (flds n m R l L last):=by
  have hY1:1<=T*D ^ m:=Nat.mul_pos k.T1 (Nat.pow_pos k.D1)
  obtain ⟨R,l,L,last,B,I,hi⟩:=run_init (A:=W m t) k.n1 k.n32 k.m1000 hY1 k.size k.Wb
  refine ⟨R,l,L,last,B,I,?_⟩
  unfold m_stairs_of runO
  rw [if_pos (show [tabD n m t].length=1 from rfl)]
  have lc:(mLC (subE [none]) (mItems (mVar 0)) (gVar 0) mYes (mCall m_whole_row (mCons (mVar 0) mNil))) [some (.val (tabD n m t))]=some (.own (matD n m (W m t))):=by
    refine lc_to (ds:=(List.range n).map fun i=>frD m (t i)) rfl ?_ ?_
    . rw [List.length_map,List.length_range]
      have:1000<sizeLine:=by decide
      have:=k.n32
      omega
    . refine compM_map fun i hi=> ?_
      have hi:=List.mem_range.mp hi
      show elM _ _ _ [none] _=_
      unfold elM
      simp only [gVar,mYes,mCall,mCons,mNil,mVar,List.set_cons_zero,List.getElem?_cons_zero,Option.join_some,Option.bind_some,Sl.dat,run_wr (k.bot i hi) (fun j hj=>Nat.lt_of_le_of_lt (k.top i hi j hj) k.Tl) k.m1000 k.Dm k.D1 (k.Dl hm1)]
      rfl
  show mMake 3 mS___init__ _ [some (.val (tabD n m t))]=_
  unfold mMake
  simp only [mCons,mNil,lc,Option.bind_some,Sl.dat]
  show Option.bind (mS___init__ [none,none,none] [.list (matD n m (W m t))]) _=_
  rw [hi]
  rfl
def prodN:Nat->(Nat->Int)->Int
  | 0,_=>1
  | n+1,f=>prodN n f*f n
theorem prod_pos{f:Nat->Int}:∀ {n:Nat},(∀i,i<n->0<f i)->0<prodN n f
  | 0,_=>show (0:Int)<1 by decide
  | n+1,h=>Int.mul_pos (prod_pos fun i hi=>h i (by omega)) (h n (by omega))
theorem prod_abs{f:Nat->Int}{X:Nat}:∀ {n:Nat},(∀i,i<n->(f i).natAbs<=X)->(prodN n f).natAbs<=X ^ n
  | 0,_=>by simp [prodN]
  | n+1,h=>by
    rw [prodN,Int.natAbs_mul,Nat.pow_succ]
    exact Nat.mul_le_mul (prod_abs fun i hi=>h i (by omega)) (h n (by omega))
theorem obj_to{n s:Nat}{fo:En->Option En}{g:En->Option Out}{ρ φ:En}{r:Sl}(hl:ρ.length=n)(h:fo ρ=some φ)(k:Rts g (ρ.set s none++φ) r):Rts (mObj n s fo g) ρ r:=by
  obtain ⟨ρ',k⟩:=k
  refine ⟨List.replicate ρ.length none,?_⟩
  unfold mObj
  rw [if_pos hl,h]
  simp only [Option.bind_some,k]
theorem run_det{n D T:Nat}{t:Tb}(k:TabOk n n D T t)(hP:(D ^ n) ^ n<2 ^ 8000):∃q:Int×Int,m_determinant [tabD n n t]=some (.val (encF q))/\0<q.2/\Int.gcd q.1 q.2=1/\q.1*prodN n (fun i=>cbN (t i) n)=Ba.det n (W n t)*q.2:=by
  obtain ⟨R,l,L,last,B,I,hs⟩:=run_so k k.n1
  have call:(mCallO m_stairs_of (mCons (mVar 0) mNil)) [some (.val (tabD n n t)),none,none,none]=some (flds n n R l L last):=by
    simp only [mCallO,mCons,mNil,mVar,List.getElem?_cons_zero,Option.join_some,Option.bind_some,Sl.dat,hs]
  have test:(mTest (mBin dLt (mCallP dLen (mConsP (mPk 5) mNilP)) (mCallP dLen (mConsP (mPk 0) mNilP)))) [some (.val (tabD n n t)),none,none,none,some (.own (matD n n R)),some (.own (ldD l L)),some (.val (.int last))]=some (decide ((l:Int)<(n:Int))):=by
    simp only [mTest,mBin,mCallP,mConsP,mNilP,mPk,List.getElem?_cons_zero,List.getElem?_cons_succ,Option.join_some,Option.bind_some,dLen,Sl.dat,tabD,len_ld,List.length_map,List.length_range,dLt,icmp]
  by_cases hl:l<n
  . refine ⟨(0,1),?_,by decide,by decide,?_⟩
    . refine runD_rt (ρ:= [some (.val (tabD n n t)),none,none,none]) rfl rfl ?_
      unfold b_determinant
      refine obj_to rfl call (rts_seqR (rts_if (b:=true) ?_ (rts_ret rfl)))
      show (mTest _) [some (.val (tabD n n t)),none,none,none,some (.own (matD n n R)),some (.own (ldD l L)),some (.val (.int last))]=_
      rw [test,decide_eq_true (by omega)]
    . rw [I.det_less hl]
      simp
  . have hln:l=n:=by have:=I.kn;omega
    subst hln
    have hdet:=I.det_full
    have cb:=fun i (hi:i<l)=>cb_all (r:=t i) (D:=D) (m:=l) fun j hj=>k.bot i hi j hj
    have hPp:0<prodN l (fun i=>cbN (t i) l):=prod_pos fun i hi=>(cb i hi).1
    have hPb:∀j,j<=l->Bt 8000 (prodN j (fun i=>cbN (t i) l)):=fun j hj=>Nat.lt_of_le_of_lt (Nat.le_trans (prod_abs (X:=D ^ l) fun i hi=>(cb i (by omega)).2.1) (Nat.pow_le_pow_right (Nat.pow_pos k.D1) hj)) hP
    refine ⟨fr (Ba.det l (W l t)) (prodN l (fun i=>cbN (t i) l)),?_,fr_pos (by omega),fr_gcd (by omega),fr_cross (by omega)⟩
    refine runD_rt (ρ:= [some (.val (tabD l l t)),none,none,none]) rfl rfl ?_
    unfold b_determinant
    refine obj_to rfl call ?_
    show Rts _ [some (.val (tabD l l t)),none,none,none,some (.own (matD l l R)),some (.own (ldD l L)),some (.val (.int last))] _
    refine rts_seq (if_to (b:=false) (by rw [test,decide_eq_false (by omega)]) rfl) (rts_seq (asg_to (r:= .val (.int 1)) rfl) ?_)
    obtain ⟨ρ',hf,z,rfl⟩:=forM_list (fg:=gVar 3) (gb:=(mAsg 2 (mBin dRep (mPk 2) (mCall m_common_bottom (mCons (mVar 3) mNil)))))
      (ds:=(List.range l).map fun i=>frD l (t i)) (ρ:= [some (.val (tabD l l t)),none,some (.val (.int 1)),none,some (.own (matD l l R)),some (.own (ldD l L)),some (.val (.int last))])
      (fun i ρ=>∃z,ρ = [some (.val (tabD l l t)),none,some (.val (.int (prodN i (fun i=>cbN (t i) l)))),z,some (.own (matD l l R)),some (.own (ldD l L)),some (.val (.int last))]) ⟨none,rfl⟩ (by
        rintro i d ρ hd ⟨z,rfl⟩
        rw [List.getElem?_map] at hd
        by_cases hi:i<l
        . rw [List.getElem?_range hi] at hd
          cases hd
          refine ⟨_,rfl,[some (.val (tabD l l t)),none,some (.val (.int (prodN (i+1) (fun i=>cbN (t i) l)))),some (.val (frD l (t i))),some (.own (matD l l R)),some (.own (ldD l L)),some (.val (.int last))], .inl ?_,_,rfl⟩
          have b1:=hPb i (by omega)
          have b2:Bt 4000 (cbN (t i) l):=Nat.lt_of_le_of_lt (cb i hi).2.1 k.Dm
          simp only [mAsg,mBin,mPk,mVar,mCall,mCons,mNil,List.set_cons_succ,List.set_cons_zero,List.getElem?_cons_zero,List.getElem?_cons_succ,Option.join_some,Option.bind_some,Sl.dat,run_cb (k.bot i hi) k.Dm k.D1 (k.Dl k.n1)]
          rw [mulS (.inr (cmulC (n:=8000) (m:=4000) b1 b2 rfl))]
          rfl
        . rw [List.getElem?_eq_none (l:=List.range l) (by simpa using hi)] at hd;cases hd)
    rw [List.length_map,List.length_range] at hf
    refine rts_seq (for_to (ds:=(List.range l).map fun i=>frD l (t i)) rfl hf) (rts_frz (rts_ret (call_to (ds:= [.int last, .int (prodN l (fun i=>cbN (t i) l))]) ?_ ?_)))
    . simp only [frz1,List.length_map,List.length_range,mCons,mNil,mVar,List.getElem?_cons_zero,List.getElem?_cons_succ,Option.join_some,Option.bind_some,Sl.dat]
    . rw [hdet]
      exact run_frac (by omega) ((hPb l (Nat.le_refl _)).mono (by decide))
theorem bin_eq{op:Sl->Sl->Option Sl}{fa fb:En->Option Sl}{ρ:En}{a b:Sl}(ha:fa ρ=some a)(hb:fb ρ=some b):mBin op fa fb ρ=op a b:=by
  unfold mBin
  rw [ha]
  show Option.bind (fb ρ) _=_
  rw [hb]
  rfl
theorem test_eq{f:En->Option Sl}{ρ:En}{b:Bool}(h:f ρ=some (.val (.bool b))):mTest f ρ=some b:=by
  unfold mTest
  rw [h]
  rfl
theorem deq_int(i j:Int):deq (.val (.int i)) (.val (.int j))=some (.val (.bool (decide (i=j)))):=by
  show (eqD (.int i) (.int j)).map _=_
  rw [eqD_int]
  rfl
theorem set_to{i j:Nat}{k:Int}{fj f:En->Option Sl}{ρ:En}{r:Sl}{ds:List PyData}(h:f ρ=some r)(ho:(ρ[i]?).join=some (.own ds))(hj:fj ρ=some (.val (.int k)))(hx:ixN ds.length k=some j):mSet i fj f ρ=some (.nx (ρ.set i (some (.own (ds.set j r.dat))))):=by
  unfold mSet
  rw [h]
  show (match (ρ[i]?).join with | some (.own ds)=>_ | _=>_)=_
  rw [ho]
  show Option.bind (fj ρ) _=_
  rw [hj]
  show (ixN ds.length k).map _=_
  rw [hx]
  rfl
theorem callP_to{F:List Sl->Option Sl}{f:En->Option (List Sl)}{ρ:En}{ss:List Sl}{r:Sl}(h:f ρ=some ss)(k:F ss=some r):mCallP F f ρ=some r:=by
  unfold mCallP
  rw [h]
  exact k
theorem cons_to{f:En->Option Sl}{g:En->Option (List PyData)}{ρ:En}{a:Sl}{as:List PyData}(h:f ρ=some a)(k:g ρ=some as):mCons f g ρ=some (a.dat::as):=by
  unfold mCons
  rw [h]
  show Option.bind (g ρ) _=_
  rw [k]
  rfl
theorem consP_to{f:En->Option Sl}{g:En->Option (List Sl)}{ρ:En}{a:Sl}{as:List Sl}(h:f ρ=some a)(k:g ρ=some as):mConsP f g ρ=some (a::as):=by
  unfold mConsP
  rw [h]
  show Option.bind (g ρ) _=_
  rw [k]
  rfl
theorem runR_rt{n m k:Nat}{g:En->Option Out}{fd ds:List PyData}{ρ:En}{r:Sl}(hl:ds.length+1=m)(hk:fd.length=k)(e:(none::ds.map (fun d=>some (Sl.val d)))++List.replicate (n - (ds.length+1)) none++fd.map (fun d=>some (Sl.val d))=ρ)(h:Rts g ρ r):runR n m k g fd ds=some r:=by
  obtain ⟨ρ',h⟩:=h
  unfold runR
  rw [if_pos ⟨hl,hk⟩,e,h]
  rfl
theorem list_sum_range(f:Nat->Int):∀n,List.sum ((List.range n).map f)=Ba.sumN n f
  | 0=>rfl
  | n+1=>by
    rw [List.range_succ,List.map_append,List.sum_append,list_sum_range f n,Ba.sumN]
    simp
theorem sum_to{f:Nat->Int}{n:Nat}:dSum [.own ((List.range n).map fun i=> .int (f i))]=some (.val (.int (Ba.sumN n f))):=by
  unfold dSum
  simp only [Sl.dat]
  have e:((List.range n).map fun i=>PyData.int (f i))=((List.range n).map f).map PyData.int:=by rw [List.map_map];rfl
  rw [e,intsOf_map,Option.map_some,list_sum_range]
theorem dix_vmat{n m i:Nat}{R:Ba.Mx}(h:i<n):dix (.val (.list (matD n m R))) (.val (.int (i:Int)))=some (.val (rowD m (R i))):=by
  unfold dix
  simp only [Sl.dat,atI_mat h,Option.map_some]
theorem dix_vld{k t:Nat}{L:Nat->Nat}(h:t<k):dix (.val (.list (ldD k L))) (.val (.int (t:Int)))=some (.val (.int (L t:Nat))):=by
  unfold dix ldD
  simp only [Sl.dat,atI_range h,Option.map_some]
theorem dix_own{k t:Nat}{f:Nat->PyData}(h:t<k):dix (.own ((List.range k).map f)) (.val (.int (t:Int)))=some (.val (f t)):=by
  unfold dix
  simp only [Sl.dat,atI_range h,Option.map_some]
theorem repl_range{α:Type}{x:α}:∀k:Nat,(List.replicate k [x]).flatten=(List.range k).map fun _=>x
  | 0=>rfl
  | k+1=>by
    rw [List.replicate_succ',List.flatten_append,repl_range k,List.range_succ,List.map_append]
    rfl
theorem rep_to{x:PyData}{k:Nat}(h:k<=200):dRep (.own [x]) (.val (.int (k:Int)))=some (.own ((List.range k).map fun _=>x)):=by
  have hs:(200:Nat)<=sizeLine:=small64
  have c : -(2 ^ 63)<=(k:Int)/\(k:Int)<2 ^ 63 /\ [x].length*(k:Int).toNat<=sizeLine:=⟨by omega,by omega,by rw [Int.toNat_natCast,List.length_singleton];omega⟩
  simp only [dRep]
  rw [if_pos c,Int.toNat_natCast,repl_range]
def numS(k s:Nat)(x:Nat->Int):List PyData:=(List.range k).map fun t=> .int (if k - s<=t then x t else 0)
def rcP(n m k j:Nat)(R:Ba.Mx)(L:Nat->Nat)(last:Int)(num:List PyData)(a b c:Option Sl):En:=
  [none,some (.val (.int j)),some (.val (.int k)),some (.own num),a,b,c,some (.val (.list (matD n m R))),some (.val (.list (ldD k L))),some (.val (.int last))]
theorem run_rc {n m k j : Nat} {A R B : Ba.Mx} {L : Nat -> Nat} {last : Int} (I : Ba.BI n m A R k L last m B) (hj : j < m) (hn : n <= 32) (hm : m <= 1000)
    (hR:∀i,i<n->∀j,j<m->Bt 4000 (R i j)) (hl:Bt 4000 last) (hx:∀t,t<k->Bt 8000 (Ba.redx B k L j t)) :
    mS_reduced_column [.list (matD n m R), .list (ldD k L), .int last] [.int (j:Int)]=some (.own ((List.range k).map fun t=> .int (Ba.redx B k L j t))):=by
  have hk:=I.kn
  have hL:∀t,t<k->L t<m:=fun t ht=>Nat.lt_of_lt_of_le (I.Lc t ht) I.cm
  refine runR_rt (ρ:= [none,some (.val (.int (j:Int))),none,none,none,none,none,some (.val (.list (matD n m R))),some (.val (.list (ldD k L))),some (.val (.int last))]) rfl rfl rfl ?_
  unfold bS_reduced_column
  refine rts_seq (asg_to (r:= .val (.int k)) ?_) ?_
  . walk_at "ev"
    rw [len_ld]
  refine rts_seq (asg_to (r:= .own (numS k 0 (Ba.redx B k L j))) ?_) ?_
  . walk_at "ev"
    have e:numS k 0 (Ba.redx B k L j)=(List.range k).map fun _=>PyData.int 0:=by
      unfold numS
      refine List.map_congr_left fun t ht=> ?_
      have:=List.mem_range.mp ht
      rw [if_neg (by omega)]
    rw [e]
    rw [if_pos (show 0+1<=sizeLine from Nat.le_trans (by decide) small64),Option.bind_some]
    refine rep_to (k:=k) ?_
    omega
  show Rts _ (rcP n m k j R L last (numS k 0 (Ba.redx B k L j)) none none none) _
  obtain ⟨ρ',hf,a,b,c,rfl⟩:=forM_list (fg:=gVar 4) (gb:=(mSeq (mAsg 5 (mBin dix (mPk 7) (mPk 4)))
    (mSeq (mAsg 6 (mCallP dSum (mConsP (mLC (subF [some 5,some 0,some 3,none] 7) (mRng2 (mConsP (mBin dAdd (mPk 4) (mK (.int 1))) (mConsP (mPk 2) mNilP))) (gVar 3) mYes (mBin dRep (mBin dix (mPk 0) (mBin dix (mPk 5) (mPk 3))) (mBin dix (mPk 2) (mPk 3)))) mNilP)))
    (mSet 3 (mPk 4) (mBin dFdiv (mBin dSub (mBin dRep (mPk 9) (mBin dix (mPk 5) (mPk 1))) (mPk 6)) (mBin dix (mPk 5) (mBin dix (mPk 8) (mPk 4))))))))
    (ds:=rngDn ((k:Int) - 1) k) (ρ:=rcP n m k j R L last (numS k 0 (Ba.redx B k L j)) none none none)
    (fun s ρ=>∃a b c,ρ=rcP n m k j R L last (numS k s (Ba.redx B k L j)) a b c) ⟨none,none,none,rfl⟩ (by
      rintro s d ρ hd ⟨a,b,c,rfl⟩
      unfold rngDn at hd
      rw [List.getElem?_map] at hd
      by_cases hs:s<k
      . rw [List.getElem?_range hs] at hd
        have hd:PyData.int ((k:Int) - 1 - (s:Nat))=d:=Option.some.inj hd
        subst hd
        obtain ⟨i,hi,hik⟩:∃i:Nat,(k:Int) - 1 - (s:Nat)=(i:Int)/\i+s+1=k:=⟨k - 1 - s,by omega,by omega⟩
        rw [hi]
        refine ⟨_,rfl,_, .inl ?_,some (.val (.int i)),some (.val (rowD m (R i))),some (.val (.int (Ba.sumN (k - (i+1)) (fun t=>R i (L (i+1+t))*Ba.redx B k L j (i+1+t))))),rfl⟩
        have hin:i<n:=by omega
        have hL':=hL i (by omega)
        refine seq_to (asg_to (r:= .val (rowD m (R i))) (bin_eq (a:= .val (.list (matD n m R))) (b:= .val (.int i)) rfl rfl |>.trans (dix_vmat hin))) ?_
        refine seq_to (asg_to (r:= .val (.int (Ba.sumN (k - (i+1)) (fun t=>R i (L (i+1+t))*Ba.redx B k L j (i+1+t))))) (callP_to (consP_to (a:= .own ((List.range (k - (i+1))).map fun t=> .int (R i (L (i+1+t))*Ba.redx B k L j (i+1+t)))) (lc_to (ds:=rngD ((i+1:Nat):Int) (k - (i+1))) ?_ ?_ ?_) rfl) sum_to)) ?_
        . refine rng2_to (i:=i+1) (j:=k) ?_ (by omega) (by omega)
          rfl
        . have:(200:Nat)<=sizeLine:=small64
          simp only [rngD,List.length_map,List.length_range];omega
        . refine compM_range fun t ht=> ?_
          show elM _ _ _ [some (.val (rowD m (R i))),none,some (.own (numS k s (Ba.redx B k L j))),none,some (.val (.list (matD n m R))),some (.val (.list (ldD k L))),some (.val (.int last))] _=_
          rw [show ((i+1:Nat):Int)+(t:Nat)=((i+1+t:Nat):Int) by omega]
          have hit:i+1+t<k:=by omega
          have hv:(mBin dRep (mBin dix (mPk 0) (mBin dix (mPk 5) (mPk 3))) (mBin dix (mPk 2) (mPk 3))) [some (.val (rowD m (R i))),none,some (.own (numS k s (Ba.redx B k L j))),some (.val (.int ((i+1+t:Nat):Int))),some (.val (.list (matD n m R))),some (.val (.list (ldD k L))),some (.val (.int last))]=some (.val (.int (R i (L (i+1+t))*Ba.redx B k L j (i+1+t)))):=by
            refine (bin_eq (a:= .val (.int (R i (L (i+1+t))))) (b:= .val (.int (Ba.redx B k L j (i+1+t)))) ?_ ?_).trans (mulS (.inr (cmulC (hR i hin _ (hL _ hit)) (hx _ hit) rfl)))
            . refine (bin_eq (a:= .val (rowD m (R i))) (b:= .val (.int (L (i+1+t):Nat))) rfl ?_).trans (dix_row (hL _ hit))
              exact (bin_eq (a:= .val (.list (ldD k L))) (b:= .val (.int ((i+1+t:Nat):Int))) rfl rfl).trans (dix_vld hit)
            . refine (bin_eq (a:= .own (numS k s (Ba.redx B k L j))) (b:= .val (.int ((i+1+t:Nat):Int))) rfl rfl).trans ?_
              unfold numS
              rw [dix_own hit,if_pos (by omega)]
          unfold elM
          simp only [gVar,mYes,List.set_cons_zero,List.set_cons_succ,Option.bind_some,if_true,hv,Option.map_some,Sl.dat]
        . refine (set_to (r:= .val (.int (Ba.redx B k L j i))) (j:=i) (k:=(i:Int)) (ds:=numS k s (Ba.redx B k L j)) ?_ rfl rfl (by rw [show (numS k s (Ba.redx B k L j)).length=k by simp [numS]];exact ixN_nat (by omega))).trans ?_
          . refine (bin_eq (a:= .val (.int (last*R i j - Ba.sumN (k - (i+1)) (fun t=>R i (L (i+1+t))*Ba.redx B k L j (i+1+t))))) (b:= .val (.int (R i (L i)))) ?_ ?_).trans ?_
            . refine (bin_eq (a:= .val (.int (last*R i j))) (b:= .val (.int (Ba.sumN (k - (i+1)) (fun t=>R i (L (i+1+t))*Ba.redx B k L j (i+1+t))))) ?_ rfl).trans rfl
              refine (bin_eq (a:= .val (.int last)) (b:= .val (.int (R i j))) rfl ?_).trans (mulS (.inr (cmulC hl (hR i hin j hj) rfl)))
              exact (bin_eq (a:= .val (rowD m (R i))) (b:= .val (.int (j:Int))) rfl rfl).trans (dix_row hj)
            . refine (bin_eq (a:= .val (rowD m (R i))) (b:= .val (.int (L i:Nat))) rfl ?_).trans (dix_row hL')
              exact (bin_eq (a:= .val (.list (ldD k L))) (b:= .val (.int (i:Int))) rfl rfl).trans (dix_vld (by omega))
            . rw [divS ⟨I.topn i (by omega),(hR i hin _ hL').mono (by decide)⟩,I.back_div (by omega) hj]
          . have e : (numS k s (Ba.redx B k L j)).set i (.int (Ba.redx B k L j i)) = numS k (s + 1) (Ba.redx B k L j) := by
              unfold numS
              rw [set_range]
              refine List.map_congr_left fun t ht=> ?_
              have ht:=List.mem_range.mp ht
              by_cases h1:t=i
              . subst h1;rw [if_pos rfl,if_pos (by omega)]
              . rw [if_neg h1]
                by_cases h2:k - s<=t
                . rw [if_pos h2,if_pos (by omega)]
                . rw [if_neg h2,if_neg (by omega)]
            simp only [Sl.dat,e]
            rfl
      . rw [List.getElem?_eq_none (l:=List.range k) (by simpa using hs)] at hd;cases hd)
  rw [show (rngDn ((k:Int) - 1) k).length=k by simp [rngDn]] at hf
  refine rts_seq (for_to (ds:=rngDn ((k:Int) - 1) k) ?_ hf) (rts_ret ?_)
  . unfold mRngD rcP
    walk_at "ev"
    show (if inB ((k:Int) - 1)/\inB (-1) then _ else _)=_
    rw [if_pos ⟨⟨by omega,by omega⟩,⟨by decide,by decide⟩⟩]
    congr 2
    omega
  . show some (Sl.own (numS k k (Ba.redx B k L j)))=_
    unfold numS
    congr 2
    exact List.map_congr_left fun t _=>by rw [if_pos (by omega)]
theorem run_fo{k:Nat}{x:Nat->Int}{b:Int}(hk:k<=200)(hb:b≠0)(hB:Bt 9000 b):m_fractions_over [.list ((List.range k).map fun t=> .int (x t)), .int b]=some (.own ((List.range k).map fun t=>encF (fr (x t) b))):=by
  refine runD_rt (ρ:= [some (.val (.list ((List.range k).map fun t=> .int (x t)))),some (.val (.int b))]) rfl rfl ?_
  unfold b_fractions_over
  refine rts_ret (lc_to (ds:=(List.range k).map fun t=> .int (x t)) rfl ?_ (compM_map fun t ht=> ?_))
  . rw [List.length_map,List.length_range]
    have:1000<sizeLine:=by decide
    omega
  . show elM _ _ _ [some (.val (.int b)),none] _=_
    unfold elM
    simp only [gVar,mYes,mCall,mCons,mNil,mVar,List.set_cons_zero,List.set_cons_succ,List.getElem?_cons_zero,List.getElem?_cons_succ,Option.join_some,Option.bind_some,Sl.dat,run_frac hb hB,if_true,Option.map_some]
theorem run_lo{n m:Nat}{f:Nat->Nat->PyData}(hn:n<=200)(hm1:1<=m)(hm:m<=1000):m_laid_over [.list ((List.range m).map fun c=> .list ((List.range n).map fun i=>f c i))]=some (.own ((List.range n).map fun i=> .list ((List.range m).map fun c=>f c i))):=by
  refine runD_rt (ρ:= [some (.val (.list ((List.range m).map fun c=> .list ((List.range n).map fun i=>f c i))))]) rfl rfl ?_
  unfold b_laid_over
  have hs:1000<sizeLine:=by decide
  refine rts_ret (lc_to (ds:=rngD 0 n) ?_ ?_ (compM_range fun i hi=> ?_))
  . refine rng1_to ?_ (by omega)
    have e:dix (.val (.list ((List.range m).map fun c=> .list ((List.range n).map fun i=>f c i)))) (.val (.int 0))=some (.val (.list ((List.range n).map fun i=>f 0 i))):=by
      unfold dix
      simp only [Sl.dat]
      rw [show (0:Int)=((0:Nat):Int) from rfl,atI_range (show 0<m by omega)]
      rfl
    refine consP_to (a:= .val (.int n)) (callP_to (consP_to (bin_eq (a:= .val (.list ((List.range m).map fun c=> .list ((List.range n).map fun i=>f c i)))) (b:= .val (.int 0)) rfl rfl |>.trans e) rfl) ?_) rfl
    simp only [dLen,Sl.dat,List.length_map,List.length_range]
  . simp only [rngD,List.length_map,List.length_range];omega
  . show elM _ _ _ [some (.val (.list ((List.range m).map fun c=> .list ((List.range n).map fun i=>f c i)))),none] _=_
    have inner:(mLC (subE [some 1,none]) (mItems (mVar 0)) (gVar 1) mYes (mBin dix (mPk 1) (mPk 0))) [some (.val (.list ((List.range m).map fun c=> .list ((List.range n).map fun i=>f c i)))),some (.val (.int (0+(i:Nat))))]=some (.own ((List.range m).map fun c=>f c i)):=by
      refine lc_to (ds:=(List.range m).map fun c=> .list ((List.range n).map fun i=>f c i)) rfl (by rw [List.length_map,List.length_range];omega) (compM_map fun c hc=> ?_)
      show elM _ _ _ [some (.val (.int (0+(i:Nat)))),none] _=_
      have e:dix (.val (.list ((List.range n).map fun i=>f c i))) (.val (.int (0+(i:Nat))))=some (.val (f c i)):=by
        unfold dix
        simp only [Sl.dat]
        rw [Int.zero_add,atI_range hi]
        rfl
      unfold elM
      simp only [gVar,mYes,mBin,mPk,List.set_cons_zero,List.set_cons_succ,List.getElem?_cons_zero,List.getElem?_cons_succ,Option.join_some,Option.bind_some,e,if_true,Option.map_some,Sl.dat]
    unfold elM
    simp only [gVar,mYes,List.set_cons_zero,List.set_cons_succ,Option.bind_some,inner,if_true,Option.map_some,Sl.dat]
def redT(B:Ba.Mx)(l:Nat)(L:Nat->Nat)(last:Int):Tb:=fun i j=>if i<l then fr (Ba.redx B l L j i) last else (0,1)
theorem sz_red{n l Y:Nat}{x:Int}(h1:1<=n)(hn:n<=32)(hl:l<=n)(hY1:1<=Y)(hY:(32*Y) ^ n<2 ^ 4000)(hx:x.natAbs<=l*((n*Y) ^ l*Y)):Bt 8000 x:=by
  have a1:(n*Y) ^ l<=(32*Y) ^ n:=Nat.le_trans (Nat.pow_le_pow_left (Nat.mul_le_mul_right Y hn) l) (Nat.pow_le_pow_right (by omega) hl)
  have a2:l*Y<=(32*Y) ^ n:=Nat.le_trans (Nat.mul_le_mul_right Y (by omega:l<=32)) (by
    calc 32*Y=(32*Y) ^ 1:=(Nat.pow_one _).symm
      _<=_:=Nat.pow_le_pow_right (by omega) h1)
  have a3:l*((n*Y) ^ l*Y)=(n*Y) ^ l*(l*Y):=by
    rw [Nat.mul_left_comm]
  unfold Bt
  refine Nat.lt_of_le_of_lt hx ?_
  rw [a3]
  refine Nat.lt_of_le_of_lt (Nat.mul_le_mul a1 a2) ?_
  have e:(2:Nat) ^ 8000=2 ^ 4000*2 ^ 4000:=Nat.pow_add 2 4000 4000
  rw [e]
  exact Nat.mul_lt_mul'' hY hY
theorem ints_flat{k:Nat}{x:Nat->Int}:flatS (.own ((List.range k).map fun t=> .int (x t)))=true:=by
  show (intsOf ((List.range k).map fun t=>PyData.int (x t))).isSome=true
  have e:((List.range k).map fun t=>PyData.int (x t))=((List.range k).map x).map PyData.int:=by rw [List.map_map];rfl
  rw [e,intsOf_map]
  rfl
theorem red_col{n l:Nat}{f g:Nat->PyData}(h:l<=n):(List.range l).map f++(List.range (n - l)).map (fun _=>g 0)=(List.range n).map fun i=>if i<l then f i else g 0:=range_app (g:=fun _=>g 0) h
theorem redT_map{n l j:Nat}{B:Ba.Mx}{L:Nat->Nat}{last:Int}:((List.range n).map fun i=>if i<l then encF (fr (Ba.redx B l L j i) last) else c_NOUGHT)=(List.range n).map fun i=>encF (redT B l L last i j):=by
  refine List.map_congr_left fun i _=> ?_
  unfold redT
  by_cases h:i<l
  . rw [if_pos h,if_pos h]
  . rw [if_neg h,if_neg h];rfl
theorem methR_to{n:Nat}{F:List PyData->List PyData->Option Sl}{fa:En->Option (List PyData)}{ρ:En}{ds fd:List PyData}{r:Sl}(h1:fa ρ=some ds)(h2:fldsOf (ρ.drop n)=some fd)(h3:F fd ds=some r)(h4:flatS r=true):mMethR n F fa ρ=some r:=by
  unfold mMethR
  rw [h1,Option.bind_some,h2,Option.bind_some,h3,Option.bind_some,if_pos h4]
theorem elM_to{fg:PyData->En->Option En}{ft:En->Option Bool}{fe:En->Option Sl}{ρ ρ1:En}{d:PyData}{r:Sl}(h1:fg d ρ=some ρ1)(h2:ft ρ1=some true)(h3:fe ρ1=some r):elM fg ft fe ρ d=some (some r.dat):=by
  unfold elM
  rw [h1,Option.bind_some,h2,Option.bind_some,if_pos rfl,h3]
  rfl
theorem red_meth {n m l j : Nat} {R B : Ba.Mx} {L : Nat -> Nat} {last : Int} (hl : l <= n) (n32 : n <= 32) (hnz : last ≠ 0) (hlast : Bt 4000 last)
    (rc:mS_reduced_column [.list (matD n m R), .list (ldD l L), .int last] [.int (j:Int)]=some (.own ((List.range l).map fun t=> .int (Ba.redx B l L j t)))) :
    (mMethR 3 mS_reduced_column (mCons (mVar 2) mNil)) [none,some (.own ((List.range (n - l)).map fun _=>c_NOUGHT)),some (.val (.int (j:Int))),some (.own (matD n m R)),some (.own (ldD l L)),some (.val (.int last))]=some (.own ((List.range l).map fun t=> .int (Ba.redx B l L j t))):=by
    exact methR_to (ds:= [.int (j:Int)]) (fd:= [.list (matD n m R), .list (ldD l L), .int last]) rfl rfl rc ints_flat
theorem red_fo {n m l j : Nat} {R B : Ba.Mx} {L : Nat -> Nat} {last : Int} (hl : l <= n) (n32 : n <= 32) (hnz : last ≠ 0) (hlast : Bt 4000 last)
    (rc:mS_reduced_column [.list (matD n m R), .list (ldD l L), .int last] [.int (j:Int)]=some (.own ((List.range l).map fun t=> .int (Ba.redx B l L j t)))) :
    (mCall m_fractions_over (mCons (mMethR 3 mS_reduced_column (mCons (mVar 2) mNil)) (mCons (mVar 5) mNil))) [none,some (.own ((List.range (n - l)).map fun _=>c_NOUGHT)),some (.val (.int (j:Int))),some (.own (matD n m R)),some (.own (ldD l L)),some (.val (.int last))]=some (.own ((List.range l).map fun t=>encF (fr (Ba.redx B l L j t) last))):=by
    refine call_to (ds:= [.list ((List.range l).map fun t=> .int (Ba.redx B l L j t)), .int last]) ?_ (run_fo (Nat.le_trans hl (Nat.le_trans n32 (by decide))) hnz (hlast.mono (by decide)))
    rw [cons_to (red_meth hl n32 hnz hlast rc) (cons_to (a:= .val (.int last)) (as:= []) rfl rfl)]
    rfl
theorem red_colv {n m l j : Nat} {R B : Ba.Mx} {L : Nat -> Nat} {last : Int} (hl : l <= n) (n32 : n <= 32) (hnz : last ≠ 0) (hlast : Bt 4000 last)
    (rc:mS_reduced_column [.list (matD n m R), .list (ldD l L), .int last] [.int (j:Int)]=some (.own ((List.range l).map fun t=> .int (Ba.redx B l L j t)))) :
    (mBin dAdd (mCall m_fractions_over (mCons (mMethR 3 mS_reduced_column (mCons (mVar 2) mNil)) (mCons (mVar 5) mNil))) (mPk 1)) [none,some (.own ((List.range (n - l)).map fun _=>c_NOUGHT)),some (.val (.int (j:Int))),some (.own (matD n m R)),some (.own (ldD l L)),some (.val (.int last))]=some (.own ((List.range n).map fun i=>encF (redT B l L last i j))):=by
  have fo:=red_fo (m:=m) (R:=R) (B:=B) hl n32 hnz hlast rc
  rw [bin_eq fo (b:= .own ((List.range (n - l)).map fun _=>c_NOUGHT)) rfl]
  unfold dAdd
  simp only [Sl.dat,List.length_map,List.length_range]
  rw [if_pos (show l+(n - l)<=sizeLine from Nat.le_trans (by omega) small64),red_col (g:=fun _=>c_NOUGHT) hl]
  rw [redT_map]
theorem red_ben {n m l : Nat} {R : Ba.Mx} {L : Nat -> Nat} {last : Int} {t : Tb} (hl : l <= n) (n32 : n <= 32) :
    (mBin dRep (mLst (mCons (mK c_NOUGHT) mNil)) (mBin dSub (mCallP dLen (mConsP (mPk 0) mNilP)) (mCallP dLen (mConsP (mPk 5) mNilP)))) [some (.val (tabD n m t)),none,none,none,some (.own (matD n m R)),some (.own (ldD l L)),some (.val (.int last))]=some (.own ((List.range (n - l)).map fun _=>c_NOUGHT)):=by
  refine (bin_eq (a:= .own [c_NOUGHT]) (b:= .val (.int ((n - l:Nat):Int))) ?_ ?_).trans (rep_to (by omega))
  . simp only [mLst,mCons,mNil,mK,Option.bind_some,Sl.dat,List.length_cons,List.length_nil]
    rw [if_pos (show 0+1<=sizeLine from Nat.le_trans (by decide) small64)]
  . refine (bin_eq (a:= .val (.int (n:Int))) (b:= .val (.int (l:Int))) ?_ ?_).trans ?_
    . simp only [mCallP,mConsP,mNilP,mPk,List.getElem?_cons_zero,Option.join_some,Option.bind_some,dLen,Sl.dat,tabD,List.length_map,List.length_range]
    . simp only [mCallP,mConsP,mNilP,mPk,List.getElem?_cons_zero,List.getElem?_cons_succ,Option.join_some,Option.bind_some,dLen,Sl.dat,len_ld]
    . show some (Sl.val (.int ((n:Int) - (l:Int))))=_
      rw [show ((n - l:Nat):Int)=(n:Int) - (l:Int) from Int.ofNat_sub hl]
theorem run_red {n m D T : Nat} {t : Tb} (k : TabOk n m D T t) (hm1 : 1 <= m) : ∃ R l L last B, Ba.BI n m (W m t) R l L last m B /\ Bt 4000 last /\ m_rank [tabD n m t] = some (.val (.int l)) /\
    m_reduced [tabD n m t]=some (.own ((List.range n).map fun i=>frD m (redT B l L last i))):=by
  obtain ⟨R,l,L,last,B,I,hs⟩:=run_so k hm1
  have hY1:1<=T*D ^ m:=Nat.mul_pos k.T1 (Nat.pow_pos k.D1)
  have bd:=I.bound k.n32 hY1 k.Wb
  have hl:l<=n:=I.kn
  have n32:=k.n32
  have n1:=k.n1
  have hlast:Bt 4000 last:=bt_of bd.2 k.size
  have hR:∀i,i<n->∀j,j<m->Bt 4000 (R i j):=fun i hi j hj=>bt_of (bd.1 i hi j hj) k.size
  have hx:∀j,j<m->∀t,t<l->Bt 8000 (Ba.redx B l L j t):=fun j hj t _=>sz_red k.n1 k.n32 I.kn hY1 k.size (I.red_abs hY1 k.Wb hj t)
  have hsz:1000<sizeLine:=by decide
  refine ⟨R,l,L,last,B,I,hlast,?_,?_⟩
  . refine runD_rt (ρ:= [some (.val (tabD n m t))]) rfl rfl ?_
    unfold b_rank
    refine rts_ret ?_
    have call:(mCallO m_stairs_of (mCons (mVar 0) mNil)) [some (.val (tabD n m t))]=some (flds n m R l L last):=by
      simp only [mCallO,mCons,mNil,mVar,List.getElem?_cons_zero,Option.join_some,Option.bind_some,Sl.dat,hs]
    refine callP_to (ss:= [.own (ldD l L)]) (consP_to ?_ rfl) (by simp only [dLen,Sl.dat,len_ld])
    unfold mFldO
    rw [call]
    rfl
  . have call : (mCallO m_stairs_of (mCons (mVar 0) mNil)) [some (.val (tabD n m t)), none, none, none] = some (flds n m R l L last) := by
      simp only [mCallO,mCons,mNil,mVar,List.getElem?_cons_zero,Option.join_some,Option.bind_some,Sl.dat,hs]
    refine runD_rt (ρ:= [some (.val (tabD n m t)),none,none,none]) rfl rfl ?_
    unfold b_reduced
    refine obj_to rfl call ?_
    show Rts _ [some (.val (tabD n m t)),none,none,none,some (.own (matD n m R)),some (.own (ldD l L)),some (.val (.int last))] _
    refine rts_seq (asg_to (r:= .own ((List.range (n - l)).map fun _=>c_NOUGHT)) ?_) ?_
    . exact red_ben hl n32
    show Rts _ [some (.val (tabD n m t)),none,some (.own ((List.range (n - l)).map fun _=>c_NOUGHT)),none,some (.own (matD n m R)),some (.own (ldD l L)),some (.val (.int last))] _
    refine rts_seq (asg_to (r:= .own ((List.range m).map fun j=> .list ((List.range n).map fun i=>encF (redT B l L last i j)))) (lc_to (ds:=rngD 0 m) ?_ ?_ (compM_range fun j hj=> ?_))) ?_
    . refine rng1_to ?_ k.m1000
      have e:dix (.val (tabD n m t)) (.val (.int 0))=some (.val (frD m (t 0))):=by
        unfold dix tabD
        simp only [Sl.dat]
        rw [show (0:Int)=((0:Nat):Int) from rfl,atI_range (show 0<n by omega)]
        rfl
      refine consP_to (a:= .val (.int m)) (callP_to (consP_to (bin_eq (a:= .val (tabD n m t)) (b:= .val (.int 0)) rfl rfl |>.trans e) rfl) ?_) rfl
      simp only [dLen,Sl.dat,frD,List.length_map,List.length_range]
    . have:=k.m1000
      simp only [rngD,List.length_map,List.length_range];omega
    . show elM _ _ _ [none,some (.own ((List.range (n - l)).map fun _=>c_NOUGHT)),none,some (.own (matD n m R)),some (.own (ldD l L)),some (.val (.int last))] _=_
      rw [Int.zero_add]
      have rc:=run_rc I hj k.n32 k.m1000 hR hlast (hx j hj)
      have col:=red_colv (m:=m) (R:=R) (B:=B) hl n32 I.nz hlast rc
      exact elM_to (r:= .own ((List.range n).map fun i=>encF (redT B l L last i j))) rfl rfl col
    . refine rts_frz (rts_ret (call_to (ds:= [.list ((List.range m).map fun j=> .list ((List.range n).map fun i=>encF (redT B l L last i j)))]) ?_ (run_lo (by omega) hm1 k.m1000)))
      simp only [frz1,mCons,mNil,mVar,List.set_cons_zero,List.set_cons_succ,List.getElem?_cons_zero,List.getElem?_cons_succ,Option.join_some,Option.bind_some,Sl.dat]
theorem sl1000:1000<sizeLine:=by decide
theorem lst1{f:En->Option Sl}{ρ:En}{a:Sl}(h:f ρ=some a):mLst (mCons f mNil) ρ=some (.own [a.dat]):=by
  unfold mLst
  rw [cons_to h (show mNil ρ=some [] from rfl)]
  exact if_pos (e:=none) (show 1<=sizeLine by decide)
theorem add_own{a b:Sl}{xs ys:List PyData}(ha:a.dat = .list xs)(hb:b.dat = .list ys)(h:xs.length+ys.length<=sizeLine):dAdd a b=some (.own (xs++ys)):=by
  unfold dAdd
  rw [ha,hb]
  exact if_pos (h)
theorem el_to{fg:PyData->En->Option En}{fe:En->Option Sl}{ρ0 ρ1:En}{d:PyData}{r:Sl}(h1:fg d ρ0=some ρ1)(h2:fe ρ1=some r):elM fg mYes fe ρ0 d=some (some r.dat):=by
  unfold elM
  rw [h1]
  simp only [Option.bind_some,mYes,if_true,h2,Option.map_some]
def cellsOf(ns:List Int):List Int:=ns.take 63 ++ [0]
theorem cells_len(ns:List Int):(cellsOf ns).length<=64:=by simp [cellsOf];omega
theorem run_cells{ns:List Int}{ρ:En}{n:Nat}(h:(ρ[0]?).join=some (.val (.list (ns.map .int)))):(mBin dAdd (mSl (mPk 0) mNoPart (mPart (mK (.int 63)))) (mLst (mCons (mK (.int 0)) mNil))) ρ=some (.own (il (cellsOf ns))):=by
  have c1:(mSl (mPk 0) mNoPart (mPart (mK (.int 63)))) ρ=some (.own (il (ns.take 63))):=by
    have e:cutD (ns.map PyData.int) none (some ((63:Nat):Int))=il (ns.take 63):=by
      unfold cutD il
      rw [HT.sIx_none,HT.sIx_nat,List.length_map,List.drop_zero,Nat.sub_zero, <-List.map_take]
      congr 1
      by_cases h:63<=ns.length
      . rw [Nat.min_eq_left h]
      . rw [Nat.min_eq_right (by omega),List.take_of_length_le (Nat.le_refl _),List.take_of_length_le (by omega)]
    rw [<-e]
    unfold mSl mPk
    rw [h]
    rfl
  refine (bin_eq (op:=dAdd) c1 (lst1 (a:= .val (.int 0)) rfl)).trans ?_
  refine (add_own (xs:=il (ns.take 63)) (ys:= [.int 0]) rfl rfl ?_).trans ?_
  . rw [il_len,List.length_take]
    have:=sl1000
    simp
    omega
  . rw [cellsOf,il_app]
    rfl
theorem frz_eq{i:Nat}{g:En->Option Out}{ρ:En}:mFrz i g ρ=g (frz1 i ρ):=rfl
theorem tup2{f g:En->Option Sl}{ρ:En}{a b:Sl}(h1:f ρ=some a)(h2:g ρ=some b):mTup (mCons f (mCons g mNil)) ρ=some (.val (.tuple [a.dat,b.dat])):=by
  unfold mTup
  rw [cons_to h1 (cons_to h2 (show mNil ρ=some [] from rfl))]
  exact if_pos (e:=none) (show 2<=sizeLine by decide)
theorem asgT_to{fg:PyData->En->Option En}{f:En->Option Sl}{ρ ρ':En}{r:Sl}(h:f ρ=some r)(k:fg r.dat ρ=some ρ'):mAsgT fg f ρ=some (.nx ρ'):=by
  unfold mAsgT
  rw [h,Option.bind_some,k]
  rfl
theorem pr_congr:∀ {n:Nat} {f g:Nat->Int},(∀i,i<n->f i=g i)->prodN n f=prodN n g
  | 0,_,_,_=>rfl
  | n+1,f,g,h=>by rw [prodN,prodN,pr_congr (n:=n) fun i hi=>h i (by omega),h n (by omega)]
theorem pr_upd{n i:Nat}{f:Nat->Int}{a b:Int}(hi:i<n)(h:b=a*f i):prodN n (fun k=>if k=i then b else f k)=a*prodN n f:=by
  induction n with
  | zero=>omega
  | succ n ih=>
    rw [prodN,prodN]
    by_cases e:i=n
    . subst e
      rw [if_pos rfl,pr_congr (g:=f) fun k hk=>if_neg (by omega),h]
      ac_rfl
    . rw [ih (by omega),if_neg (by omega)]
      ac_rfl
theorem pr_swap{n i s:Nat}{f:Nat->Int}(hi:i<n)(hs:s<n):prodN n (fun k=>if k=i then f s else if k=s then f i else f k)=prodN n f:=by
  by_cases e:i=s
  . subst e
    exact pr_congr fun k _=>by
      by_cases q:k=i
      . simp [q]
      . simp [q]
  . have gen : ∀ (a b : Int), prodN n (fun k => if k = i then a else if k = s then b else f k) = prodN n (fun k => if k = i then b else if k = s then a else f k) := by
      intro a b
      induction n with
      | zero=>omega
      | succ n ih=>
        rw [prodN,prodN]
        by_cases e1:i=n
        . subst e1
          have l:∀x y:Int,prodN i (fun k=>if k=i then x else if k=s then y else f k)=prodN i (fun k=>if k=s then y else f k):=fun x y=>pr_congr fun k hk=>if_neg (by omega)
          rw [l,l,if_pos rfl,if_pos rfl]
          have up:∀y:Int,prodN i (fun k=>if k=s then y else f k)=y*prodN i (fun k=>if k=s then 1 else f k):=fun y=>by
            have:=pr_upd (n:=i) (i:=s) (f:=fun k=>if k=s then 1 else f k) (a:=y) (b:=y) (by omega) (by simp)
            rw [<-this]
            exact pr_congr fun k _=>by
              by_cases q:k=s
              . simp [q]
              . simp [q]
          rw [up a,up b]
          ac_rfl
        . by_cases e2:s=n
          . subst e2
            have l:∀x y:Int,prodN s (fun k=>if k=i then x else if k=s then y else f k)=prodN s (fun k=>if k=i then x else f k):=fun x y=>pr_congr fun k hk=>by
              by_cases q:k=i
              . simp [q]
              . rw [if_neg q,if_neg q,if_neg (by omega)]
            rw [l,l,if_neg (by omega),if_pos rfl,if_neg (by omega),if_pos rfl]
            have up:∀y:Int,prodN s (fun k=>if k=i then y else f k)=y*prodN s (fun k=>if k=i then 1 else f k):=fun y=>by
              have:=pr_upd (n:=s) (i:=i) (f:=fun k=>if k=i then 1 else f k) (a:=y) (b:=y) (by omega) (by simp)
              rw [<-this]
              exact pr_congr fun k _=>by
                by_cases q:k=i
                . simp [q]
                . simp [q]
            rw [up a,up b]
            ac_rfl
          . rw [ih (by omega) (by omega)]
            rw [if_neg (by omega),if_neg (by omega),if_neg (by omega),if_neg (by omega)]
    have g:=gen (f s) (f i)
    rw [g]
    exact pr_congr fun k _=>by
      by_cases q:k=i
      . simp [q]
      . by_cases q2:k=s
        . rw [if_neg q,if_pos q2,q2]
        . rw [if_neg q,if_neg q2]
theorem det_rows{n:Nat}{M:Ba.Mx}{c:Nat->Int}:Ba.det n (fun i j=>c i*M i j)=prodN n c*Ba.det n M:=by
  have key:∀s,s<=n->Ba.det n (fun i j=>if i<s then c i*M i j else M i j)=prodN s c*Ba.det n M:=by
    intro s hs
    induction s with
    | zero=>
      show Ba.det n (fun i j=>M i j)=1*_
      rw [Int.one_mul]
    | succ s ih=>
      have h:=Ba.det_smul (n:=n) (r:=s) (M:=fun i j=>if i<s then c i*M i j else M i j) (u:=M s) (c s) (by omega)
      have e1:Ba.det n (fun i j=>if i<s+1 then c i*M i j else M i j)=Ba.det n (Ba.setR (fun i j=>if i<s then c i*M i j else M i j) s (fun j=>c s*M s j)):=Ba.det_congr fun i _ j _=>by
        by_cases q:i=s
        . subst q
          rw [Ba.setR_same,if_pos (by omega)]
        . rw [Ba.setR_ne q]
          by_cases q2:i<s
          . rw [if_pos (by omega),if_pos q2]
          . rw [if_neg (by omega),if_neg q2]
      have e2:Ba.det n (Ba.setR (fun i j=>if i<s then c i*M i j else M i j) s (M s))=Ba.det n (fun i j=>if i<s then c i*M i j else M i j):=Ba.det_congr fun i _ j _=>by
        by_cases q:i=s
        . subst q
          rw [Ba.setR_same,if_neg (by omega)]
        . rw [Ba.setR_ne q]
      rw [e1,h,e2,ih (by omega),prodN]
      ac_rfl
  have:=key n (Nat.le_refl _)
  rw [<-this]
  exact Ba.det_congr fun i hi j _=>by rw [if_pos hi]
theorem det_tri{M:Ba.Mx}:∀ {n:Nat},(∀i,i<n->∀j,j<i->M i j=0)->Ba.det n M=prodN n (fun i=>M i i)
  | 0,_=>rfl
  | n+1,h=>by
    rw [Ba.det_last fun j hj=>h n (by omega) j hj,det_tri (n:=n) fun i hi j hj=>h i (by omega) j hj,prodN]
    ac_rfl
theorem det_turn{n i s:Nat}{M:Ba.Mx}{a b:Int}(hi:i<n)(hs:s<n)(his:i≠s):Ba.det n (Ba.setR M i (fun j=>a*M i j+b*M s j))=a*Ba.det n M:=by
  rw [Ba.det_lin a b hi,Ba.setR_self]
  have z:Ba.det n (Ba.setR M i (M s))=0:=Ba.det_same hi hs his (by rw [Ba.setR_same,Ba.setR_ne (Ne.symm his)])
  rw [z,Int.mul_zero,Int.add_zero]
theorem det_exc{n i s:Nat}{M:Ba.Mx}(hi:i<n)(hs:s<n)(his:i≠s):Ba.det n (Ba.setR (Ba.setR M i (M s)) s (M i)) = - Ba.det n M:=by
  rw [Ba.det_swap hi hs his,Ba.setR_self,Ba.setR_self]
theorem frac_cross{a b c d:Int}(hb:0<b)(hd:0<d)(g1:Int.gcd a b=1)(g2:Int.gcd c d=1)(e:a*d=c*b):(a,b)=(c,d):=by
  have d1:b ∣ d:=by
    have:b ∣ a*d:=⟨c,by rw [e];ac_rfl⟩
    refine Int.natAbs_dvd_natAbs.mp (Nat.Coprime.dvd_of_dvd_mul_left (m:=a.natAbs) (by rw [Nat.coprime_comm];exact g1) ?_)
    rw [<-Int.natAbs_mul]
    exact Int.natAbs_dvd_natAbs.mpr this
  have d2:d ∣ b:=by
    have:d ∣ c*b:=⟨a,by rw [<-e];ac_rfl⟩
    refine Int.natAbs_dvd_natAbs.mp (Nat.Coprime.dvd_of_dvd_mul_left (m:=c.natAbs) (by rw [Nat.coprime_comm];exact g2) ?_)
    rw [<-Int.natAbs_mul]
    exact Int.natAbs_dvd_natAbs.mpr this
  have ebd:b=d:=Int.dvd_antisymm (by omega) (by omega) d1 d2
  subst ebd
  have:a=c:=Int.eq_of_mul_eq_mul_right (by omega) e
  rw [this]
theorem fr_eq{a b c d:Int}(hb:b≠0)(hd:d≠0)(e:a*d=c*b):fr a b=fr c d:=by
  have h:=frac_cross (a:=(fr a b).1) (b:=(fr a b).2) (c:=(fr c d).1) (d:=(fr c d).2) (fr_pos hb) (fr_pos hd) (fr_gcd hb) (fr_gcd hd) (by
    have h1:=fr_cross (a:=a) hb
    have h2:=fr_cross (a:=c) hd
    refine Ba.mul_cancel (a:=b*d) (Int.mul_ne_zero hb hd) ?_
    calc b*d*((fr a b).1*(fr c d).2)=((fr a b).1*b)*(d*(fr c d).2):=by ac_rfl
      _=(a*d)*((fr a b).2*(fr c d).2):=by rw [h1];ac_rfl
      _=(c*(fr c d).2)*(b*(fr a b).2):=by rw [e];ac_rfl
      _=b*d*((fr c d).1*(fr a b).2):=by rw [<-h2];ac_rfl)
  exact h
theorem fr_one(a:Int):fr a 1=(a,1):=by
  have h:=fr_cross (a:=a) (b:=1) (by decide)
  have p:=fr_pos (a:=a) (b:=1) (by decide)
  have g:=fr_gcd (a:=a) (b:=1) (by decide)
  have:=frac_cross (a:=(fr a 1).1) (b:=(fr a 1).2) (c:=a) (d:=1) p (by decide) g (Int.gcd_one_right ..) h
  exact this
theorem fr_zero{e:Int}(he:e≠0):fr 0 e=(0,1):=by
  rw [<-fr_one]
  exact fr_eq he (by decide) (by rw [Int.zero_mul,Int.zero_mul])
theorem fr_self{e:Int}(he:e≠0):fr e e=(1,1):=by
  rw [<-fr_one]
  exact fr_eq he (by decide) (by rw [Int.one_mul,Int.mul_one])
theorem run_ltimes{a b:Int×Int}(ha:0<a.2)(hb:0<b.2)(B1:Bt 4000 a.1)(B2:Bt 4000 b.1)(B3:Bt 4000 a.2)(B4:Bt 4000 b.2):mLtimes [encF a,encF b]=some (.val (encF (fr (a.1*b.1) (a.2*b.2)))):=by
  have M:∀ {i j:Int},Bt 4000 i->Bt 4000 j->CMulA i j:=fun h k=> .inr (cmulC h k rfl)
  refine runD_rt (ρ:= [some (.val (encF a)),some (.val (encF b))]) rfl rfl ?_
  unfold bLtimes
  refine rts_ret (call_to (ds:= [.int (a.1*b.1), .int (a.2*b.2)]) ?_ (run_lfrac (Int.mul_pos ha hb) ((B3.mul B4).mono (by decide))))
  refine (cons_to (a:= .val (.int (a.1*b.1))) (as:= [.int (a.2*b.2)]) ?_ (cons_to (a:= .val (.int (a.2*b.2))) ?_ rfl)).trans rfl
  . exact (bin_eq (a:= .val (.int a.1)) (b:= .val (.int b.1)) ((bin_eq (a:= .val (encF a)) (b:= .val (.int 0)) rfl rfl).trans (dix_f0 a)) ((bin_eq (a:= .val (encF b)) (b:= .val (.int 0)) rfl rfl).trans (dix_f0 b))).trans (mulS (M B1 B2))
  . exact (bin_eq (a:= .val (.int a.2)) (b:= .val (.int b.2)) ((bin_eq (a:= .val (encF a)) (b:= .val (.int 1)) rfl rfl).trans (dix_f1 a)) ((bin_eq (a:= .val (encF b)) (b:= .val (.int 1)) rfl rfl).trans (dix_f1 b))).trans (mulS (M B3 B4))
theorem run_lplus{a b:Int×Int}(ha:0<a.2)(hb:0<b.2)(B1:Bt 4000 a.1)(B2:Bt 4000 b.1)(B3:Bt 4000 a.2)(B4:Bt 4000 b.2):mLplus [encF a,encF b]=some (.val (encF (fr (a.1*b.2+b.1*a.2) (a.2*b.2)))):=by
  have M:∀ {i j:Int},Bt 4000 i->Bt 4000 j->CMulA i j:=fun h k=> .inr (cmulC h k rfl)
  have a0:∀ {f:En->Option Sl} {ρ:En} {q:Int×Int},f ρ=some (.val (encF q))->mBin dix f (mK (.int 0)) ρ=some (.val (.int q.1)):=fun h=>(bin_eq (b:= .val (.int 0)) h rfl).trans (dix_f0 _)
  have a1:∀ {f:En->Option Sl} {ρ:En} {q:Int×Int},f ρ=some (.val (encF q))->mBin dix f (mK (.int 1)) ρ=some (.val (.int q.2)):=fun h=>(bin_eq (b:= .val (.int 1)) h rfl).trans (dix_f1 _)
  refine runD_rt (ρ:= [some (.val (encF a)),some (.val (encF b))]) rfl rfl ?_
  unfold bLplus
  refine rts_ret (call_to (ds:= [.int (a.1*b.2+b.1*a.2), .int (a.2*b.2)]) ?_ (run_lfrac (Int.mul_pos ha hb) ((B3.mul B4).mono (by decide))))
  refine (cons_to (a:= .val (.int (a.1*b.2+b.1*a.2))) (as:= [.int (a.2*b.2)]) ?_ (cons_to (a:= .val (.int (a.2*b.2))) ?_ rfl)).trans rfl
  . refine (bin_eq (a:= .val (.int (a.1*b.2))) (b:= .val (.int (b.1*a.2))) ?_ ?_).trans rfl
    . exact (bin_eq (a0 (q:=a) rfl) (a1 (q:=b) rfl)).trans (mulS (M B1 B4))
    . exact (bin_eq (a0 (q:=b) rfl) (a1 (q:=a) rfl)).trans (mulS (M B2 B3))
  . exact (bin_eq (a1 (q:=a) rfl) (a1 (q:=b) rfl)).trans (mulS (M B3 B4))
structure Ok (E:Int) (V:Nat) (q:Int×Int):Prop where
  pos:0<q.2
  gcd:Int.gcd q.1 q.2=1
  dvd:q.2 ∣ E
  val:q.1.natAbs<=V*q.2.natAbs
theorem Ok.mono{E E':Int}{V V':Nat}{q:Int×Int}(h:Ok E V q)(hE:E ∣ E')(hV:V<=V'):Ok E' V' q:=⟨h.pos,h.gcd,Int.dvd_trans h.dvd hE,Nat.le_trans h.val (Nat.mul_le_mul_right _ hV)⟩
theorem cop_dvd{a b E K:Int}(g:Int.gcd a b=1)(e:a*E=K*b):b ∣ E:=by
  have:b ∣ a*E:=⟨K,by rw [e];exact Int.mul_comm _ _⟩
  refine Int.natAbs_dvd_natAbs.mp (Nat.Coprime.dvd_of_dvd_mul_left (m:=a.natAbs) (by rw [Nat.coprime_comm];exact g) ?_)
  rw [<-Int.natAbs_mul]
  exact Int.natAbs_dvd_natAbs.mpr this
theorem fr_val{a b:Int}{V:Nat}(hb:0<b)(h:a.natAbs<=V*b.natAbs):(fr a b).1.natAbs<=V*(fr a b).2.natAbs:=by
  have e:=congrArg Int.natAbs (fr_cross (a:=a) (show b≠0 by omega))
  rw [Int.natAbs_mul,Int.natAbs_mul] at e
  refine Nat.le_of_mul_le_mul_right (c:=b.natAbs) ?_ (by omega)
  rw [e]
  calc a.natAbs*(fr a b).2.natAbs<=V*b.natAbs*(fr a b).2.natAbs:=Nat.mul_le_mul_right _ h
    _=V*(fr a b).2.natAbs*b.natAbs:=by ac_rfl
theorem ok_fr{a b E:Int}{V:Nat}(hb:0<b)(hd:b ∣ E)(h:a.natAbs<=V*b.natAbs):Ok E V (fr a b) :=
  ⟨fr_pos (by omega),fr_gcd (by omega),Int.dvd_trans ⟨sg a b,((fr_mul a b (by omega)).2).symm⟩ hd,fr_val hb h⟩
theorem ok_times{E:Int}{V:Nat}{b y:Int×Int}(hb:0<b.2)(hd:b.2 ∣ 6)(hv:b.1.natAbs<=3*b.2.natAbs)(hy:Ok E V y):Ok (6*E) (3*V) (fr (b.1*y.1) (b.2*y.2)):=by
  refine ok_fr (Int.mul_pos hb hy.pos) (Int.mul_dvd_mul hd hy.dvd) ?_
  rw [Int.natAbs_mul,Int.natAbs_mul]
  calc b.1.natAbs*y.1.natAbs<=(3*b.2.natAbs)*(V*y.2.natAbs):=Nat.mul_le_mul hv hy.val
    _=3*V*(b.2.natAbs*y.2.natAbs):=by ac_rfl
theorem ok_times1{E z:Int}{V:Nat}{y:Int×Int}(hz:z.natAbs<=2)(hy:Ok E V y):Ok E (2*V) (fr (z*y.1) (1*y.2)):=by
  rw [Int.one_mul]
  refine ok_fr hy.pos hy.dvd ?_
  rw [Int.natAbs_mul]
  calc z.natAbs*y.1.natAbs<=2*(V*y.2.natAbs):=Nat.mul_le_mul hz hy.val
    _=2*V*y.2.natAbs:=by ac_rfl
theorem ok_plus{E:Int}{V U:Nat}{x w:Int×Int}(hx:Ok E V x)(hw:Ok E U w):Ok E (V+U) (fr (x.1*w.2+w.1*x.2) (x.2*w.2)):=by
  have hp:=Int.mul_pos hx.pos hw.pos
  have n0:x.2*w.2≠0:=by omega
  have c:=fr_cross (a:=x.1*w.2+w.1*x.2) n0
  refine ⟨fr_pos n0,fr_gcd n0,?_,fr_val hp ?_⟩
  . obtain ⟨u,hu⟩:=hx.dvd
    obtain ⟨v,hv⟩:=hw.dvd
    refine cop_dvd (K:=x.1*u+w.1*v) (fr_gcd n0) ?_
    refine Ba.mul_cancel n0 ?_
    generalize fr (x.1*w.2+w.1*x.2) (x.2*w.2)=s at *
    calc x.2*w.2*(s.1*E)=(s.1*(x.2*w.2))*E:=by ac_rfl
      _=(x.1*w.2+w.1*x.2)*s.2*E:=by rw [c]
      _=(x.1*w.2*E+w.1*x.2*E)*s.2:=by rw [<-Int.add_mul];ac_rfl
      _=(x.1*w.2*(x.2*u)+w.1*x.2*(w.2*v))*s.2:=by rw [<-hu, <-hv]
      _=(x.2*w.2*(x.1*u)+x.2*w.2*(w.1*v))*s.2:=by congr 1;congr 1 <;> ac_rfl
      _=x.2*w.2*((x.1*u+w.1*v)*s.2):=by rw [<-Int.mul_add,Int.mul_assoc]
  . refine Nat.le_trans (Int.natAbs_add_le _ _) ?_
    rw [Int.natAbs_mul,Int.natAbs_mul,Int.natAbs_mul]
    calc x.1.natAbs*w.2.natAbs+w.1.natAbs*x.2.natAbs<=V*x.2.natAbs*w.2.natAbs+U*w.2.natAbs*x.2.natAbs:=Nat.add_le_add (Nat.mul_le_mul_right _ hx.val) (Nat.mul_le_mul_right _ hw.val)
      _=(V+U)*(x.2.natAbs*w.2.natAbs):=by rw [Nat.add_mul];congr 1 <;> ac_rfl
theorem mul_fr{a b c d:Int}(hb:b≠0)(hd:d≠0):fr ((fr a b).1*(fr c d).1) ((fr a b).2*(fr c d).2)=fr (a*c) (b*d):=by
  have c1:=fr_cross (a:=a) hb
  have c2:=fr_cross (a:=c) hd
  have p1:=fr_pos (a:=a) hb
  have p2:=fr_pos (a:=c) hd
  refine fr_eq (Int.mul_ne_zero (by omega) (by omega)) (Int.mul_ne_zero hb hd) ?_
  generalize fr a b=x at *
  generalize fr c d=y at *
  calc x.1*y.1*(b*d)=(x.1*b)*(y.1*d):=by ac_rfl
    _=_:=by rw [c1,c2];ac_rfl
theorem add_fr{a b c d:Int}(hb:b≠0)(hd:d≠0):fr ((fr a b).1*(fr c d).2+(fr c d).1*(fr a b).2) ((fr a b).2*(fr c d).2)=fr (a*d+c*b) (b*d):=by
  have c1:=fr_cross (a:=a) hb
  have c2:=fr_cross (a:=c) hd
  have p1:=fr_pos (a:=a) hb
  have p2:=fr_pos (a:=c) hd
  refine fr_eq (Int.mul_ne_zero (by omega) (by omega)) (Int.mul_ne_zero hb hd) ?_
  generalize fr a b=x at *
  generalize fr c d=y at *
  grind
structure Iv (n:Nat) (t:Tb) (due:Int×Int) (N:Ba.Mx) (D:Nat->Int):Prop where
  pos:∀i,i<n->0<D i
  tab:∀i,i<n->∀j,j<n->t i j=fr (N i j) (D i)
  due:due=fr (Ba.det n N) (prodN n D)
theorem Iv.scale {n : Nat} {t t' : Tb} {due due' by_ : Int × Int} {N : Ba.Mx} {D : Nat -> Int} (v : Iv n t due N D) (hby : 0 < by_.2) {i : Nat} (hi : i < n) (h1 : ∀ j, j < n -> t' i j = fr (by_.1 * (t i j).1) (by_.2 * (t i j).2)) (h2 : ∀ k, k < n -> k ≠ i -> t' k = t k) (hd : due' = fr (by_.1 * due.1) (by_.2 * due.2)) :
    Iv n t' due' (Ba.setR N i (fun j=>by_.1*N i j)) (fun k=>if k=i then by_.2*D i else D k):=by
  have b0:by_.2≠0:=by omega
  have P:=prod_pos (f:=D) (n:=n) v.pos
  refine ⟨fun k hk=> ?_,fun k hk j hj=> ?_,?_⟩
  . show 0<if k=i then by_.2*D i else D k
    split
    . exact Int.mul_pos hby (v.pos i hi)
    . exact v.pos k hk
  . by_cases e:k=i
    . subst e
      rw [h1 j hj,v.tab k hk j hj,Ba.setR_same,if_pos rfl]
      have x:=fr_cross (a:=N k j) (b:=D k) (by have:=v.pos k hk;omega)
      have y:=fr_pos (a:=N k j) (b:=D k) (by have:=v.pos k hk;omega)
      refine fr_eq (Int.mul_ne_zero b0 (by omega)) (Int.mul_ne_zero b0 (by have:=v.pos k hk;omega)) ?_
      generalize fr (N k j) (D k)=z at *
      calc by_.1*z.1*(by_.2*D k)=by_.1*by_.2*(z.1*D k):=by ac_rfl
        _=_:=by rw [x];ac_rfl
    . rw [h2 k hk e,Ba.setR_ne e,if_neg e]
      exact v.tab k hk j hj
  . rw [hd,v.due,pr_upd (a:=by_.2) hi rfl,Ba.det_smul by_.1 hi,Ba.setR_self]
    have x:=fr_cross (a:=Ba.det n N) (b:=prodN n D) (by omega)
    have y:=fr_pos (a:=Ba.det n N) (b:=prodN n D) (by omega)
    refine fr_eq (Int.mul_ne_zero b0 (by omega)) (Int.mul_ne_zero b0 (by omega)) ?_
    generalize fr (Ba.det n N) (prodN n D)=z at *
    calc by_.1*z.1*(by_.2*prodN n D)=by_.1*by_.2*(z.1*prodN n D):=by ac_rfl
      _=_:=by rw [x];ac_rfl
theorem Iv.exch {n : Nat} {t t' : Tb} {due : Int × Int} {N : Ba.Mx} {D : Nat -> Int} (v : Iv n t due N D) {i s : Nat} (hi : i < n) (hs : s < n) (his : i ≠ s) (h1 : t' i = t s) (h2 : t' s = t i) (h3 : ∀ k, k < n -> k ≠ i -> k ≠ s -> t' k = t k) :
    Iv n t' (-due.1,due.2) (Ba.setR (Ba.setR N i (N s)) s (N i)) (fun k=>if k=i then D s else if k=s then D i else D k):=by
  have P:=prod_pos (f:=D) (n:=n) v.pos
  refine ⟨fun k hk=> ?_,fun k hk j hj=> ?_,?_⟩
  . show 0<if k=i then D s else if k=s then D i else D k
    split
    . exact v.pos s hs
    . split
      . exact v.pos i hi
      . exact v.pos k hk
  . by_cases e:k=i
    . subst e
      rw [h1,v.tab s hs j hj,Ba.setR_ne his,Ba.setR_same,if_pos rfl]
    . by_cases e2:k=s
      . subst e2
        rw [h2,v.tab i hi j hj,Ba.setR_same,if_neg e,if_pos rfl]
      . rw [h3 k hk e e2,v.tab k hk j hj,Ba.setR_ne e2,Ba.setR_ne e,if_neg e,if_neg e2]
  . rw [pr_swap hi hs,det_exc hi hs his,v.due]
    have x:=fr_cross (a:=Ba.det n N) (b:=prodN n D) (by omega)
    have y:=fr_pos (a:=Ba.det n N) (b:=prodN n D) (by omega)
    have g:=fr_gcd (a:=Ba.det n N) (b:=prodN n D) (by omega)
    generalize fr (Ba.det n N) (prodN n D)=z at *
    have x2:=fr_cross (a:= - Ba.det n N) (b:=prodN n D) (by omega)
    have y2:=fr_pos (a:= - Ba.det n N) (b:=prodN n D) (by omega)
    have g2:=fr_gcd (a:= - Ba.det n N) (b:=prodN n D) (by omega)
    generalize fr (- Ba.det n N) (prodN n D)=w at *
    have:=frac_cross (a:= -z.1) (b:=z.2) (c:=w.1) (d:=w.2) y y2 (by rw [Int.neg_gcd];exact g) g2 (by
      refine Int.eq_of_mul_eq_mul_right (show prodN n D≠0 by omega) ?_
      calc -z.1*w.2*prodN n D = -(z.1*prodN n D)*w.2:=by grind
        _=(- Ba.det n N*w.2)*z.2:=by rw [x];grind
        _=(w.1*prodN n D)*z.2:=by rw [x2]
        _=_:=by ac_rfl)
    exact this
theorem Iv.plus {n : Nat} {t t' : Tb} {due : Int × Int} {N : Ba.Mx} {D : Nat -> Int} (v : Iv n t due N D) {i s : Nat} {z : Int} (hi : i < n) (hs : s < n) (his : i ≠ s) (h1 : ∀ j, j < n -> t' i j = fr ((t i j).1 * (fr (z * (t s j).1) (1 * (t s j).2)).2 + (fr (z * (t s j).1) (1 * (t s j).2)).1 * (t i j).2) ((t i j).2 * (fr (z * (t s j).1) (1 * (t s j).2)).2)) (h3 : ∀ k, k < n -> k ≠ i -> t' k = t k) :
    Iv n t' due (Ba.setR N i (fun j=>D s*N i j+(z*D i)*N s j)) (fun k=>if k=i then D s*D i else D k):=by
  have P:=prod_pos (f:=D) (n:=n) v.pos
  have pi:=v.pos i hi
  have ps:=v.pos s hs
  refine ⟨fun k hk=> ?_,fun k hk j hj=> ?_,?_⟩
  . show 0<if k=i then D s*D i else D k
    split
    . exact Int.mul_pos ps pi
    . exact v.pos k hk
  . by_cases e:k=i
    . subst e
      rw [h1 j hj,v.tab k hk j hj,v.tab s hs j hj,Ba.setR_same,if_pos rfl]
      have e1:fr (z*(fr (N s j) (D s)).1) (1*(fr (N s j) (D s)).2)=fr (z*N s j) (D s):=by
        have x:=fr_cross (a:=N s j) (b:=D s) (by omega)
        have y:=fr_pos (a:=N s j) (b:=D s) (by omega)
        refine fr_eq (by rw [Int.one_mul];omega) (by omega) ?_
        generalize fr (N s j) (D s)=w at *
        rw [Int.one_mul,Int.mul_assoc,x]
        ac_rfl
      rw [e1,add_fr (by omega) (by omega)]
      refine fr_eq (Int.mul_ne_zero (by omega) (by omega)) (Int.mul_ne_zero (by omega) (by omega)) ?_
      grind
    . rw [h3 k hk e,Ba.setR_ne e,if_neg e]
      exact v.tab k hk j hj
  . rw [v.due,pr_upd (a:=D s) hi rfl,det_turn hi hs his]
    refine fr_eq (by omega) (Int.mul_ne_zero (by omega) (by omega)) ?_
    ac_rfl
theorem Iv.det{n:Nat}{t:Tb}{due:Int×Int}{N:Ba.Mx}{D:Nat->Int}(v:Iv n t due N D)(hb:∀i,i<n->0<cbN (t i) n/\∀j,j<n->(t i j).2 ∣ cbN (t i) n):prodN n D*Ba.det n (W n t)=prodN n (fun i=>cbN (t i) n)*Ba.det n N:=by
  rw [<-det_rows, <-det_rows]
  refine Ba.det_congr fun i hi j hj=> ?_
  show D i*((t i j).1*(cbN (t i) n).fdiv (t i j).2)=cbN (t i) n*N i j
  have pd:=v.pos i hi
  obtain ⟨c,hc⟩:=(hb i hi).2 j hj
  have tp:0<(t i j).2:=by rw [v.tab i hi j hj];exact fr_pos (by omega)
  have x:(t i j).1*D i=N i j*(t i j).2:=by rw [v.tab i hi j hj];exact fr_cross (by omega)
  rw [hc,Int.mul_fdiv_cancel_left _ (by omega)]
  calc D i*((t i j).1*c)=((t i j).1*D i)*c:=by ac_rfl
    _=_:=by rw [x];ac_rfl
theorem run_detI{n Dd T:Nat}{t:Tb}{due:Int×Int}{N:Ba.Mx}{D:Nat->Int}(v:Iv n t due N D)(k:TabOk n n Dd T t)(hP:(Dd ^ n) ^ n<2 ^ 8000):m_determinant [tabD n n t]=some (.val (encF due)):=by
  obtain ⟨q,e,q0,g,x⟩:=run_det k hP
  have cb:=fun i (hi:i<n)=>cb_all (r:=t i) (D:=Dd) (m:=n) fun j hj=>k.bot i hi j hj
  have dd:=v.det fun i hi=>⟨(cb i hi).1,(cb i hi).2.2⟩
  have P:=prod_pos (f:=D) (n:=n) v.pos
  have C:=prod_pos (f:=fun i=>cbN (t i) n) (n:=n) fun i hi=>(cb i hi).1
  have fx:=fr_cross (a:=Ba.det n N) (b:=prodN n D) (by omega)
  have fp:=fr_pos (a:=Ba.det n N) (b:=prodN n D) (by omega)
  have fg:=fr_gcd (a:=Ba.det n N) (b:=prodN n D) (by omega)
  have:q=due:=by
    rw [v.due]
    generalize fr (Ba.det n N) (prodN n D)=w at *
    refine frac_cross (a:=q.1) (b:=q.2) (c:=w.1) (d:=w.2) q0 fp g fg ?_
    have y:q.1*prodN n D=Ba.det n N*q.2:=by
      refine Int.eq_of_mul_eq_mul_right (show prodN n (fun i=>cbN (t i) n)≠0 by omega) ?_
      calc q.1*prodN n D*prodN n (fun i=>cbN (t i) n)=(q.1*prodN n (fun i=>cbN (t i) n))*prodN n D:=by ac_rfl
        _=(prodN n D*Ba.det n (W n t))*q.2:=by rw [x];ac_rfl
        _=_:=by rw [dd];ac_rfl
    refine Int.eq_of_mul_eq_mul_right (show prodN n D≠0 by omega) ?_
    calc q.1*w.2*prodN n D=(q.1*prodN n D)*w.2:=by ac_rfl
      _=(Ba.det n N*w.2)*q.2:=by rw [y];ac_rfl
      _=(w.1*prodN n D)*q.2:=by rw [fx]
      _=_:=by ac_rfl
  rw [<-this]
  exact e
theorem fm{a b:Int}(h:0<b):0<=a.fmod b/\a.fmod b<b:=⟨Int.fmod_nonneg_of_pos a h,Int.fmod_lt_of_pos a h⟩
theorem run_drawn(c:Int){j:Int}(h0:0<=j)(h1:j<100000):∃q,mLdrawn [.int c, .int j]=some (.val (encF q))/\Ok 60 1000000 q:=by
  obtain ⟨v,hv,v0,v1⟩:=run_mix c h0 (by omega)
  have m13:=fm (a:=v) (show (0:Int)<13 by decide)
  have m6:=fm (a:=v.fdiv 13) (show (0:Int)<6 by decide)
  have big:(2*10 ^ (6:Int).toNat - 1:Int)=1999999:=by decide
  have big2:(10 ^ (6:Int).toNat - 1:Int)=999999:=by decide
  obtain ⟨top2,ht2,hs2⟩:∃top2:Int,top2.natAbs<=1000000/\(mIf (mTest (mBin deq (mBin dMod (mPk 2) (mK (.int 5))) (mK (.int 0)))) (mAsg 3 (mBin dSub (mBin dMod (mBin dAdd (mBin dRep (mPk 0) (mBin dAdd (mPk 1) (mK (.int 1)))) (mPk 2)) (mBin dSub (mBin dRep (mK (.int 2)) (mBin dPow (mK (.int 10)) (mK (.int 6)))) (mK (.int 1)))) (mBin dSub (mBin dPow (mK (.int 10)) (mK (.int 6))) (mK (.int 1))))) mNext) [some (.val (.int c)),some (.val (.int j)),some (.val (.int v)),some (.val (.int (v.fmod 13 - 6)))]=some (.nx [some (.val (.int c)),some (.val (.int j)),some (.val (.int v)),some (.val (.int top2))]):=by
    have tst:(mTest (mBin deq (mBin dMod (mPk 2) (mK (.int 5))) (mK (.int 0)))) [some (.val (.int c)),some (.val (.int j)),some (.val (.int v)),some (.val (.int (v.fmod 13 - 6)))]=some (decide (v.fmod 5=0)):=by
      walk_at "ev"
      rw [modS (by decide)]
      walk_at "ev"
    by_cases h:v.fmod 5=0
    . have mb:=fm (a:=c*(j+1)+v) (show (0:Int)<1999999 by decide)
      refine ⟨(c*(j+1)+v).fmod 1999999 - 999999,by omega,if_to (b:=true) (by rw [tst,decide_eq_true h]) (asg_to ?_)⟩
      walk_at "ev"
      rw [mulS (cmR (by omega) (by omega)),powS (cpowC rfl)]
      walk_at "ev"
      rw [mulS (cmL (by decide) (by decide))]
      walk_at "ev"
      rw [big,big2,modS (by decide)]
      walk_at "ev"
    . exact ⟨v.fmod 13 - 6,by omega,if_to (b:=false) (by rw [tst,decide_eq_false h]) rfl⟩
  have hb:0<1+(v.fdiv 13).fmod 6:=by omega
  refine ⟨fr top2 (1+(v.fdiv 13).fmod 6),?_,ok_fr hb ?_ ?_⟩
  . refine runD_rt (ρ:= [some (.val (.int c)),some (.val (.int j)),none,none]) rfl rfl ?_
    unfold bLdrawn
    refine rts_seq (asg_to (call_to (ds:= [.int c, .int j]) rfl hv)) (rts_seq (asg_to (r:= .val (.int (v.fmod 13 - 6))) ?_) (rts_seq hs2 (rts_frz (rts_ret (call_to (ds:= [.int top2, .int (1+(v.fdiv 13).fmod 6)]) ?_ ?_)))))
    . walk_at "ev"
      rw [modS (by decide)]
      walk_at "ev"
    . show (mCons _ _) [some (.val (.int c)),some (.val (.int j)),some (.val (.int v)),some (.val (.int top2))]=_
      walk_at "ev"
      rw [divS (cdivC rfl)]
      walk_at "ev"
      rw [modS (by decide)]
      walk_at "ev"
    . exact run_lfrac hb (by unfold Bt; have : (1 + (v.fdiv 13).fmod 6).natAbs < 2 ^ 3 := by omega
                             exact Nat.lt_of_lt_of_le this (Nat.pow_le_pow_right (by decide) (by decide)))
  . generalize (v.fdiv 13).fmod 6=y at *
    rcases (by omega:y=0\/y=1\/y=2\/y=3\/y=4\/y=5) with e | e | e | e | e | e <;> subst e <;> decide
  . have:1<=(1+(v.fdiv 13).fmod 6).natAbs:=by omega
    exact Nat.le_trans ht2 (Nat.le_mul_of_pos_right _ this)
theorem nat_fmod(v:Int){n:Nat}(h:1<=n):∃i:Nat,v.fmod (n:Int)=(i:Int)/\i<n:=by
  have:=fm (a:=v) (b:=(n:Int)) (by omega)
  exact ⟨(v.fmod (n:Int)).toNat,by omega,by omega⟩
theorem other_row{n i:Nat}(v:Int)(h1:1<=n)(h6:n<=6)(hi:i<n):∃s:Nat,((i:Int)+1+v.fmod (max 1 ((n:Int) - 1))).fmod (n:Int)=(s:Int)/\s<n/\(n=1\/i≠s):=by
  obtain ⟨s,hs,hsn⟩:=nat_fmod ((i:Int)+1+v.fmod (max 1 ((n:Int) - 1))) h1
  refine ⟨s,hs,hsn,?_⟩
  by_cases e:n=1
  . exact .inl e
  . refine .inr fun q=> ?_
    subst q
    have hm:max (1:Int) ((n:Int) - 1)=(n:Int) - 1:=by omega
    rw [hm] at hs
    have:=fm (a:=v) (b:=(n:Int) - 1) (by omega)
    generalize v.fmod ((n:Int) - 1)=a at *
    rw [Int.fmod_eq_emod_of_nonneg _ (by omega)] at hs
    rcases (by omega:n=2\/n=3\/n=4\/n=5\/n=6) with e | e | e | e | e <;> subst e <;> omega
theorem by_eight(v:Int)(ρ:En){f:En->Option Sl}(hf:f ρ=some (.val (.int (v.fmod 8)))):∃b:Int×Int,(mBin dix (mLst (mCons (mTup (mCons (mUn (iun fun i=> -i) (mK (.int 1))) (mCons (mK (.int 1)) mNil))) (mCons (mTup (mCons (mK (.int 2)) (mCons (mK (.int 1)) mNil))) (mCons (mTup (mCons (mK (.int 1)) (mCons (mK (.int 2)) mNil))) (mCons (mTup (mCons (mUn (iun fun i=> -i) (mK (.int 2))) (mCons (mK (.int 1)) mNil))) (mCons (mTup (mCons (mUn (iun fun i=> -i) (mK (.int 1))) (mCons (mK (.int 2)) mNil))) (mCons (mTup (mCons (mK (.int 3)) (mCons (mK (.int 1)) mNil))) (mCons (mTup (mCons (mK (.int 1)) (mCons (mK (.int 3)) mNil))) (mCons (mTup (mCons (mUn (iun fun i=> -i) (mK (.int 1))) (mCons (mK (.int 3)) mNil))) mNil))))))))) f) ρ=some (.val (encF b))/\0<b.2/\b.2 ∣ 6/\b.1.natAbs<=3*b.2.natAbs/\b.1≠0/\b.2.natAbs<=3:=by
  have m8:=fm (a:=v) (show (0:Int)<8 by decide)
  have e:(mLst (mCons (mTup (mCons (mUn (iun fun i=> -i) (mK (.int 1))) (mCons (mK (.int 1)) mNil))) (mCons (mTup (mCons (mK (.int 2)) (mCons (mK (.int 1)) mNil))) (mCons (mTup (mCons (mK (.int 1)) (mCons (mK (.int 2)) mNil))) (mCons (mTup (mCons (mUn (iun fun i=> -i) (mK (.int 2))) (mCons (mK (.int 1)) mNil))) (mCons (mTup (mCons (mUn (iun fun i=> -i) (mK (.int 1))) (mCons (mK (.int 2)) mNil))) (mCons (mTup (mCons (mK (.int 3)) (mCons (mK (.int 1)) mNil))) (mCons (mTup (mCons (mK (.int 1)) (mCons (mK (.int 3)) mNil))) (mCons (mTup (mCons (mUn (iun fun i=> -i) (mK (.int 1))) (mCons (mK (.int 3)) mNil))) mNil))))))))) ρ=some (.own [encF (-1,1),encF (2,1),encF (1,2),encF (-2,1),encF (-1,2),encF (3,1),encF (1,3),encF (-1,3)]):=by
    have s2:(0+1+1:Nat)<=sizeLine:=Nat.le_trans (by decide) small64
    have s8:(0+1+1+1+1+1+1+1+1:Nat)<=sizeLine:=Nat.le_trans (by decide) small64
    walk_at "ev"
    simp only [s2,s8,if_true,Option.bind_some,Sl.dat,List.length_cons,List.length_nil,encF]
  rw [bin_eq e hf]
  rcases (by omega:v.fmod 8=0\/v.fmod 8=1\/v.fmod 8=2\/v.fmod 8=3\/v.fmod 8=4\/v.fmod 8=5\/v.fmod 8=6\/v.fmod 8=7) with h | h | h | h | h | h | h | h <;> rw [h]
  . exact ⟨(-1,1),rfl,by decide,by decide,by decide,by decide,by decide⟩
  . exact ⟨(2,1),rfl,by decide,by decide,by decide,by decide,by decide⟩
  . exact ⟨(1,2),rfl,by decide,by decide,by decide,by decide,by decide⟩
  . exact ⟨(-2,1),rfl,by decide,by decide,by decide,by decide,by decide⟩
  . exact ⟨(-1,2),rfl,by decide,by decide,by decide,by decide,by decide⟩
  . exact ⟨(3,1),rfl,by decide,by decide,by decide,by decide,by decide⟩
  . exact ⟨(1,3),rfl,by decide,by decide,by decide,by decide,by decide⟩
  . exact ⟨(-1,3),rfl,by decide,by decide,by decide,by decide,by decide⟩
def rowsD(n m:Nat)(t:Tb):List PyData:=(List.range n).map fun i=>frD m (t i)
theorem rows_set{n m i:Nat}{t:Tb}{r:Nat->Int×Int}:(rowsD n m t).set i (frD m r)=rowsD n m (fun k=>if k=i then r else t k):=by
  unfold rowsD
  rw [set_range]
  refine List.map_congr_left fun k _=> ?_
  by_cases h:k=i
  . rw [if_pos h];simp only [h,if_true]
  . rw [if_neg h];simp only [h,if_false]
theorem len_rows{n m:Nat}{t:Tb}:(rowsD n m t).length=n:=by simp [rowsD]
theorem dix_tab{n m i:Nat}{t:Tb}(h:i<n):dix (.val (tabD n m t)) (.val (.int (i:Int)))=some (.val (frD m (t i))):=by
  unfold dix tabD
  simp only [Sl.dat,atI_range h,Option.map_some]
theorem lc_scale {m : Nat} {r : Nat -> Int × Int} {b : Int × Int} {ρ : En} {fr0 : En -> Option Sl} (hm : m <= 6) (h7 : (ρ[8]?).join = some (.val (encF b))) (hr : fr0 ρ = some (.val (frD m r)))
    (hb:0<b.2) (B1:Bt 4000 b.1) (B2:Bt 4000 b.2) (hp:∀j,j<m->0<(r j).2/\Bt 4000 (r j).1/\Bt 4000 (r j).2) :
    (mLC (subE [some 8,none]) (mItems fr0) (gVar 1) mYes (mCall mLtimes (mCons (mVar 0) (mCons (mVar 1) mNil)))) ρ=some (.own ((List.range m).map fun j=>encF (fr (b.1*(r j).1) (b.2*(r j).2)))):=by
  refine lc_to (ds:=(List.range m).map fun j=>encF (r j)) ?_ ?_ (compM_map fun j hj=> ?_)
  . unfold mItems frD at *
    rw [hr]
    rfl
  . have:(200:Nat)<=sizeLine:=small64
    rw [List.length_map,List.length_range];omega
  . have hj:=List.mem_range.mp hj
    obtain ⟨p1,p2,p3⟩:=hp j hj
    have e:subE [some 8,none] ρ = [some (.val (encF b)),none]:=by
      unfold subE
      simp only [List.map_cons,List.map_nil,h7]
    rw [e]
    exact elM_to (r:= .val (encF (fr (b.1*(r j).1) (b.2*(r j).2)))) rfl rfl (call_to (ds:= [encF b,encF (r j)]) rfl (run_ltimes hb p1 B1 p2 B2 p3))
theorem lc_plus {m : Nat} {r s : Nat -> Int × Int} {z : Int} {ρ : En} {f1 f2 : En -> Option Sl} (hm : m <= 6) (h7 : (ρ[8]?).join = some (.val (encF (z, 1)))) (hr : f1 ρ = some (.val (frD m r))) (hs : f2 ρ = some (.val (frD m s)))
    (hz:z.natAbs<=2) (hp:∀j,j<m->0<(r j).2/\Bt 4000 (r j).1/\Bt 4000 (r j).2) (hq:∀j,j<m->0<(s j).2/\Bt 3000 (s j).1/\Bt 4000 (s j).2) :
    (mLC (subE [some 8,none,none]) (mZip (mCons f1 (mCons f2 mNil))) (gTupD [(gVar 1),(gVar 2)]) mYes (mCall mLplus (mCons (mVar 1) (mCons (mCall mLtimes (mCons (mVar 0) (mCons (mVar 2) mNil))) mNil)))) ρ=some (.own ((List.range m).map fun j=>encF (fr ((r j).1*(fr (z*(s j).1) (1*(s j).2)).2+(fr (z*(s j).1) (1*(s j).2)).1*(r j).2) ((r j).2*(fr (z*(s j).1) (1*(s j).2)).2)))):=by
  refine lc_to (ds:=(List.range m).map fun j=> .tuple [encF (r j),encF (s j)]) ?_ ?_ (compM_map fun j hj=> ?_)
  . unfold mZip
    rw [cons_to hr (cons_to hs rfl)]
    show some (zipD ((List.range m).map fun j=>encF (r j)) ((List.range m).map fun j=>encF (s j)))=_
    rw [zip_range]
  . have:(200:Nat)<=sizeLine:=small64
    rw [List.length_map,List.length_range];omega
  . have hj:=List.mem_range.mp hj
    obtain ⟨p1,p2,p3⟩:=hp j hj
    obtain ⟨q1,q2,q3⟩:=hq j hj
    have e:subE [some 8,none,none] ρ = [some (.val (encF (z,1))),none,none]:=by
      unfold subE
      simp only [List.map_cons,List.map_nil,h7]
    rw [e]
    have zb:Bt 2 z:=by unfold Bt;omega
    have o1:Bt 1 (1:Int):=by unfold Bt;decide
    have n1:(1:Int)*(s j).2≠0:=by omega
    have t1:=run_ltimes (a:=(z,1)) (b:=s j) (show (0:Int)<1 by decide) q1 (zb.mono (by decide)) (q2.mono (by decide)) (o1.mono (by decide)) q3
    have wb:=fr_bt (n:=4000) ((zb.mul q2).mono (by decide)) (show Bt 4000 (1*(s j).2) by rw [Int.one_mul];exact q3)
    have t2:=run_lplus (a:=r j) (b:=fr (z*(s j).1) (1*(s j).2)) p1 (fr_pos n1) p2 wb.1 p3 wb.2
    refine elM_to (ρ1:= [some (.val (encF (z,1))),some (.val (encF (r j))),some (.val (encF (s j)))]) (r:= .val (encF (fr ((r j).1*(fr (z*(s j).1) (1*(s j).2)).2+(fr (z*(s j).1) (1*(s j).2)).1*(r j).2) ((r j).2*(fr (z*(s j).1) (1*(s j).2)).2)))) rfl rfl ?_
    exact call_to (cons_to (a:= .val (encF (r j))) rfl (cons_to (call_to (ds:= [encF (z,1),encF (s j)]) rfl t1) rfl)) t2
theorem ok_bt{E:Int}{V:Nat}{q:Int×Int}(h:Ok E V q)(e0:0<E)(hE:E.natAbs<2 ^ 1000)(hV:V<2 ^ 1000):Bt 2000 q.1/\Bt 1000 q.2:=by
  have l:q.2.natAbs<=E.natAbs:=Nat.le_of_dvd (by omega) (Int.natAbs_dvd_natAbs.mpr h.dvd)
  refine ⟨?_,Nat.lt_of_le_of_lt l hE⟩
  unfold Bt
  refine Nat.lt_of_le_of_lt h.val ?_
  rw [show (2:Nat) ^ 2000=2 ^ 1000*2 ^ 1000 from Nat.pow_add 2 1000 1000]
  exact Nat.mul_lt_mul'' hV (Nat.lt_of_le_of_lt l hE)
theorem Ok.neg{E:Int}{V:Nat}{q:Int×Int}(h:Ok E V q):Ok E V (-q.1,q.2):=⟨h.pos,by show Int.gcd (-q.1) q.2=1;rw [Int.neg_gcd];exact h.gcd,h.dvd,by show (-q.1).natAbs<=_;rw [Int.natAbs_neg];exact h.val⟩
theorem run_turned {n V U : Nat} {t : Tb} {E F : Int} {due : Int × Int} {N : Ba.Mx} {D : Nat -> Int} (h1 : 1 <= n) (h6 : n <= 6) (e0 : 0 < E) (hE : E.natAbs < 2 ^ 1000) (hV : V < 2 ^ 1000) (f0 : 0 < F) (hF : F.natAbs < 2 ^ 1000) (hU : U < 2 ^ 1000)
    (ht:∀i,i<n->∀j,j<n->Ok E V (t i j)) (hd:Ok F U due) (iv:Iv n t due N D) (c:Int) :
    ∃t' due' N' D',mLturned [tabD n n t,encF due, .int c]=some (.val (.tuple [tabD n n t',encF due']))/\(∀i,i<n->∀j,j<n->Ok (6*E) (3*V) (t' i j))/\Ok (6*F) (3*U) due'/\Iv n t' due' N' D':=by
  obtain ⟨v50,hv50,_,_⟩:=run_mix c (j:=50) (by decide) (by decide)
  obtain ⟨v51,hv51,_,_⟩:=run_mix c (j:=51) (by decide) (by decide)
  obtain ⟨v52,hv52,_,_⟩:=run_mix c (j:=52) (by decide) (by decide)
  obtain ⟨v53,hv53,_,_⟩:=run_mix c (j:=53) (by decide) (by decide)
  obtain ⟨v54,hv54,_,_⟩:=run_mix c (j:=54) (by decide) (by decide)
  obtain ⟨i,hi,hin⟩:=nat_fmod v50 h1
  obtain ⟨s,hs,hsn,his⟩:=other_row v51 h1 h6 hin
  have hb:∀i,i<n->∀j,j<n->0<(t i j).2:=fun i hi j hj=>(ht i hi j hj).pos
  have bt:∀i,i<n->∀j,j<n->0<(t i j).2/\Bt 2000 (t i j).1/\Bt 1000 (t i j).2:=fun i hi j hj=>⟨hb i hi j hj,ok_bt (ht i hi j hj) e0 hE hV⟩
  have dt:=ok_bt hd f0 hF hU
  have up:∀ {q:Int×Int},Ok E V q->Ok (6*E) (3*V) q:=fun h=>h.mono ⟨6,Int.mul_comm _ _⟩ (by omega)
  have upd:∀ {q:Int×Int},Ok F U q->Ok (6*F) (3*U) q:=fun h=>h.mono ⟨6,Int.mul_comm _ _⟩ (by omega)
  have two:∀ {f g:En->Option Sl} {ρ:En} {a b:Sl},f ρ=some a->g ρ=some b->mTup (mCons f (mCons g mNil)) ρ=some (.val (.tuple [a.dat,b.dat])):=fun {f g ρ a b} hf hg=>by
    unfold mTup
    rw [cons_to hf (cons_to (as:= []) hg rfl),Option.bind_some,if_pos (show [a.dat,b.dat].length<=sizeLine from Nat.le_trans (show 2<=200 by decide) small64)]
  have setup:∀ {r:Sl},Rts (mSeq (mIf (mOr (mTest (mBin deq (mPk 3) (mK (.int 1)))) (mTest (mBin deq (mPk 6) (mK (.int 0))))) (mSeq (mAsg 8 (mBin dix (mLst (mCons (mTup (mCons (mUn (iun fun i=> -i) (mK (.int 1))) (mCons (mK (.int 1)) mNil))) (mCons (mTup (mCons (mK (.int 2)) (mCons (mK (.int 1)) mNil))) (mCons (mTup (mCons (mK (.int 1)) (mCons (mK (.int 2)) mNil))) (mCons (mTup (mCons (mUn (iun fun i=> -i) (mK (.int 2))) (mCons (mK (.int 1)) mNil))) (mCons (mTup (mCons (mUn (iun fun i=> -i) (mK (.int 1))) (mCons (mK (.int 2)) mNil))) (mCons (mTup (mCons (mK (.int 3)) (mCons (mK (.int 1)) mNil))) (mCons (mTup (mCons (mK (.int 1)) (mCons (mK (.int 3)) mNil))) (mCons (mTup (mCons (mUn (iun fun i=> -i) (mK (.int 1))) (mCons (mK (.int 3)) mNil))) mNil))))))))) (mBin dMod (mCall mLmix (mCons (mVar 2) (mCons (mK (.int 53)) mNil))) (mK (.int 8))))) (mSeq (mFrz 8 (mSet 7 (mPk 4) (mLC (subE [some 8,none]) (mItems (mBin dix (mPk 0) (mPk 4))) (gVar 1) mYes (mCall mLtimes (mCons (mVar 0) (mCons (mVar 1) mNil)))))) (mFrz 7 (mFrz 8 (mRet (mTup (mCons (mVar 7) (mCons (mCall mLtimes (mCons (mVar 8) (mCons (mVar 1) mNil))) mNil)))))))) mNext) (mSeq (mIf (mTest (mBin deq (mPk 6) (mK (.int 1)))) (mSeq (mSet 7 (mPk 4) (mBin dix (mPk 0) (mPk 5))) (mSeq (mSet 7 (mPk 5) (mBin dix (mPk 0) (mPk 4))) (mFrz 7 (mRet (mTup (mCons (mVar 7) (mCons (mTup (mCons (mUn (iun fun i=> -i) (mBin dix (mPk 1) (mK (.int 0)))) (mCons (mBin dix (mPk 1) (mK (.int 1))) mNil))) mNil))))))) mNext) (mSeq (mAsg 8 (mTup (mCons (mBin dSub (mBin dMod (mCall mLmix (mCons (mVar 2) (mCons (mK (.int 54)) mNil))) (mK (.int 3))) (mK (.int 1))) (mCons (mK (.int 1)) mNil)))) (mSeq (mFrz 8 (mSet 7 (mPk 4) (mLC (subE [some 8,none,none]) (mZip (mCons (mBin dix (mPk 0) (mPk 4)) (mCons (mBin dix (mPk 0) (mPk 5)) mNil))) (gTupD [(gVar 1),(gVar 2)]) mYes (mCall mLplus (mCons (mVar 1) (mCons (mCall mLtimes (mCons (mVar 0) (mCons (mVar 2) mNil))) mNil)))))) (mFrz 7 (mRet (mTup (mCons (mVar 7) (mCons (mVar 1) mNil))))))))) [some (.val (tabD n n t)),some (.val (encF due)),some (.val (.int c)),some (.val (.int n)),some (.val (.int i)),some (.val (.int s)),some (.val (.int (v52.fmod 4))),some (.own (rowsD n n t)),none] r->mLturned [tabD n n t,encF due, .int c]=some r:=fun k=>by
    refine runD_rt (ρ:= [some (.val (tabD n n t)),some (.val (encF due)),some (.val (.int c)),none,none,none,none,none,none]) rfl rfl ?_
    unfold bLturned
    refine rts_seq (asg_to (r:= .val (.int n)) (callP_to (consP_to (a:= .val (tabD n n t)) rfl rfl) (by simp only [dLen,Sl.dat,tabD,List.length_map,List.length_range]))) ?_
    refine rts_seq (asg_to (r:= .val (.int i)) ((bin_eq (a:= .val (.int v50)) (b:= .val (.int n)) (call_to (ds:= [.int c, .int 50]) rfl hv50) rfl).trans (by rw [modS (by omega),hi]))) ?_
    refine rts_seq (asg_to (r:= .val (.int s)) ((bin_eq (a:= .val (.int ((i:Int)+1+v51.fmod (max 1 ((n:Int) - 1))))) (b:= .val (.int n)) ?_ rfl).trans (by rw [modS (by omega),hs]))) ?_
    . refine (bin_eq (a:= .val (.int ((i:Int)+1))) (b:= .val (.int (v51.fmod (max 1 ((n:Int) - 1))))) rfl ?_).trans rfl
      refine (bin_eq (a:= .val (.int v51)) (b:= .val (.int (max 1 ((n:Int) - 1)))) (call_to (ds:= [.int c, .int 51]) rfl hv51) ?_).trans (modS (by omega))
      refine callP_to (ss:= [.val (.int 1), .val (.int ((n:Int) - 1))]) rfl ?_
      unfold dMax
      simp only []
      congr 3
      split <;> omega
    refine rts_seq (asg_to (r:= .val (.int (v52.fmod 4))) ((bin_eq (a:= .val (.int v52)) (b:= .val (.int 4)) (call_to (ds:= [.int c, .int 52]) rfl hv52) rfl).trans (modS (by decide)))) ?_
    refine rts_seq (asg_to (r:= .own (rowsD n n t)) (callP_to (consP_to (a:= .val (tabD n n t)) rfl rfl) rfl)) ?_
    exact k
  by_cases hc:n=1\/v52.fmod 4=0
  . have hc':((n:Int)=1)\/v52.fmod 4=0:=by omega
    obtain ⟨b,b1,b2,b3,b4,b5,b6⟩:=by_eight v53 [some (.val (tabD n n t)),some (.val (encF due)),some (.val (.int c)),some (.val (.int n)),some (.val (.int i)),some (.val (.int s)),some (.val (.int (v52.fmod 4))),some (.own (rowsD n n t)),none]
      (f:=(mBin dMod (mCall mLmix (mCons (mVar 2) (mCons (mK (.int 53)) mNil))) (mK (.int 8)))) ((bin_eq (a:= .val (.int v53)) (b:= .val (.int 8)) (call_to (ds:= [.int c, .int 53]) rfl hv53) rfl).trans (modS (by decide)))
    have bB1:Bt 4 b.1:=by unfold Bt;omega
    have bB2:Bt 4 b.2:=by unfold Bt;omega
    refine ⟨(fun k=>if k=i then fun j=>fr (b.1*(t i j).1) (b.2*(t i j).2) else t k),fr (b.1*due.1) (b.2*due.2),_,_,setup (rts_seqR (rts_if (b:=true) ?_ (rts_seq (asg_to b1) (rts_seq (ρ':= [some (.val (tabD n n t)),some (.val (encF due)),some (.val (.int c)),some (.val (.int n)),some (.val (.int i)),some (.val (.int s)),some (.val (.int (v52.fmod 4))),some (.own (rowsD n n (fun k=>if k=i then fun j=>fr (b.1*(t i j).1) (b.2*(t i j).2) else t k))),some (.val (encF b))]) ?_ (rts_frz (rts_frz (rts_ret (two (a:= .val (tabD n n (fun k=>if k=i then fun j=>fr (b.1*(t i j).1) (b.2*(t i j).2) else t k))) (b:= .val (encF (fr (b.1*due.1) (b.2*due.2)))) rfl (call_to (ds:= [encF b,encF due]) rfl (run_ltimes b2 hd.pos (bB1.mono (by decide)) (dt.1.mono (by decide)) (bB2.mono (by decide)) (dt.2.mono (by decide))))))))))))
      ,fun k hk j hj=> ?_,ok_times b2 b3 b4 hd,Iv.scale (by_:=b) iv b2 hin (fun j hj=> ?_) (fun k hk q=> ?_) rfl⟩
    . unfold mOr
      rw [test_eq (b:=decide ((n:Int)=1)) ((bin_eq (a:= .val (.int n)) (b:= .val (.int 1)) rfl rfl).trans (deq_int _ _)),test_eq (b:=decide (v52.fmod 4=0)) ((bin_eq (a:= .val (.int (v52.fmod 4))) (b:= .val (.int 0)) rfl rfl).trans (deq_int _ _)),Option.bind_some]
      by_cases q:(n:Int)=1
      . rw [decide_eq_true q];rfl
      . rw [decide_eq_false q,decide_eq_true (hc'.resolve_left q)];rfl
    . show mSet 7 _ _ [some (.val (tabD n n t)),some (.val (encF due)),some (.val (.int c)),some (.val (.int n)),some (.val (.int i)),some (.val (.int s)),some (.val (.int (v52.fmod 4))),some (.own (rowsD n n t)),some (.val (encF b))]=_
      refine (set_to (j:=i) (k:=(i:Int)) (ds:=rowsD n n t) (lc_scale (b:=b) (r:=t i) h6 rfl ((bin_eq (a:= .val (tabD n n t)) (b:= .val (.int i)) rfl rfl).trans (dix_tab hin)) b2 (bB1.mono (by decide)) (bB2.mono (by decide)) fun j hj=> ?_) rfl rfl (by rw [len_rows];exact ixN_nat hin)).trans ?_
      . obtain ⟨p1,p2,p3⟩:=bt i hin j hj
        exact ⟨p1,p2.mono (by decide),p3.mono (by decide)⟩
      . have e:=rows_set (n:=n) (m:=n) (i:=i) (t:=t) (r:=fun j=>fr (b.1*(t i j).1) (b.2*(t i j).2))
        rw [<-e]
        rfl
    . by_cases q:k=i
      . subst q;simp only [if_true];exact ok_times b2 b3 b4 (ht k hk j hj)
      . simp only [q,if_false];exact up (ht k hk j hj)
    . simp only [if_true]
    . simp only [q,if_false]
  . have hn1:n≠1:=fun q=>hc (.inl q)
    have hw0:v52.fmod 4≠0:=fun q=>hc (.inr q)
    have hne:i≠s:=his.resolve_left hn1
    have tst:(mOr (mTest (mBin deq (mPk 3) (mK (.int 1)))) (mTest (mBin deq (mPk 6) (mK (.int 0))))) [some (.val (tabD n n t)),some (.val (encF due)),some (.val (.int c)),some (.val (.int n)),some (.val (.int i)),some (.val (.int s)),some (.val (.int (v52.fmod 4))),some (.own (rowsD n n t)),none]=some false:=by
      unfold mOr
      rw [test_eq (b:=decide ((n:Int)=1)) ((bin_eq (a:= .val (.int n)) (b:= .val (.int 1)) rfl rfl).trans (deq_int _ _)),test_eq (b:=decide (v52.fmod 4=0)) ((bin_eq (a:= .val (.int (v52.fmod 4))) (b:= .val (.int 0)) rfl rfl).trans (deq_int _ _)),Option.bind_some,decide_eq_false (by omega),decide_eq_false hw0]
      rfl
    have tst2:(mTest (mBin deq (mPk 6) (mK (.int 1)))) [some (.val (tabD n n t)),some (.val (encF due)),some (.val (.int c)),some (.val (.int n)),some (.val (.int i)),some (.val (.int s)),some (.val (.int (v52.fmod 4))),some (.own (rowsD n n t)),none]=some (decide (v52.fmod 4=1)):=test_eq ((bin_eq (a:= .val (.int (v52.fmod 4))) (b:= .val (.int 1)) rfl rfl).trans (deq_int _ _))
    by_cases hw:v52.fmod 4=1
    . refine ⟨(fun k => if k = s then t i else (fun k => if k = i then t s else t k) k), (-due.1, due.2), _, _, setup (rts_seq (ρ' := [some (.val (tabD n n t)), some (.val (encF due)), some (.val (.int c)), some (.val (.int n)), some (.val (.int i)), some (.val (.int s)), some (.val (.int (v52.fmod 4))), some (.own (rowsD n n t)), none]) (if_to (b := false) tst rfl) (rts_seqR (rts_if (b := true) (by rw [tst2, decide_eq_true hw]) (rts_seq (set_to (r := .val (frD n (t s))) (j := i) (k := (i : Int)) (ds := rowsD n n t) ((bin_eq (a := .val (tabD n n t)) (b := .val (.int s)) rfl rfl).trans (dix_tab hsn)) rfl rfl (by rw [len_rows]; exact ixN_nat hin)) (rts_seq (ρ' := [some (.val (tabD n n t)), some (.val (encF due)), some (.val (.int c)), some (.val (.int n)), some (.val (.int i)), some (.val (.int s)), some (.val (.int (v52.fmod 4))), some (.own (rowsD n n (fun k => if k = s then t i else (fun k => if k = i then t s else t k) k))), none]) ?_ (rts_frz (rts_ret (two (a := .val (tabD n n (fun k => if k = s then t i else (fun k => if k = i then t s else t k) k))) (b := .val (encF (-due.1, due.2))) rfl ?_))))))))
        ,fun k hk j hj=> ?_,upd hd.neg,Iv.exch iv hin hsn hne ?_ ?_ (fun k hk q1 q2=> ?_)⟩
      . simp only [Sl.dat]
        rw [rows_set]
        refine (set_to (r:= .val (frD n (t i))) (j:=s) (k:=(s:Int)) (ds:=rowsD n n (fun k=>if k=i then t s else t k)) ((bin_eq (a:= .val (tabD n n t)) (b:= .val (.int i)) rfl rfl).trans (dix_tab hin)) rfl rfl (by rw [len_rows];exact ixN_nat hsn)).trans ?_
        simp only [Sl.dat]
        rw [rows_set]
        rfl
      . refine two (a:= .val (.int (-due.1))) (b:= .val (.int due.2)) ?_ ?_
        . unfold mUn
          rw [(bin_eq (fa:=mPk 1) (fb:=mK (.int 0)) (a:= .val (encF due)) (b:= .val (.int 0)) rfl rfl).trans (dix_f0 due)]
          rfl
        . exact (bin_eq (a:= .val (encF due)) (b:= .val (.int 1)) rfl rfl).trans (dix_f1 due)
      . by_cases q:k=s
        . simp only [q,if_true];exact up (ht i hin j hj)
        . by_cases q2:k=i
          . subst q2;simp only [q,if_false,if_true];exact up (ht s hsn j hj)
          . simp only [q,q2,if_false];exact up (ht k hk j hj)
      . simp only [hne,if_false,if_true]
      . simp only [if_true]
      . simp only [q1,q2,if_false]
    . have m3:=fm (a:=v54) (show (0:Int)<3 by decide)
      have zb:(v54.fmod 3 - 1).natAbs<=2:=by omega
      refine ⟨(fun k=>if k=i then fun j=>fr ((t i j).1*(fr ((v54.fmod 3 - 1)*(t s j).1) (1*(t s j).2)).2+(fr ((v54.fmod 3 - 1)*(t s j).1) (1*(t s j).2)).1*(t i j).2) ((t i j).2*(fr ((v54.fmod 3 - 1)*(t s j).1) (1*(t s j).2)).2) else t k),due,_,_,setup (rts_seq (ρ':= [some (.val (tabD n n t)),some (.val (encF due)),some (.val (.int c)),some (.val (.int n)),some (.val (.int i)),some (.val (.int s)),some (.val (.int (v52.fmod 4))),some (.own (rowsD n n t)),none]) (if_to (b:=false) tst rfl) (rts_seq (ρ':= [some (.val (tabD n n t)),some (.val (encF due)),some (.val (.int c)),some (.val (.int n)),some (.val (.int i)),some (.val (.int s)),some (.val (.int (v52.fmod 4))),some (.own (rowsD n n t)),none]) (if_to (b:=false) (by rw [tst2,decide_eq_false hw]) rfl) (rts_seq (asg_to (r:= .val (encF ((v54.fmod 3 - 1),1))) ?_) (rts_seq (ρ':= [some (.val (tabD n n t)),some (.val (encF due)),some (.val (.int c)),some (.val (.int n)),some (.val (.int i)),some (.val (.int s)),some (.val (.int (v52.fmod 4))),some (.own (rowsD n n (fun k=>if k=i then fun j=>fr ((t i j).1*(fr ((v54.fmod 3 - 1)*(t s j).1) (1*(t s j).2)).2+(fr ((v54.fmod 3 - 1)*(t s j).1) (1*(t s j).2)).1*(t i j).2) ((t i j).2*(fr ((v54.fmod 3 - 1)*(t s j).1) (1*(t s j).2)).2) else t k))),some (.val (encF ((v54.fmod 3 - 1),1)))]) ?_ (rts_frz (rts_ret (two (a:= .val (tabD n n (fun k=>if k=i then fun j=>fr ((t i j).1*(fr ((v54.fmod 3 - 1)*(t s j).1) (1*(t s j).2)).2+(fr ((v54.fmod 3 - 1)*(t s j).1) (1*(t s j).2)).1*(t i j).2) ((t i j).2*(fr ((v54.fmod 3 - 1)*(t s j).1) (1*(t s j).2)).2) else t k))) (b:= .val (encF due)) rfl rfl))))))),
        fun k hk j hj=> ?_,upd hd,Iv.plus (z:=(v54.fmod 3 - 1)) iv hin hsn hne (fun j hj=> ?_) (fun k hk q=> ?_)⟩
      . exact two (a:= .val (.int (v54.fmod 3 - 1))) (b:= .val (.int 1)) ((bin_eq (a:= .val (.int (v54.fmod 3))) (b:= .val (.int 1)) ((bin_eq (a:= .val (.int v54)) (b:= .val (.int 3)) (call_to (ds:= [.int c, .int 54]) rfl hv54) rfl).trans (modS (by decide))) rfl).trans rfl) rfl
      . show mSet 7 _ _ [some (.val (tabD n n t)),some (.val (encF due)),some (.val (.int c)),some (.val (.int n)),some (.val (.int i)),some (.val (.int s)),some (.val (.int (v52.fmod 4))),some (.own (rowsD n n t)),some (.val (encF ((v54.fmod 3 - 1),1)))]=_
        refine (set_to (j:=i) (k:=(i:Int)) (ds:=rowsD n n t) (lc_plus (z:=(v54.fmod 3 - 1)) (r:=t i) (s:=t s) h6 rfl ((bin_eq (a:= .val (tabD n n t)) (b:= .val (.int i)) rfl rfl).trans (dix_tab hin)) ((bin_eq (a:= .val (tabD n n t)) (b:= .val (.int s)) rfl rfl).trans (dix_tab hsn)) zb (fun j hj=> ?_) (fun j hj=> ?_)) rfl rfl (by rw [len_rows];exact ixN_nat hin)).trans ?_
        . obtain ⟨p1,p2,p3⟩:=bt i hin j hj
          exact ⟨p1,p2.mono (by decide),p3.mono (by decide)⟩
        . obtain ⟨p1,p2,p3⟩:=bt s hsn j hj
          exact ⟨p1,p2.mono (by decide),p3.mono (by decide)⟩
        . have e:=rows_set (n:=n) (m:=n) (i:=i) (t:=t) (r:=fun j=>fr ((t i j).1*(fr ((v54.fmod 3 - 1)*(t s j).1) (1*(t s j).2)).2+(fr ((v54.fmod 3 - 1)*(t s j).1) (1*(t s j).2)).1*(t i j).2) ((t i j).2*(fr ((v54.fmod 3 - 1)*(t s j).1) (1*(t s j).2)).2))
          rw [<-e]
          rfl
      . by_cases q:k=i
        . subst q;simp only [if_true];exact (ok_plus (ht k hk j hj) (ok_times1 zb (ht s hsn j hj))).mono ⟨6,Int.mul_comm _ _⟩ (by omega)
        . simp only [q,if_false];exact up (ht k hk j hj)
      . simp only [if_true]
      . simp only [q,if_false]
theorem fr_same{q:Int×Int}(hp:0<q.2)(hg:Int.gcd q.1 q.2=1):fr q.1 q.2=q:=by
  have n0:q.2≠0:=by omega
  have h:=frac_cross (a:=(fr q.1 q.2).1) (b:=(fr q.1 q.2).2) (c:=q.1) (d:=q.2) (fr_pos n0) hp (fr_gcd n0) hg (fr_cross n0)
  exact h
theorem lay_enc(q:Int×Int):(encF q).canLay0=true:=rfl
theorem dep_enc(q:Int×Int):(encF q).depth<=60:=by simp [encF,PyData.depth,PyData.depthAll]
theorem ok_mul{E F:Int}{V U:Nat}{x y:Int×Int}(hx:Ok E V x)(hy:Ok F U y):Ok (E*F) (V*U) (fr (x.1*y.1) (x.2*y.2)) :=
  ok_fr (Int.mul_pos hx.pos hy.pos) (Int.mul_dvd_mul hx.dvd hy.dvd) (by
    rw [Int.natAbs_mul,Int.natAbs_mul]
    calc x.1.natAbs*y.1.natAbs<=(V*x.2.natAbs)*(U*y.2.natAbs):=Nat.mul_le_mul hx.val hy.val
      _=V*U*(x.2.natAbs*y.2.natAbs):=by ac_rfl)
def duN(t:Tb):Nat->Int×Int
  | 0=>(1,1)
  | k+1=>fr ((duN t k).1*(t k k).1) ((duN t k).2*(t k k).2)
theorem du_ok{n:Nat}{t:Tb}(ht:∀i,i<n->∀j,j<n->Ok 60 1000000 (t i j)):∀k,k<=n->Ok (60 ^ k) (1000000 ^ k) (duN t k)
  | 0,_=>⟨by show (0:Int)<1;decide,by show Int.gcd 1 1=1;decide,⟨1,rfl⟩,by show (1:Int).natAbs<=1000000 ^ 0*(1:Int).natAbs;decide⟩
  | k+1,h=>by
    rw [Int.pow_succ,Nat.pow_succ]
    exact ok_mul (du_ok ht k (by omega)) (ht k (by omega) k (by omega))
theorem p1000{x p:Nat}(h:x<=2 ^ p)(hp:p<1000):x<2 ^ 1000:=Nat.lt_of_le_of_lt h (Nat.pow_lt_pow_right (by decide) hp)
theorem run_first{n:Nat}{t:Tb}(h5:n<=5)(ht:∀i,i<n->∀j,j<n->Ok 60 1000000 (t i j)):mLfirst [tabD n n t]=some (.val (encF (duN t n))):=by
  let T0:Option Sl:=some (.val (tabD n n t))
  refine run_wp (ρ:= [T0,none,none]) rfl rfl ?_
  unfold bLfirst
  refine wp_asgS (r:= .val (encF (1,1))) (tup2 (a:= .val (.int 1)) (b:= .val (.int 1)) rfl rfl) ?_
  show Wp _ [T0,some (.val (encF (1,1))),none] _
  refine wp_seq (P:=fun ρ=>∃z2,ρ = [T0,some (.val (encF (duN t n))),z2]) ?_ (by rintro ρ ⟨z2,rfl⟩;exact wp_ret rfl rfl)
  refine wp_forR0 (n:=n) (fun k ρ=>∃z2,ρ = [T0,some (.val (encF (duN t k))),z2]) (rng1_to (j:=n) (consP_to (callP_to (consP_to (a:= .val (tabD n n t)) rfl rfl) (by simp only [dLen,Sl.dat,tabD,List.length_map,List.length_range])) rfl) (by omega)) ⟨_,rfl⟩ ?_ (fun ρ h=>h)
  rintro k ρ hk ⟨z2,rfl⟩
  refine ⟨_,rfl,wp_frz ?_⟩
  have k5:k<=5:=by omega
  have d1:=du_ok ht k (by omega)
  have b1:=ok_bt d1 (Int.pow_pos (by decide)) (p1000 (p:=30) (by
    rw [Int.natAbs_pow]
    exact Nat.le_trans (Nat.pow_le_pow_right (by decide) k5) (by decide)) (by decide)) (p1000 (p:=100) (Nat.le_trans (Nat.pow_le_pow_right (by decide) k5) (by decide)) (by decide))
  have d2:=ht k hk k hk
  have b2:=ok_bt d2 (by decide) (p1000 (p:=6) (by decide) (by decide)) (p1000 (p:=20) (by decide) (by decide))
  exact wp_asg (call_to (ds:= [encF (duN t k),encF (t k k)]) (cons_to (a:= .val (encF (duN t k))) rfl (cons_to (a:= .val (encF (t k k))) ((bin_eq (a:= .val (frD n (t k))) (b:= .val (.int (k:Nat))) ((bin_eq (a:= .val (tabD n n t)) (b:= .val (.int (k:Nat))) rfl rfl).trans (dix_tab hk)) rfl).trans (dix_fr hk)) rfl)) (run_ltimes d1.pos d2.pos (b1.1.mono (by decide)) (b2.1.mono (by decide)) (b1.2.mono (by decide)) (b2.2.mono (by decide)))) ⟨_,rfl⟩
theorem iv_first{n:Nat}{t:Tb}(ht:∀i,i<n->∀j,j<n->Ok 60 1000000 (t i j))(hz:∀i,i<n->∀j,j<i->(t i j).1=0):Iv n t (duN t n) (fun i j=>(t i j).1*(60 / (t i j).2)) (fun _=>60):=by
  have cell:∀i,i<n->∀j,j<n->t i j=fr ((t i j).1*(60 / (t i j).2)) 60:=fun i hi j hj=>by
    have o:=ht i hi j hj
    have e:fr (t i j).1 (t i j).2=t i j:=fr_same o.pos o.gcd
    refine e.symm.trans (fr_eq (by have:=o.pos;omega) (by decide) ?_)
    have:60 / (t i j).2*(t i j).2=60:=Int.ediv_mul_cancel o.dvd
    rw [Int.mul_assoc,this]
  refine ⟨fun _ _=>by show (0:Int)<60;decide,cell,?_⟩
  rw [det_tri (n:=n) (M:=fun i j=>(t i j).1*(60 / (t i j).2)) (fun i hi j hj=>by show (t i j).1*_=0;rw [hz i hi j hj,Int.zero_mul])]
  have key:∀k,k<=n->duN t k=fr (prodN k fun i=>(t i i).1*(60 / (t i i).2)) (prodN k fun _=>60):=by
    intro k hk
    induction k with
    | zero=>show ((1:Int),(1:Int))=fr 1 1;rw [fr_one]
    | succ k ih=>
      have hP:0<prodN k (fun _=>(60:Int)):=prod_pos fun _ _=>by decide
      have c:=cell k (by omega) k (by omega)
      have:=mul_fr (a:=prodN k fun i=>(t i i).1*(60 / (t i i).2)) (b:=prodN k fun _=>60) (c:=(t k k).1*(60 / (t k k).2)) (d:=60) (by omega) (by decide)
      rw [<-c, <-ih (by omega)] at this
      exact this
  exact key n (Nat.le_refl _)
theorem du_all{n:Nat}{t:Tb}(h5:n<=5)(ht:∀i,i<n->∀j,j<n->Ok 60 1000000 (t i j)):Ok 777600000 1000000000000000000000000000000 (duN t n):=by
  have d:=du_ok ht n (Nat.le_refl _)
  refine d.mono ⟨60 ^ (5 - n),?_⟩ ?_
  . rw [<-Int.pow_add,show n+(5 - n)=5 by omega]
    rfl
  . exact Nat.le_trans (Nat.pow_le_pow_right (by decide) h5) (by decide)
theorem seqW_wp{f:En->Option Out}{g:En->Option (List (List PyData))}{ρ:En}{P:En->Prop}{Q:List (List PyData)->Prop}(h:Wp f ρ (Nx P))(k:∀ρ',P ρ'->∃rs,g ρ'=some rs/\Q rs):∃rs,mSeqW f g ρ=some rs/\Q rs:=by
  obtain ⟨o,h1,h2⟩:=h
  cases o with
  | nx ρ' =>
    obtain ⟨rs,k1,k2⟩:=k ρ' h2
    refine ⟨rs,?_,k2⟩
    unfold mSeqW
    rw [h1]
    exact k1
  | _=>exact h2.elim
theorem seqW_nx{f:En->Option Out}{g:En->Option (List (List PyData))}{ρ ρ':En}{Q:List (List PyData)->Prop}(h:f ρ=some (.nx ρ'))(k:∃rs,g ρ'=some rs/\Q rs):∃rs,mSeqW f g ρ=some rs/\Q rs:=by
  obtain ⟨rs,k1,k2⟩:=k
  refine ⟨rs,?_,k2⟩
  unfold mSeqW
  rw [h]
  exact k1
theorem runW_ex{n k:Nat}{g:En->Option (List (List PyData))}{ds:List PyData}{ρ:En}{Q:List (List PyData)->Prop}(hl:ds.length=k)(e:ds.map (fun d=>some (Sl.val d))++List.replicate (n - ds.length) none=ρ)(h:∃rs,g ρ=some rs/\Q rs):∃rs,runW n g k ds=some rs/\Q rs:=by
  obtain ⟨rs,h1,h2⟩:=h
  refine ⟨rs,?_,h2⟩
  unfold runW
  rw [if_pos hl,e]
  exact h1
theorem rowsInW_ex{i:Nat}{f g:En->Option (List (List PyData))}{ρ:En}{rs0:List (List PyData)}{Q:List (List PyData)->Prop}(hi:i<ρ.length)(hf:f ρ=some rs0)(h:∃rs,g (ρ.set i (some (.own (rs0.map .list))))=some rs/\Q rs):∃rs,mRowsInW i f g ρ=some rs/\Q rs:=by
  obtain ⟨rs,h1,h2⟩:=h
  refine ⟨rs,?_,h2⟩
  unfold mRowsInW
  rw [if_pos hi,hf]
  exact h1
theorem appWN_to{i k:Nat}{ρ:En}{rs:List (List PyData)}{r:List PyData}(h:(ρ[i]?).join=some (.own (rs.map .list)))(hk:(ρ[k]?).join=some (.own r))(hl:rs.length<sizeLine)(hki:k≠i):mAppWN i k ρ=some (.nx ((ρ.set k none).set i (some (.own ((rs ++ [r]).map .list))))):=by
  unfold mAppWN
  rw [h]
  show (rowsOf (rs.map .list)).bind _=_
  rw [rowsOf_map,Option.bind_some,hk]
  exact if_pos ⟨hl,hki⟩
theorem setW_to{i p q:Nat}{a b:Int}{fa fb fe:En->Option Sl}{ρ:En}{v:Sl}{rs:List (List PyData)}{r:List PyData}(hv:fe ρ=some v)(ha:fa ρ=some (.val (.int a)))(hb:fb ρ=some (.val (.int b)))(h:(ρ[i]?).join=some (.own (rs.map .list)))(hp:ixN rs.length a=some p)(hr:rs[p]? = some r)(hq:ixN r.length b=some q):mSetW i fa fb fe ρ=some (.nx (ρ.set i (some (.own ((rs.set p (r.set q v.dat)).map .list))))):=by
  unfold mSetW
  rw [hv,ha,hb,h]
  show (rowsOf (rs.map .list)).bind _=_
  rw [rowsOf_map,Option.bind_some,hp,Option.bind_some,hr,Option.bind_some,hq]
  rfl
theorem giveW_to{i:Nat}{ρ:En}{rs:List (List PyData)}(h:(ρ[i]?).join=some (.own (rs.map .list))):mGiveW i ρ=some rs:=by
  unfold mGiveW
  rw [h]
  exact rowsOf_map rs
def rl(k n:Nat)(t:Tb):List (List PyData):=(List.range k).map fun i=>(List.range n).map fun j=>encF (t i j)
theorem rl_map(k n:Nat)(t:Tb):(rl k n t).map PyData.list=rowsD k n t:=by
  unfold rl rowsD
  rw [List.map_map]
  rfl
theorem rl_len(k n:Nat)(t:Tb):(rl k n t).length=k:=by simp [rl]
theorem rl_congr{k n:Nat}{t u:Tb}(h:∀i,i<k->∀j,j<n->t i j=u i j):rl k n t=rl k n u:=by
  unfold rl
  exact List.map_congr_left fun i hi=>List.map_congr_left fun j hj=>by rw [h i (List.mem_range.mp hi) j (List.mem_range.mp hj)]
theorem rl_snoc{k n:Nat}{t:Tb}{r:Nat->Int×Int}:rl k n t ++ [(List.range n).map fun j=>encF (r j)]=rl (k+1) n (fun i=>if i=k then r else t i):=by
  have e:rl (k+1) n (fun i=>if i=k then r else t i)=rl k n (fun i=>if i=k then r else t i) ++ [(List.range n).map fun j=>encF ((fun i=>if i=k then r else t i) k j)]:=by
    unfold rl
    rw [List.range_succ,List.map_append]
    rfl
  rw [e,rl_congr (t:=fun i=>if i=k then r else t i) (u:=t) fun i hi j _=>by
    show (if i=k then r else t i) j=_
    rw [if_neg (by omega)]]
  simp only [if_true]
theorem row_set{n k:Nat}{r:Nat->Int×Int}{q:Int×Int}:((List.range n).map fun j=>encF (r j)).set k (encF q)=(List.range n).map fun j=>encF (if j=k then q else r j):=by
  rw [set_range]
  exact List.map_congr_left fun j _=>by
    by_cases h:j=k
    . simp only [h,if_true]
    . simp only [h,if_false]
theorem rl_set{k n p:Nat}{t:Tb}{r:Nat->Int×Int}:(rl k n t).set p ((List.range n).map fun j=>encF (r j))=rl k n (fun i=>if i=p then r else t i):=by
  unfold rl
  rw [set_range]
  exact List.map_congr_left fun i _=>by
    by_cases h:i=p
    . simp only [h,if_true]
    . simp only [h,if_false]
theorem rl_get{k n p:Nat}{t:Tb}(h:p<k):(rl k n t)[p]? = some ((List.range n).map fun j=>encF (t p j)):=by
  unfold rl
  rw [List.getElem?_map,List.getElem?_range h]
  rfl
theorem sz_red2{n l Y:Nat}{x:Int}(h1:1<=n)(hn:n<=32)(hl:l<=n)(hY1:1<=Y)(hx:x.natAbs<=l*((n*Y) ^ l*Y)):x.natAbs<=(32*Y) ^ n*(32*Y) ^ n:=by
  have a1:(n*Y) ^ l<=(32*Y) ^ n:=Nat.le_trans (Nat.pow_le_pow_left (Nat.mul_le_mul_right Y hn) l) (Nat.pow_le_pow_right (by omega) hl)
  have a2:l*Y<=(32*Y) ^ n:=Nat.le_trans (Nat.mul_le_mul_right Y (by omega:l<=32)) (by
    calc 32*Y=(32*Y) ^ 1:=(Nat.pow_one _).symm
      _<=_:=Nat.pow_le_pow_right (by omega) h1)
  have a3:l*((n*Y) ^ l*Y)=(n*Y) ^ l*(l*Y):=by
    rw [Nat.mul_left_comm]
  refine Nat.le_trans hx ?_
  rw [a3]
  exact Nat.mul_le_mul a1 a2
theorem rts_wp{g:En->Option Out}{ρ:En}{r:Sl}(h:Wp g ρ (Rt r)):Rts g ρ r:=by
  obtain ⟨o,h1,h2⟩:=h
  cases o with
  | rt r' ρ'=>cases h2;exact ⟨_,h1⟩
  | _=>exact h2.elim
theorem wp_obj{n s:Nat}{fo:En->Option En}{g:En->Option Out}{ρ φ:En}{r:Sl}(hl:ρ.length=n)(h:fo ρ=some φ)(k:Wp g (ρ.set s none++φ) (Rt r)):Wp (mObj n s fo g) ρ (Rt r):=by
  obtain ⟨ρ',k⟩:=obj_to hl h (rts_wp k)
  exact ⟨_,k,rfl⟩
theorem in_ld{l m:Nat}{L:Nat->Nat}:inD false (.int (m:Int)) (ldD l L)=some (.val (.bool (decide (∃s,s<l/\L s=m)))):=by
  unfold inD
  rw [if_pos ⟨rfl,by simp [ldD,PyData.canLay0],by simp [PyData.depth]⟩]
  refine congrArg (fun b=>some (Sl.val (.bool b))) ?_
  simp only [ldD,List.any_map,Bool.false_eq_true,if_false]
  rw [Bool.eq_iff_iff]
  simp only [List.any_eq_true,Function.comp,List.mem_range,decide_eq_true_eq,PyData.eqv]
  constructor
  . rintro ⟨x,hx,h⟩
    refine ⟨x,hx,?_⟩
    simp at h
    omega
  . rintro ⟨x,hx,h⟩
    refine ⟨x,hx,?_⟩
    simp [h]
def aug(m:Nat)(t:Tb)(c:Nat->Int×Int):Tb:=fun i j=>if j<m then t i j else c i
def fnd(L:Nat->Nat)(f:Nat->Int×Int):Nat->Nat->Int×Int
  | 0,_=>(0,1)
  | s+1,j=>if j=L s then f s else fnd L f s j
theorem fnd_else{L:Nat->Nat}{f:Nat->Int×Int}:∀ {l j:Nat},(∀s,s<l->L s≠j)->fnd L f l j=(0,1)
  | 0,_,_=>rfl
  | l+1,j,h=>by
    rw [fnd,if_neg (fun e=>h l (by omega) e.symm)]
    exact fnd_else fun s hs=>h s (by omega)
theorem fnd_at{L:Nat->Nat}{f:Nat->Int×Int}:∀ {l s:Nat},(∀s t,s<t->t<l->L s<L t)->s<l->fnd L f l (L s)=f s
  | 0,_,_,h=>absurd h (by omega)
  | l+1,s,hi,h=>by
    rw [fnd]
    by_cases e:s=l
    . subst e;rw [if_pos rfl]
    . have:=hi s l (by omega) (by omega)
      rw [if_neg (by omega)]
      exact fnd_at (fun s t h1 h2=>hi s t h1 (by omega)) (by omega)
theorem aug_row{m i:Nat}{t:Tb}{c:Nat->Int×Int}:((List.range m).map fun j=>encF (t i j)) ++ [encF (c i)]=(List.range (m+1)).map fun j=>encF (aug m t c i j):=by
  rw [List.range_succ,List.map_append]
  congr 1
  . exact List.map_congr_left fun j hj=>by unfold aug;rw [if_pos (List.mem_range.mp hj)]
  . show [encF (c i)] = [encF (aug m t c i m)]
    unfold aug
    rw [if_neg (by omega)]
theorem aug_tab {n m : Nat} {t : Tb} {c : Nat -> Int × Int} {ρ : En} (h0 : (ρ[0]?).join = some (.val (tabD n m t))) (h1 : (ρ[1]?).join = some (.val (frD n c))) (hn : n <= 200) (hm : m <= 200) :
    (mLC (subE [none,none]) (mZip (mCons (mVar 0) (mCons (mVar 1) mNil))) (gTupD [(gVar 0),(gVar 1)]) mYes (mBin dAdd (mPk 0) (mLst (mCons (mVar 1) mNil)))) ρ=some (.own ((List.range n).map fun i=>frD (m+1) (aug m t c i))):=by
  have hs:=sl1000
  have v0:mVar 0 ρ=some (.val (tabD n m t)):=by unfold mVar;rw [h0]
  have v1:mVar 1 ρ=some (.val (frD n c)):=by unfold mVar;rw [h1]
  refine lc_to (ds:=(List.range n).map fun i=> .tuple [frD m (t i),encF (c i)]) ?_ (by rw [List.length_map,List.length_range];omega) (compM_map fun i hi=> ?_)
  . unfold mZip
    rw [cons_to v0 (cons_to v1 rfl)]
    show some (zipD ((List.range n).map fun i=>frD m (t i)) ((List.range n).map fun i=>encF (c i)))=_
    rw [zip_range]
  . show elM _ _ _ [none,none] _=_
    refine (el_to (r:= .own ((List.range (m+1)).map fun j=>encF (aug m t c i j))) (ρ1:= [some (.val (frD m (t i))),some (.val (encF (c i)))]) rfl ?_)
    refine (bin_eq (op:=dAdd) (a:= .val (frD m (t i))) (b:= .own [encF (c i)]) rfl (lst1 (a:= .val (encF (c i))) rfl)).trans ?_
    refine (add_own (xs:=(List.range m).map fun j=>encF (t i j)) (ys:= [encF (c i)]) rfl rfl ?_).trans ?_
    . rw [List.length_map,List.length_range];show m+1<=_;omega
    . rw [aug_row]
theorem run_sol {n m D T : Nat} {t : Tb} {c : Nat -> Int × Int} (k : TabOk n (m + 1) D T (aug m t c)) (hm1 : 1 <= m) (hm : m <= 199) : ∃ R l L last B, Ba.BI n (m + 1) (W (m + 1) (aug m t c)) R l L last (m + 1) B /\ last.natAbs <= (32 * (T * D ^ (m + 1))) ^ n /\ (∀ s, s < l -> (Ba.redx B l L m s).natAbs <= (32 * (T * D ^ (m + 1))) ^ n * (32 * (T * D ^ (m + 1))) ^ n) /\
    ((∃s,s<l/\L s=m)->m_solution [tabD n m t,frD n c]=some (.val .none)) /\
    ((∀s,s<l->L s≠m)->m_solution [tabD n m t,frD n c]=some (.own ((List.range m).map fun j=>encF (fnd L (fun s=>fr (Ba.redx B l L m s) last) l j)))):=by
  obtain ⟨R,l,L,last,B,I,hs⟩:=run_so k (by omega)
  have hY1:1<=T*D ^ (m+1):=Nat.mul_pos k.T1 (Nat.pow_pos k.D1)
  have bd:=I.bound k.n32 hY1 k.Wb
  have hl:l<=n:=I.kn
  have n32:=k.n32
  have n1:=k.n1
  have hlast:Bt 4000 last:=bt_of bd.2 k.size
  have hR:∀i,i<n->∀j,j<m+1->Bt 4000 (R i j):=fun i hi j hj=>bt_of (bd.1 i hi j hj) k.size
  have hx:∀s,s<l->Bt 8000 (Ba.redx B l L m s):=fun s _=>sz_red k.n1 k.n32 I.kn hY1 k.size (I.red_abs hY1 k.Wb (by omega) s)
  have hsz:=sl1000
  refine ⟨R,l,L,last,B,I,bd.2,fun s _=>sz_red2 k.n1 k.n32 I.kn hY1 (I.red_abs hY1 k.Wb (by omega) s),?_⟩
  have w:∀ {r:Sl},Wp (mSeq (mIf (mTest (mBin (dInD false) (mPk 2) (mPk 9))) (mRet (mK .none)) mNext)
    (mSeq (mFrz 2 (mAsg 4 (mCall m_fractions_over (mCons (mMethR 8 mS_reduced_column (mCons (mVar 2) mNil)) (mCons (mVar 10) mNil)))))
    (mSeq (mAsg 5 (mBin dRep (mLst (mCons (mK c_NOUGHT) mNil)) (mPk 2)))
    (mSeq (mFrz 9 (mFrz 4 (mFor (mZip (mCons (mVar 9) (mCons (mVar 4) mNil))) (gTupD [(gVar 6),(gVar 7)]) (mSet 5 (mPk 6) (mVar 7)))))
    (mRet (mPk 5)))))) [some (.val (tabD n m t)),some (.val (frD n c)),some (.val (.int m)),none,none,none,none,none,some (.own (matD n (m+1) R)),some (.own (ldD l L)),some (.val (.int last))] (Rt r)->m_solution [tabD n m t,frD n c]=some r:=fun {r} h=>by
    refine run_wp (ρ:= [some (.val (tabD n m t)),some (.val (frD n c)),none,none,none,none,none,none]) rfl rfl ?_
    unfold b_solution
    refine wp_asgS (r:= .val (.int m)) ?_ ?_
    . have e : dix (.val (tabD n m t)) (.val (.int 0)) = some (.val (frD m (t 0))) := by
        unfold dix tabD
        simp only [Sl.dat]
        rw [show (0:Int)=((0:Nat):Int) from rfl,atI_range (show 0<n by omega)]
        rfl
      refine callP_to (consP_to (bin_eq (a:= .val (tabD n m t)) (b:= .val (.int 0)) rfl rfl |>.trans e) rfl) ?_
      simp only [dLen,Sl.dat,frD,List.length_map,List.length_range]
    . refine wp_obj (φ:=flds n (m+1) R l L last) rfl ?_ h
      show mCallO m_stairs_of _ [some (.val (tabD n m t)),some (.val (frD n c)),some (.val (.int m)),none,none,none,none,none]=_
      unfold mCallO
      rw [cons_to (aug_tab (n:=n) (m:=m) (t:=t) (c:=c) rfl rfl (by omega) (by omega)) (show mNil _=some [] from rfl)]
      exact hs
  have tst:(mTest (mBin (dInD false) (mPk 2) (mPk 9))) [some (.val (tabD n m t)),some (.val (frD n c)),some (.val (.int m)),none,none,none,none,none,some (.own (matD n (m+1) R)),some (.own (ldD l L)),some (.val (.int last))]=some (decide (∃s,s<l/\L s=m)) :=
    test_eq ((bin_eq (op:=dInD false) (a:= .val (.int m)) (b:= .own (ldD l L)) rfl rfl).trans in_ld)
  refine ⟨fun h=>w ?_,fun h=>w ?_⟩
  . refine wp_seqG (wp_ifT (tst.trans (by rw [decide_eq_true h])) (wp_ret rfl rfl))
  . refine wp_skip (tst.trans (by rw [decide_eq_false (by rintro ⟨s,h1,h2⟩;exact h s h1 h2)])) ?_
    have rc:=run_rc I (j:=m) (by omega) k.n32 k.m1000 hR hlast hx
    refine wp_seqN (ρ':= [some (.val (tabD n m t)),some (.val (frD n c)),some (.val (.int m)),none,some (.own ((List.range l).map fun s=>encF (fr (Ba.redx B l L m s) last))),none,none,none,some (.own (matD n (m+1) R)),some (.own (ldD l L)),some (.val (.int last))]) ?_ ?_
    . rw [frz_eq]
      refine asg_to (call_to (ds:= [.list ((List.range l).map fun t=> .int (Ba.redx B l L m t)), .int last]) ?_ (run_fo (Nat.le_trans hl (Nat.le_trans n32 (by decide))) I.nz (hlast.mono (by decide))))
      have e:(mMethR 8 mS_reduced_column (mCons (mVar 2) mNil)) [some (.val (tabD n m t)),some (.val (frD n c)),some (.val (.int m)),none,none,none,none,none,some (.own (matD n (m+1) R)),some (.own (ldD l L)),some (.val (.int last))]=some (.own ((List.range l).map fun t=> .int (Ba.redx B l L m t))) :=
        methR_to (ds:= [.int (m:Int)]) (fd:= [.list (matD n (m+1) R), .list (ldD l L), .int last]) rfl rfl rc ints_flat
      exact cons_to e (cons_to (a:= .val (.int last)) (as:= []) rfl rfl)
    . refine wp_asgS (r:= .own ((List.range m).map fun _=>c_NOUGHT)) ((bin_eq (a:= .own [c_NOUGHT]) (b:= .val (.int ((m:Nat):Int))) (lst1 (a:= .val c_NOUGHT) rfl) rfl).trans (rep_to (by omega))) ?_
      show Wp _ [some (.val (tabD n m t)),some (.val (frD n c)),some (.val (.int m)),none,some (.own ((List.range l).map fun s=>encF (fr (Ba.redx B l L m s) last))),some (.own ((List.range m).map fun _=>c_NOUGHT)),none,none,some (.own (matD n (m+1) R)),some (.own (ldD l L)),some (.val (.int last))] _
      refine wp_seq (P:=fun ρ=>∃z6 z7,ρ = [some (.val (tabD n m t)),some (.val (frD n c)),some (.val (.int m)),none,some (.val (.list ((List.range l).map fun s=>encF (fr (Ba.redx B l L m s) last)))),some (.own ((List.range m).map fun j=>encF (fnd L (fun s=>fr (Ba.redx B l L m s) last) l j))),z6,z7,some (.own (matD n (m+1) R)),some (.val (.list (ldD l L))),some (.val (.int last))]) (wp_frz (wp_frz ?_)) ?_
      . refine wp_for (ds:=(List.range l).map fun s=> .tuple [.int (L s),encF (fr (Ba.redx B l L m s) last)]) (fun s ρ=>∃z6 z7,ρ = [some (.val (tabD n m t)),some (.val (frD n c)),some (.val (.int m)),none,some (.val (.list ((List.range l).map fun s=>encF (fr (Ba.redx B l L m s) last)))),some (.own ((List.range m).map fun j=>encF (fnd L (fun s=>fr (Ba.redx B l L m s) last) s j))),z6,z7,some (.own (matD n (m+1) R)),some (.val (.list (ldD l L))),some (.val (.int last))]) ?_ ⟨_,_,rfl⟩ ?_ ?_
        . unfold mZip
          rw [cons_to (a:= .val (.list (ldD l L))) rfl (cons_to (a:= .val (.list ((List.range l).map fun s=>encF (fr (Ba.redx B l L m s) last)))) rfl rfl)]
          show some (zipD ((List.range l).map fun s=> .int (L s)) ((List.range l).map fun s=>encF (fr (Ba.redx B l L m s) last)))=_
          rw [zip_range]
        . rintro s d ρ hd ⟨z6,z7,rfl⟩
          have hs:s<l:=by
            have:=(List.getElem?_eq_some_iff.mp hd).1
            simpa using this
          rw [List.getElem?_map,List.getElem?_range hs] at hd
          cases hd
          refine ⟨_,rfl,?_⟩
          have hLm:L s<m:=by
            have h1:=I.Lc s hs
            have h2:=h s hs
            omega
          refine wp_of (set_to (r:= .val (encF (fr (Ba.redx B l L m s) last))) (k:=((L s:Nat):Int)) (j:=L s) rfl rfl rfl (by rw [List.length_map,List.length_range];exact ixN_nat hLm)) ?_
          refine ⟨some (.val (.int (L s))),some (.val (encF (fr (Ba.redx B l L m s) last))),?_⟩
          show [some (Sl.val (tabD n m t)),some (.val (frD n c)),some (.val (.int m)),none,some (.val (.list ((List.range l).map fun s=>encF (fr (Ba.redx B l L m s) last)))),some (.own (((List.range m).map fun j=>encF (fnd L (fun s=>fr (Ba.redx B l L m s) last) s j)).set (L s) (encF (fr (Ba.redx B l L m s) last)))),some (.val (.int (L s))),some (.val (encF (fr (Ba.redx B l L m s) last))),some (.own (matD n (m+1) R)),some (.val (.list (ldD l L))),some (.val (.int last))]=_
          rw [set_range]
          have e:((List.range m).map fun i=>if i=L s then encF (fr (Ba.redx B l L m s) last) else encF (fnd L (fun s=>fr (Ba.redx B l L m s) last) s i))=(List.range m).map fun j=>encF (fnd L (fun s=>fr (Ba.redx B l L m s) last) (s+1) j):=List.map_congr_left fun j _=>by
            rw [fnd]
            by_cases hj:j=L s
            . rw [if_pos hj,if_pos hj]
            . rw [if_neg hj,if_neg hj]
          rw [e]
        . rintro ρ ⟨z6,z7,rfl⟩
          rw [List.length_map,List.length_range]
          exact ⟨_,_,rfl⟩
      . rintro ρ ⟨z6,z7,rfl⟩
        exact wp_ret rfl rfl
theorem run_solF {n m D T : Nat} {t : Tb} {c : Nat -> Int × Int} (k : TabOk n (m + 1) D T (aug m t c)) (hm1 : 1 <= m) (hm : m <= 199) :
    (∃q:Nat->Int,(∀j,j<m->Ba.sumN n (fun i=>q i*W (m+1) (aug m t c) i j)=0)/\Ba.sumN n (fun i=>q i*W (m+1) (aug m t c) i m)≠0/\m_solution [tabD n m t,frD n c]=some (.val .none)) \/
    (∃(R:Ba.Mx) (l:Nat) (L:Nat->Nat) (e:Int) (B:Ba.Mx) (X:Nat->Int),Ba.BI n (m+1) (W (m+1) (aug m t c)) R l L e (m+1) B/\(∀s,s<l->L s≠m)/\e.natAbs<=(32*(T*D ^ (m+1))) ^ n/\(∀j,j<m->(X j).natAbs<=(32*(T*D ^ (m+1))) ^ n*(32*(T*D ^ (m+1))) ^ n) /\
      (∀j,j<m->(∀s,s<l->L s≠j)->X j=0)/\(∀i,i<n->Ba.sumN m (fun j=>W (m+1) (aug m t c) i j*X j)=e*W (m+1) (aug m t c) i m)/\m_solution [tabD n m t,frD n c]=some (.own ((List.range m).map fun j=>encF (fr (X j) e)))):=by
  obtain ⟨R,l,L,last,B,I,hlast,hx,s1,s2⟩:=run_sol k hm1 hm
  by_cases h:∃s,s<l/\L s=m
  . left
    obtain ⟨s,hs,e⟩:=h
    obtain ⟨q,q1,q2⟩:=I.never hs e
    exact ⟨q,q1,q2,s1 ⟨s,hs,e⟩⟩
  . right
    have h:∀s,s<l->L s≠m:=fun s hs e=>h ⟨s,hs,e⟩
    have at1:∀t,t<l -> - Ba.kv l L (fun t j=>Ba.redx B l L j t) last m (L t)=Ba.redx B l L m t:=fun t ht=>by rw [I.rr.kv_L ht (h t ht),Int.neg_neg]
    have at0:∀j,j<m->(∀t,t<l->L t≠j) -> - Ba.kv l L (fun t j=>Ba.redx B l L j t) last m j=0:=fun j hj hn=>by rw [Ba.kv_else (by omega) hn,Int.neg_zero]
    refine ⟨R,l,L,last,B,fun j=> - Ba.kv l L (fun t j=>Ba.redx B l L j t) last m j,I,h,hlast,fun j hj=> ?_,at0,fun i hin=>I.found h (X:=fun j=> - Ba.kv l L (fun t j=>Ba.redx B l L j t) last m j) at1 at0 i hin,?_⟩
    . by_cases hx':∃t,t<l/\L t=j
      . obtain ⟨t,ht,rfl⟩:=hx'
        show (- Ba.kv l L (fun t j=>Ba.redx B l L j t) last m (L t)).natAbs<=_
        rw [at1 t ht];exact hx t ht
      . show (- Ba.kv l L (fun t j=>Ba.redx B l L j t) last m j).natAbs<=_
        rw [at0 j hj fun t ht e=>hx' ⟨t,ht,e⟩]
        exact Nat.zero_le _
    . rw [s2 h]
      congr 2
      refine List.map_congr_left fun j hj=> ?_
      have hj:=List.mem_range.mp hj
      by_cases hx':∃t,t<l/\L t=j
      . obtain ⟨t,ht,rfl⟩:=hx'
        show _=encF (fr (- Ba.kv l L (fun t j=>Ba.redx B l L j t) last m (L t)) last)
        rw [fnd_at I.Li ht,at1 t ht]
      . have hx':∀t,t<l->L t≠j:=fun t ht e=>hx' ⟨t,ht,e⟩
        show _=encF (fr (- Ba.kv l L (fun t j=>Ba.redx B l L j t) last m j) last)
        rw [fnd_else hx',at0 j hj hx',fr_zero I.nz]
theorem run_ltimesG{a b:Int×Int}(ha:0<a.2)(hb:0<b.2)(B1:Bt 30000 a.1)(B2:Bt 30000 b.1)(B3:Bt 4400 a.2)(B4:Bt 4400 b.2):mLtimes [encF a,encF b]=some (.val (encF (fr (a.1*b.1) (a.2*b.2)))):=by
  have M:∀ {i j:Int} {p q:Nat},Bt p i->Bt q j->(h:decide (p+q<=134217728)=true:=by decide)->CMulA i j:=fun h k e=> .inr (cmulC h k e)
  refine runD_rt (ρ:= [some (.val (encF a)),some (.val (encF b))]) rfl rfl ?_
  unfold bLtimes
  refine rts_ret (call_to (ds:= [.int (a.1*b.1), .int (a.2*b.2)]) ?_ (run_lfrac (Int.mul_pos ha hb) ((B3.mul B4).mono (by decide))))
  refine (cons_to (a:= .val (.int (a.1*b.1))) (as:= [.int (a.2*b.2)]) ?_ (cons_to (a:= .val (.int (a.2*b.2))) ?_ rfl)).trans rfl
  . exact (bin_eq (a:= .val (.int a.1)) (b:= .val (.int b.1)) ((bin_eq (a:= .val (encF a)) (b:= .val (.int 0)) rfl rfl).trans (dix_f0 a)) ((bin_eq (a:= .val (encF b)) (b:= .val (.int 0)) rfl rfl).trans (dix_f0 b))).trans (mulS (M B1 B2))
  . exact (bin_eq (a:= .val (.int a.2)) (b:= .val (.int b.2)) ((bin_eq (a:= .val (encF a)) (b:= .val (.int 1)) rfl rfl).trans (dix_f1 a)) ((bin_eq (a:= .val (encF b)) (b:= .val (.int 1)) rfl rfl).trans (dix_f1 b))).trans (mulS (M B3 B4))
theorem run_lplusG{a b:Int×Int}(ha:0<a.2)(hb:0<b.2)(B1:Bt 30000 a.1)(B2:Bt 30000 b.1)(B3:Bt 4400 a.2)(B4:Bt 4400 b.2):mLplus [encF a,encF b]=some (.val (encF (fr (a.1*b.2+b.1*a.2) (a.2*b.2)))):=by
  have M:∀ {i j:Int} {p q:Nat},Bt p i->Bt q j->(h:decide (p+q<=134217728)=true:=by decide)->CMulA i j:=fun h k e=> .inr (cmulC h k e)
  have a0:∀ {f:En->Option Sl} {ρ:En} {q:Int×Int},f ρ=some (.val (encF q))->mBin dix f (mK (.int 0)) ρ=some (.val (.int q.1)):=fun h=>(bin_eq (b:= .val (.int 0)) h rfl).trans (dix_f0 _)
  have a1:∀ {f:En->Option Sl} {ρ:En} {q:Int×Int},f ρ=some (.val (encF q))->mBin dix f (mK (.int 1)) ρ=some (.val (.int q.2)):=fun h=>(bin_eq (b:= .val (.int 1)) h rfl).trans (dix_f1 _)
  refine runD_rt (ρ:= [some (.val (encF a)),some (.val (encF b))]) rfl rfl ?_
  unfold bLplus
  refine rts_ret (call_to (ds:= [.int (a.1*b.2+b.1*a.2), .int (a.2*b.2)]) ?_ (run_lfrac (Int.mul_pos ha hb) ((B3.mul B4).mono (by decide))))
  refine (cons_to (a:= .val (.int (a.1*b.2+b.1*a.2))) (as:= [.int (a.2*b.2)]) ?_ (cons_to (a:= .val (.int (a.2*b.2))) ?_ rfl)).trans rfl
  . refine (bin_eq (a:= .val (.int (a.1*b.2))) (b:= .val (.int (b.1*a.2))) ?_ ?_).trans rfl
    . exact (bin_eq (a0 (q:=a) rfl) (a1 (q:=b) rfl)).trans (mulS (M B1 B4))
    . exact (bin_eq (a0 (q:=b) rfl) (a1 (q:=a) rfl)).trans (mulS (M B2 B3))
  . exact (bin_eq (a1 (q:=a) rfl) (a1 (q:=b) rfl)).trans (mulS (M B3 B4))
theorem run_lsumG {n : Nat} {a b : Nat -> Int} {E F : Int} (hn : n <= 200) (hE : E ≠ 0) (hF : F ≠ 0) (BE : Bt 4400 E) (BEF : Bt 4400 (E * F)) (BF : Bt 4400 F) (ha : ∀ k, k < n -> Bt 30000 (a k)) (hb : ∀ k, k < n -> Bt 30000 (b k)) (hab : ∀ k, k < n -> Bt 30000 (a k * b k)) (hs : ∀ s, s <= n -> Bt 30000 (Ba.sumN s fun k => a k * b k)) :
    mLdot [frD n (fun k=>fr (a k) E),frD n (fun k=>fr (b k) F)]=some (.val (encF (fr (Ba.sumN n fun k=>a k*b k) (E*F)))):=by
  have hEF:=Int.mul_ne_zero hE hF
  let A0:Option Sl:=some (.val (frD n (fun k=>fr (a k) E)))
  let B1:Option Sl:=some (.val (frD n (fun k=>fr (b k) F)))
  refine run_wp (ρ:= [A0,B1,none,none,none]) rfl rfl ?_
  unfold bLdot
  refine wp_asgS (r:= .val (encF (0,1))) (tup2 (a:= .val (.int 0)) (b:= .val (.int 1)) rfl rfl) ?_
  show Wp _ [A0,B1,some (.val (encF (0,1))),none,none] _
  refine wp_seq (P:=fun ρ=>∃z3 z4,ρ = [A0,B1,some (.val (encF (fr (Ba.sumN n fun k=>a k*b k) (E*F)))),z3,z4]) ?_ (by rintro ρ ⟨z3,z4,rfl⟩;exact wp_ret rfl rfl)
  refine wp_for (ds:=(List.range n).map fun k=> .tuple [encF (fr (a k) E),encF (fr (b k) F)]) (fun s ρ=>∃z3 z4,ρ = [A0,B1,some (.val (encF (fr (Ba.sumN s fun k=>a k*b k) (E*F)))),z3,z4]) ?_ ⟨_,_,by rw [show Ba.sumN 0 (fun k=>a k*b k)=0 from rfl,fr_zero hEF]⟩ ?_ ?_
  . unfold mZip
    rw [cons_to (a:= .val (frD n (fun k=>fr (a k) E))) rfl (cons_to (a:= .val (frD n (fun k=>fr (b k) F))) rfl rfl)]
    show some (zipD ((List.range n).map fun k=>encF (fr (a k) E)) ((List.range n).map fun k=>encF (fr (b k) F)))=_
    rw [zip_range]
  . rintro s d ρ hd ⟨z3,z4,rfl⟩
    have hsn:s<n:=by
      have:=(List.getElem?_eq_some_iff.mp hd).1
      simpa using this
    rw [List.getElem?_map,List.getElem?_range hsn] at hd
    cases hd
    refine ⟨_,rfl,wp_frz ?_⟩
    have f1:Bt 30000 (fr (a s) E).1/\Bt 4400 (fr (a s) E).2:=⟨(ha s hsn).fdiv,BE.fdiv⟩
    have f2:Bt 30000 (fr (b s) F).1/\Bt 4400 (fr (b s) F).2:=⟨(hb s hsn).fdiv,BF.fdiv⟩
    have f3:Bt 30000 (fr (Ba.sumN s fun k=>a k*b k) (E*F)).1/\Bt 4400 (fr (Ba.sumN s fun k=>a k*b k) (E*F)).2:=⟨(hs s (by omega)).fdiv,BEF.fdiv⟩
    have f4:Bt 30000 (fr (a s*b s) (E*F)).1/\Bt 4400 (fr (a s*b s) (E*F)).2:=⟨(hab s hsn).fdiv,BEF.fdiv⟩
    have t1:=run_ltimesG (a:=fr (a s) E) (b:=fr (b s) F) (fr_pos hE) (fr_pos hF) f1.1 f2.1 f1.2 f2.2
    have e1:fr ((fr (a s) E).1*(fr (b s) F).1) ((fr (a s) E).2*(fr (b s) F).2)=fr (a s*b s) (E*F):=by
      have p1:=fr_pos (a:=a s) hE
      have p2:=fr_pos (a:=b s) hF
      refine fr_eq (Int.mul_ne_zero (by omega) (by omega)) hEF ?_
      have c1:=fr_cross (a:=a s) hE
      have c2:=fr_cross (a:=b s) hF
      calc (fr (a s) E).1*(fr (b s) F).1*(E*F)=((fr (a s) E).1*E)*((fr (b s) F).1*F):=by ac_rfl
        _=_:=by rw [c1,c2];ac_rfl
    rw [e1] at t1
    have t2:=run_lplusG (a:=fr (Ba.sumN s fun k=>a k*b k) (E*F)) (b:=fr (a s*b s) (E*F)) (fr_pos hEF) (fr_pos hEF) f3.1 f4.1 f3.2 f4.2
    have e2:fr ((fr (Ba.sumN s fun k=>a k*b k) (E*F)).1*(fr (a s*b s) (E*F)).2+(fr (a s*b s) (E*F)).1*(fr (Ba.sumN s fun k=>a k*b k) (E*F)).2) ((fr (Ba.sumN s fun k=>a k*b k) (E*F)).2*(fr (a s*b s) (E*F)).2)=fr (Ba.sumN (s+1) fun k=>a k*b k) (E*F):=by
      show _=fr (Ba.sumN s (fun k=>a k*b k)+a s*b s) (E*F)
      have p1:=fr_pos (a:=Ba.sumN s fun k=>a k*b k) hEF
      have p2:=fr_pos (a:=a s*b s) hEF
      have c1:=fr_cross (a:=Ba.sumN s fun k=>a k*b k) hEF
      have c2:=fr_cross (a:=a s*b s) hEF
      refine fr_eq (Int.mul_ne_zero (by omega) (by omega)) hEF ?_
      generalize fr (Ba.sumN s fun k=>a k*b k) (E*F)=x at *
      generalize fr (a s*b s) (E*F)=y at *
      generalize E*F=G at *
      generalize (Ba.sumN s fun k=>a k*b k)=S at *
      generalize a s*b s=p at *
      calc (x.1*y.2+y.1*x.2)*G=(x.1*G)*y.2+(y.1*G)*x.2:=by rw [Int.add_mul];congr 1 <;> ac_rfl
        _=S*x.2*y.2+p*y.2*x.2:=by rw [c1,c2]
        _=(S+p)*(x.2*y.2):=by rw [Int.add_mul];congr 1 <;> ac_rfl
    rw [e2] at t2
    refine wp_asg (call_to (ds:= [encF (fr (Ba.sumN s fun k=>a k*b k) (E*F)),encF (fr (a s*b s) (E*F))]) (cons_to (a:= .val (encF (fr (Ba.sumN s fun k=>a k*b k) (E*F)))) rfl (cons_to (call_to (ds:= [encF (fr (a s) E),encF (fr (b s) F)]) rfl t1) rfl)) t2) ?_
    exact ⟨_,_,rfl⟩
  . rintro ρ ⟨z3,z4,rfl⟩
    rw [List.length_map,List.length_range]
    exact ⟨_,_,rfl⟩
theorem fd_of{b c:Int}(hb:b≠0)(h:b ∣ c):b*c.fdiv b=c:=by
  obtain ⟨q,rfl⟩:=h
  rw [Int.mul_fdiv_cancel_left _ hb]
theorem bt_sum{n p:Nat}{f:Nat->Int}(hn:n<=8)(h:∀i,i<n->Bt p (f i)):Bt (p+3) (Ba.sumN n f):=by
  have key:∀k,k<=n->(Ba.sumN k f).natAbs<=k*(2 ^ p - 1):=fun k=>by
    induction k with
    | zero=>exact fun _=>by simp [Ba.sumN]
    | succ k ih=>
      intro hk
      show (Ba.sumN k f+f k).natAbs<=_
      have h1:=ih (by omega)
      have h2:(f k).natAbs<2 ^ p:=h k (by omega)
      have h3:=Int.natAbs_add_le (Ba.sumN k f) (f k)
      rw [Nat.add_mul,Nat.one_mul]
      omega
  have p1:0<2 ^ p:=Nat.pow_pos (by decide)
  have:=key n (Nat.le_refl _)
  have h2:n*(2 ^ p - 1)<=8*(2 ^ p - 1):=Nat.mul_le_mul_right _ hn
  show (Ba.sumN n f).natAbs<2 ^ (p+3)
  rw [Nat.pow_add]
  omega
theorem bt_le{p:Nat}{x:Int}(h:x.natAbs<=2 ^ p):Bt (p+1) x:=by
  show x.natAbs<2 ^ (p+1)
  have p1:0<2 ^ p:=Nat.pow_pos (by decide)
  rw [Nat.pow_succ]
  omega
theorem td_le{m:Nat}(h:m<=6):2 ^ 133*(2 ^ 48) ^ m<=2 ^ 434:=by
  rw [<-Nat.pow_mul, <-Nat.pow_add]
  exact Nat.pow_le_pow_right (by decide) (by omega)
theorem zz_le{n m:Nat}(hm:m<=6)(hn:n<=7):(32*(2 ^ 133*(2 ^ 48) ^ m)) ^ n<=2 ^ 3073:=by
  have h1:32*(2 ^ 133*(2 ^ 48) ^ m)<=2 ^ 439:=by
    rw [show (439:Nat)=5+434 from rfl,Nat.pow_add 2 5 434]
    exact Nat.mul_le_mul_left 32 (td_le hm)
  refine Nat.le_trans (Nat.pow_le_pow_left h1 n) ?_
  rw [<-Nat.pow_mul]
  exact Nat.pow_le_pow_right (by decide) (by omega)
theorem zz_lt{n m:Nat}(hm:m<=6)(hn:n<=7):(32*(2 ^ 133*(2 ^ 48) ^ m)) ^ n<2 ^ 4000:=Nat.lt_of_le_of_lt (zz_le hm hn) (Nat.pow_lt_pow_right (by decide) (by decide))
structure Fk (q:Int×Int):Prop where
  pos:0<q.2
  gcd:Int.gcd q.1 q.2=1
  bot:q.2.natAbs<=2 ^ 48
  top:q.1.natAbs<=2 ^ 133
theorem fk_tab{n m:Nat}{u:Tb}(h1:1<=n)(hn:n<=7)(hm:m<=6)(h:∀i,i<n->∀j,j<m->Fk (u i j)):TabOk n m (2 ^ 48) (2 ^ 133) u:=
  ⟨h1,by omega,by omega,Nat.pow_pos (by decide),Nat.pow_pos (by decide),fun i hi j hj=>⟨(h i hi j hj).pos,(h i hi j hj).bot⟩,fun i hi j hj=>(h i hi j hj).top,zz_lt hm hn⟩
theorem fk_cb{m:Nat}{r:Nat->Int×Int}(hm:m<=6)(h:∀j,j<m->Fk (r j)):0<cbN r m/\Bt 302 (cbN r m)/\∀j,j<m->(r j).2 ∣ cbN r m:=by
  obtain ⟨c1,c2,c3⟩:=cb_all (r:=r) (D:=2 ^ 48) (m:=m) fun j hj=>⟨(h j hj).pos,(h j hj).bot⟩
  refine ⟨c1,bt_le (Nat.le_trans c2 ?_),c3⟩
  rw [<-Nat.pow_mul]
  exact Nat.pow_le_pow_right (by decide) (by omega)
theorem fr_W{m:Nat}{u:Tb}{i j:Nat}(hm:m<=6)(h:∀j,j<m->Fk (u i j))(hj:j<m):fr (W m u i j) (cbN (u i) m)=u i j:=by
  obtain ⟨c1,_,c3⟩:=fk_cb hm h
  have f:=h j hj
  have n0:(u i j).2≠0:=by have:=f.pos;omega
  rw [<-fr_same (q:=u i j) f.pos f.gcd]
  refine (fr_eq (by omega) n0 ?_).trans (by rw [fr_same f.pos f.gcd])
  show (u i j).1*(cbN (u i) m).fdiv (u i j).2*(u i j).2=_
  have e:=fd_of n0 (c3 j hj)
  rw [Int.mul_assoc,Int.mul_comm _ (u i j).2,e]
theorem W_bt{n m:Nat}{u:Tb}{i j:Nat}(h1:1<=n)(hn:n<=7)(hm:m<=6)(h:∀i,i<n->∀j,j<m->Fk (u i j))(hi:i<n)(hj:j<m):Bt 435 (W m u i j):=bt_le (Nat.le_trans ((fk_tab h1 hn hm h).Wb i hi j hj) (td_le hm))
theorem frD_congr{m:Nat}{r s:Nat->Int×Int}(h:∀j,j<m->r j=s j):frD m r=frD m s:=congrArg PyData.list (List.map_congr_left fun j hj=>by rw [h j (List.mem_range.mp hj)])
theorem dot_row {n m : Nat} {u : Tb} {i : Nat} {X : Nat -> Int} {e : Int} (h1 : 1 <= n) (hn : n <= 7) (hm : m + 1 <= 6) (h : ∀ i, i < n -> ∀ j, j < m + 1 -> Fk (u i j)) (hi : i < n) (e0 : e ≠ 0) (eb : e.natAbs <= 2 ^ 3073) (xb : ∀ j, j < m -> (X j).natAbs <= 2 ^ 3073 * 2 ^ 3073)
    (hx:Ba.sumN m (fun j=>W (m+1) u i j*X j)=e*W (m+1) u i m):mLdot [frD m (u i),frD m (fun j=>fr (X j) e)]=some (.val (encF (u i m)))/\mLdot [frD m (fun j=>fr (X j) e),frD m (u i)]=some (.val (encF (u i m))):=by
  obtain ⟨c1,c2,c3⟩:=fk_cb (r:=u i) hm (h i hi)
  have eb:Bt 3074 e:=bt_le eb
  have xb:∀j,j<m->Bt 6147 (X j):=fun j hj=>bt_le (Nat.le_trans (xb j hj) (by rw [<-Nat.pow_add];exact Nat.le_refl _))
  have wb:∀j,j<m->Bt 435 (W (m+1) u i j):=fun j hj=>W_bt h1 hn hm h hi (by omega)
  have er:frD m (u i)=frD m (fun j=>fr (W (m+1) u i j) (cbN (u i) (m+1))):=frD_congr fun j hj=>(fr_W hm (h i hi) (by omega)).symm
  have e2:fr (e*W (m+1) u i m) (cbN (u i) (m+1)*e)=u i m:=by
    rw [<-fr_W (j:=m) hm (h i hi) (by omega)]
    exact fr_eq (Int.mul_ne_zero (by omega) e0) (by omega) (by ac_rfl)
  refine ⟨?_,?_⟩
  . rw [er]
    have:=run_lsumG (n:=m) (a:=W (m+1) u i) (b:=X) (E:=cbN (u i) (m+1)) (F:=e) (by omega) (by omega) e0 (c2.mono (by decide)) ((c2.mul eb).mono (by decide)) (eb.mono (by decide)) (fun k hk=>(wb k hk).mono (by decide)) (fun k hk=>(xb k hk).mono (by decide)) (fun k hk=>((wb k hk).mul (xb k hk)).mono (by decide)) (fun s hs=>(bt_sum (p:=6582) (by omega) fun k hk=>(wb k (by omega)).mul (xb k (by omega))).mono (by decide))
    rw [this,hx,e2]
  . rw [er]
    have hx':Ba.sumN m (fun j=>X j*W (m+1) u i j)=e*W (m+1) u i m:=by rw [<-hx];exact Ba.sum_congr fun j _=>Int.mul_comm _ _
    have:=run_lsumG (n:=m) (a:=X) (b:=W (m+1) u i) (E:=e) (F:=cbN (u i) (m+1)) (by omega) e0 (by omega) (eb.mono (by decide)) ((eb.mul c2).mono (by decide)) (c2.mono (by decide)) (fun k hk=>(xb k hk).mono (by decide)) (fun k hk=>(wb k hk).mono (by decide)) (fun k hk=>((xb k hk).mul (wb k hk)).mono (by decide)) (fun s hs=>(bt_sum (p:=6582) (by omega) fun k hk=>(xb k (by omega)).mul (wb k (by omega))).mono (by decide))
    rw [this,hx',Int.mul_comm e (cbN (u i) (m+1)),e2]
theorem size_eight(v:Int)(ρ:En){f:En->Option Sl}(hf:f ρ=some (.val (.int (v.fmod 8)))):∃n:Nat,1<=n/\n<=5/\(mBin dix (mLst (mCons (mK (.int 1)) (mCons (mK (.int 2)) (mCons (mK (.int 3)) (mCons (mK (.int 3)) (mCons (mK (.int 4)) (mCons (mK (.int 4)) (mCons (mK (.int 5)) (mCons (mK (.int 2)) mNil))))))))) f) ρ=some (.val (.int (n:Int))):=by
  have m8:=fm (a:=v) (show (0:Int)<8 by decide)
  have e:(mLst (mCons (mK (.int 1)) (mCons (mK (.int 2)) (mCons (mK (.int 3)) (mCons (mK (.int 3)) (mCons (mK (.int 4)) (mCons (mK (.int 4)) (mCons (mK (.int 5)) (mCons (mK (.int 2)) mNil))))))))) ρ=some (.own [.int 1, .int 2, .int 3, .int 3, .int 4, .int 4, .int 5, .int 2]):=if_pos (e:=none) (Nat.le_trans (show [PyData.int 1, .int 2, .int 3, .int 3, .int 4, .int 4, .int 5, .int 2].length<=200 by decide) small64)
  rw [bin_eq e hf]
  rcases (by omega:v.fmod 8=0\/v.fmod 8=1\/v.fmod 8=2\/v.fmod 8=3\/v.fmod 8=4\/v.fmod 8=5\/v.fmod 8=6\/v.fmod 8=7) with h | h | h | h | h | h | h | h <;> rw [h]
  . exact ⟨1,by decide,by decide,rfl⟩
  . exact ⟨2,by decide,by decide,rfl⟩
  . exact ⟨3,by decide,by decide,rfl⟩
  . exact ⟨3,by decide,by decide,rfl⟩
  . exact ⟨4,by decide,by decide,rfl⟩
  . exact ⟨4,by decide,by decide,rfl⟩
  . exact ⟨5,by decide,by decide,rfl⟩
  . exact ⟨2,by decide,by decide,rfl⟩
theorem ok_nought:Ok 60 1000000 (0,1):=⟨by decide,by decide,by decide,by decide⟩
theorem ok_one:Ok 60 1000000 (1,1):=⟨by decide,by decide,by decide,by decide⟩
theorem deq_frac(p q:Int×Int):deq (.val (encF p)) (.val (encF q))=some (.val (.bool (decide (p=q)))):=by
  unfold deq
  show (eqD (encF p) (encF q)).map _=_
  rw [eqD_frac]
  rfl
theorem run_begun(cs:List Int)(h1:1<=cs.length)(h2:cs.length<=64)(tot:Int):∃rs,mLbegun [.list (il cs), .int tot]=some rs/\∃(n:Nat) (t:Tb),1<=n/\n<=5/\rs=rl n n t/\(∀i,i<n->∀j,j<n->Ok 60 1000000 (t i j))/\∀i,i<n->∀j,j<i->(t i j).1=0:=by
  have sl:=sl1000
  let C:Option Sl:=some (.val (.list (il cs)))
  let T:Option Sl:=some (.val (.int tot))
  obtain ⟨v1,hv1,_,_⟩:=run_mix tot (j:=1) (by decide) (by decide)
  obtain ⟨v2,hv2,_,_⟩:=run_mix tot (j:=2) (by decide) (by decide)
  obtain ⟨v3,hv3,_,_⟩:=run_mix tot (j:=3) (by decide) (by decide)
  refine runW_ex (ρ:= [C,T,none,none,none,none,none,none]) rfl rfl ?_
  unfold bLbegun
  obtain ⟨n,n1,n5,hn⟩:=size_eight v1 [C,T,none,none,none,none,none,none] (f:=(mBin dMod (mCall mLmix (mCons (mVar 1) (mCons (mK (.int 1)) mNil))) (mK (.int 8)))) ((bin_eq (a:= .val (.int v1)) (b:= .val (.int 8)) (call_to (ds:= [.int tot, .int 1]) rfl hv1) rfl).trans (modS (by decide)))
  let N:Option Sl:=some (.val (.int (n:Int)))
  refine seqW_nx (asg_to hn) ?_
  refine rowsInW_ex (rs0:= []) (show 3<8 by decide) rfl ?_
  refine seqW_wp (P:=fun ρ=>∃(t:Tb) (z4 z5 z6:Option Sl),ρ = [C,T,N,some (.own ((rl n n t).map .list)),z4,z5,z6,none]/\(∀i,i<n->∀j,j<n->Ok 60 1000000 (t i j))/\∀i,i<n->∀j,j<i->(t i j).1=0) ?_ ?_
  . refine wp_forR0 (n:=n) (fun k ρ=>∃(t:Tb) (z4 z5 z6:Option Sl),ρ = [C,T,N,some (.own ((rl k n t).map .list)),z4,z5,z6,none]/\(∀i,i<k->∀j,j<n->Ok 60 1000000 (t i j))/\∀i,i<k->∀j,j<i->(t i j).1=0) (rng1_to (j:=n) rfl (by omega)) ⟨fun _ _=>(0,1),_,_,_,rfl,fun i hi=>absurd hi (by omega),fun i hi=>absurd hi (by omega)⟩ ?_ (fun ρ h=>h)
    rintro i ρ hi ⟨t,z4,z5,z6,rfl,ht,hz⟩
    refine ⟨_,rfl,?_⟩
    let I:Option Sl:=some (.val (.int (i:Int)))
    let Tab:Option Sl:=some (.own ((rl i n t).map .list))
    let Row:(Nat->Int×Int)->Option Sl:=fun r=>some (.own ((List.range n).map fun j=>encF (r j)))
    show Wp _ [C,T,N,Tab,I,z5,z6,none] _
    refine wp_asgS (r:= .own ((List.range n).map fun j=>encF (0,1))) (lc_to (ds:=rngD 0 n) (rng1_to (j:=n) rfl (by omega)) (by simp only [rngD,List.length_map,List.length_range];omega) (compM_range fun j hj=> ?_)) ?_
    . exact el_to (r:= .val (encF (0,1))) rfl (tup2 (a:= .val (.int 0)) (b:= .val (.int 1)) rfl rfl)
    show Wp _ [C,T,N,Tab,I,Row (fun _=>(0,1)),z6,none] _
    refine wp_seq (P:=fun ρ=>∃(r:Nat->Int×Int) (z6:Option Sl),ρ = [C,T,N,Tab,I,Row r,z6,none]/\(∀j,j<n->Ok 60 1000000 (r j))/\∀j,j<i->(r j).1=0) ?_ ?_
    . refine wp_forR (lo:=(i:Int)) (n:=n - i) (fun _ ρ=>∃(r:Nat->Int×Int) (z6:Option Sl),ρ = [C,T,N,Tab,I,Row r,z6,none]/\(∀j,j<n->Ok 60 1000000 (r j))/\∀j,j<i->(r j).1=0) (rng2_to (i:=i) (j:=n) rfl (by omega) (by omega)) ⟨_,_,rfl,fun _ _=>ok_nought,fun _ _=>rfl⟩ ?_ (fun ρ h=>h)
      rintro s ρ hs ⟨r,z6,rfl,hr,hr0⟩
      rw [show (i:Int)+(s:Nat)=((i+s:Nat):Int) by omega]
      refine ⟨_,rfl,?_⟩
      let J:Option Sl:=some (.val (.int ((i+s:Nat):Int)))
      show Wp _ [C,T,N,Tab,I,Row r,J,none] _
      have six:(mBin dRep (mK (.int 6)) (mPk 4)) [C,T,N,Tab,I,Row r,J,none]=some (.val (.int (6*(i:Int)))):=(bin_eq (a:= .val (.int 6)) (b:= .val (.int (i:Int))) rfl rfl).trans (mulS (cmL (by decide) (by decide)))
      obtain ⟨at_,ha,hal⟩:=nat_fmod (6*(i:Int)+((i+s:Nat):Int)) h1
      have hx:(mBin dMod (mBin dAdd (mBin dRep (mK (.int 6)) (mPk 4)) (mPk 6)) (mCallP dLen (mConsP (mPk 0) mNilP))) [C,T,N,Tab,I,Row r,J,none]=some (.val (.int (at_:Int))):=by
        refine (bin_eq (a:= .val (.int (6*(i:Int)+((i+s:Nat):Int)))) (b:= .val (.int (cs.length:Int))) ((bin_eq (b:= .val (.int ((i+s:Nat):Int))) six rfl).trans rfl) (callP_to (consP_to (a:= .val (.list (il cs))) rfl rfl) (by simp only [dLen,Sl.dat,il_len]))).trans ?_
        rw [modS (by omega),ha]
      have gc:(il cs)[at_]? = some (.int cs[at_]):=by
        unfold il
        rw [List.getElem?_map,List.getElem?_eq_getElem hal]
        rfl
      obtain ⟨q,hq,qo⟩:=run_drawn cs[at_] (j:=10+6*(i:Int)+((i+s:Nat):Int)) (by omega) (by omega)
      have hc:(mCall mLdrawn (mCons (mBin dix (mPk 0) (mBin dMod (mBin dAdd (mBin dRep (mK (.int 6)) (mPk 4)) (mPk 6)) (mCallP dLen (mConsP (mPk 0) mNilP)))) (mCons (mBin dAdd (mBin dAdd (mK (.int 10)) (mBin dRep (mK (.int 6)) (mPk 4))) (mPk 6)) mNil))) [C,T,N,Tab,I,Row r,J,none]=some (.val (encF q)):=by
        refine call_to (cons_to (a:= .val (.int cs[at_])) ((bin_eq (a:= .val (.list (il cs))) rfl hx).trans (dix_nat (.inl rfl) gc)) (cons_to (a:= .val (.int (10+6*(i:Int)+((i+s:Nat):Int)))) (as:= []) ?_ rfl)) hq
        exact (bin_eq (a:= .val (.int (10+6*(i:Int)))) (b:= .val (.int ((i+s:Nat):Int))) ((bin_eq (a:= .val (.int 10)) rfl six).trans rfl) rfl).trans rfl
      refine wp_of (set_to (j:=i+s) (k:=((i+s:Nat):Int)) hc rfl rfl (by rw [List.length_map,List.length_range];exact ixN_nat (by omega))) ?_
      refine ⟨fun j=>if j=i+s then q else r j,J,?_,fun j hj=> ?_,fun j hj=> ?_⟩
      . show [C,T,N,Tab,I,some (.own (((List.range n).map fun j=>encF (r j)).set (i+s) (encF q))),J,none]=_
        rw [row_set]
      . show Ok _ _ (if j=i+s then q else r j)
        split
        . exact qo
        . exact hr j hj
      . show (if j=i+s then q else r j).1=0
        rw [if_neg (by omega)]
        exact hr0 j hj
    . rintro ρ ⟨r,z6,rfl,hr,hr0⟩
      refine wp_seq (P:=fun ρ=>∃(r:Nat->Int×Int) (z6:Option Sl),ρ = [C,T,N,Tab,I,Row r,z6,none]/\(∀j,j<n->Ok 60 1000000 (r j))/\∀j,j<i->(r j).1=0) ?_ ?_
      . have tst:(mTest (mBin deq (mBin dix (mPk 5) (mPk 4)) (mTup (mCons (mK (.int 0)) (mCons (mK (.int 1)) mNil))))) [C,T,N,Tab,I,Row r,z6,none]=some (decide (r i=(0,1))):=(test_eq ((bin_eq (a:= .val (encF (r i))) (b:= .val (encF (0,1))) ((bin_eq (a:= .own ((List.range n).map fun j=>encF (r j))) (b:= .val (.int (i:Int))) rfl rfl).trans (dix_own hi)) (tup2 (a:= .val (.int 0)) (b:= .val (.int 1)) rfl rfl)).trans (deq_frac _ _)))
        by_cases e:r i=(0,1)
        . refine wp_ifT (tst.trans (by rw [decide_eq_true e])) ?_
          refine wp_of (set_to (r:= .val (encF (1,1))) (j:=i) (k:=(i:Int)) (tup2 (a:= .val (.int 1)) (b:= .val (.int 1)) rfl rfl) rfl rfl (by rw [List.length_map,List.length_range];exact ixN_nat hi)) ?_
          refine ⟨fun j=>if j=i then (1,1) else r j,z6,?_,fun j hj=> ?_,fun j hj=> ?_⟩
          . show [C,T,N,Tab,I,some (.own (((List.range n).map fun j=>encF (r j)).set i (encF (1,1)))),z6,none]=_
            rw [row_set]
          . show Ok _ _ (if j=i then (1,1) else r j)
            split
            . exact ok_one
            . exact hr j hj
          . show (if j=i then ((1:Int),(1:Int)) else r j).1=0
            rw [if_neg (by omega)]
            exact hr0 j hj
        . exact wp_ifF (tst.trans (by rw [decide_eq_false e])) (wp_next ⟨r,_,rfl,hr,hr0⟩)
      . rintro ρ ⟨r,z6,rfl,hr,hr0⟩
        refine wp_of (appWN_to (rs:=rl i n t) (r:=(List.range n).map fun j=>encF (r j)) rfl rfl (by rw [rl_len];omega) (by decide)) ?_
        refine ⟨fun k=>if k=i then r else t k,I,none,z6,?_,fun k hk j hj=> ?_,fun k hk j hj=> ?_⟩
        . show [C,T,N,some (.own ((rl i n t ++ [(List.range n).map fun j=>encF (r j)]).map .list)),I,none,z6,none]=_
          rw [rl_snoc]
        . show Ok _ _ ((if k=i then r else t k) j)
          by_cases e:k=i
          . rw [if_pos e];exact hr j hj
          . rw [if_neg e];exact ht k (by omega) j hj
        . show ((if k=i then r else t k) j).1=0
          by_cases e:k=i
          . rw [if_pos e];exact hr0 j (by omega)
          . rw [if_neg e];exact hz k (by omega) j hj
  . rintro ρ ⟨t,z4,z5,z6,rfl,ht,hz⟩
    refine seqW_wp (P:=fun ρ=>∃(t:Tb) (z4 z5 z6 z7:Option Sl),ρ = [C,T,N,some (.own ((rl n n t).map .list)),z4,z5,z6,z7]/\(∀i,i<n->∀j,j<n->Ok 60 1000000 (t i j))/\∀i,i<n->∀j,j<i->(t i j).1=0) ?_ ?_
    . have tst:(mTest (mBin deq (mBin dMod (mCall mLmix (mCons (mVar 1) (mCons (mK (.int 2)) mNil))) (mK (.int 4))) (mK (.int 1)))) [C,T,N,some (.own ((rl n n t).map .list)),z4,z5,z6,none]=some (decide (v2.fmod 4=1)):=(test_eq ((bin_eq (a:= .val (.int (v2.fmod 4))) (b:= .val (.int 1)) ((bin_eq (a:= .val (.int v2)) (b:= .val (.int 4)) (call_to (ds:= [.int tot, .int 2]) rfl hv2) rfl).trans (modS (by decide))) rfl).trans (deq_int _ _)))
      by_cases e:v2.fmod 4=1
      . refine wp_ifT (tst.trans (by rw [decide_eq_true e])) ?_
        obtain ⟨a,ha,han⟩:=nat_fmod v3 n1
        refine wp_asgS (r:= .val (.int (a:Int))) ((bin_eq (a:= .val (.int v3)) (b:= .val (.int (n:Int))) (call_to (ds:= [.int tot, .int 3]) rfl hv3) rfl).trans (by rw [modS (by omega),ha])) ?_
        refine wp_of (setW_to (v:= .val (encF (0,1))) (a:=(a:Int)) (b:=(a:Int)) (p:=a) (q:=a) (rs:=rl n n t) (r:=(List.range n).map fun j=>encF (t a j)) (tup2 (a:= .val (.int 0)) (b:= .val (.int 1)) rfl rfl) rfl rfl rfl (by rw [rl_len];exact ixN_nat han) (rl_get han) (by rw [List.length_map,List.length_range];exact ixN_nat han)) ?_
        refine ⟨fun i=>if i=a then (fun j=>if j=a then (0,1) else t a j) else t i,z4,z5,z6,some (.val (.int (a:Int))),?_,fun i hi j hj=> ?_,fun i hi j hj=> ?_⟩
        . show [C,T,N,some (.own (((rl n n t).set a (((List.range n).map fun j=>encF (t a j)).set a (encF (0,1)))).map .list)),z4,z5,z6,some (.val (.int (a:Int)))]=_
          rw [row_set,rl_set]
        . show Ok _ _ ((if i=a then (fun j=>if j=a then (0,1) else t a j) else t i) j)
          by_cases q:i=a
          . rw [if_pos q]
            show Ok _ _ (if j=a then (0,1) else t a j)
            split
            . exact ok_nought
            . exact ht a han j hj
          . rw [if_neg q];exact ht i hi j hj
        . show ((if i=a then (fun j=>if j=a then ((0:Int),(1:Int)) else t a j) else t i) j).1=0
          by_cases q:i=a
          . rw [if_pos q]
            show (if j=a then ((0:Int),(1:Int)) else t a j).1=0
            rw [if_neg (by omega)]
            exact hz a han j (by omega)
          . rw [if_neg q];exact hz i hi j hj
      . exact wp_ifF (tst.trans (by rw [decide_eq_false e])) (wp_next ⟨t,_,_,_,_,rfl,ht,hz⟩)
    . rintro ρ ⟨t,z4,z5,z6,z7,rfl,ht,hz⟩
      exact ⟨_,giveW_to (rs:=rl n n t) rfl,n,t,n1,n5,rfl,ht,hz⟩
theorem eq_ff:eqD (.str "found") (.str "found")=some true:=by decide +kernel
theorem ne_s{fa fb:En->Option Sl}{ρ:En}{a b:PyData}{k:Bool}(ha:fa ρ=some (.val a))(hb:fb ρ=some (.val b))(h:eqD a b=some k):mTest (mBin dne fa fb) ρ=some (!k):=by
  refine test_eq ((bin_eq (op:=dne) ha hb).trans ?_)
  unfold dne
  show (eqD a b).map _=_
  rw [h]
  rfl
theorem lay_fr(n:Nat)(x:Nat->Int×Int):(frD n x).canLay0=true:=lay_list (en:=fun j=>encF (x j)) (fun _=>rfl) _
theorem dep_fr4(n:Nat)(x:Nat->Int×Int):(frD n x).depth<=4:=by
  have:=dep_list (en:=fun j=>encF (x j)) (k:=3) (fun j=>by simp [encF,PyData.depth,PyData.depthAll]) (List.range n)
  simp only [frD,PyData.depth]
  omega
theorem lay_tab(n m:Nat)(t:Tb):(tabD n m t).canLay0=true:=lay_list (en:=fun i=>frD m (t i)) (fun i=>lay_fr m (t i)) _
theorem dep_tab(n m:Nat)(t:Tb):(tabD n m t).depth<=60:=by
  have:=dep_list (en:=fun i=>frD m (t i)) (k:=4) (fun i=>dep_fr4 m (t i)) (List.range n)
  simp only [tabD,PyData.depth]
  omega
def unT:Tb:=fun i j=>(if i=j then 1 else 0,1)
theorem run_unit{n:Nat}(hn:n<=5):mLunit [.int (n:Int)]=some (.own (rowsD n n unT)):=by
  have sl:=sl1000
  refine runD_rt (ρ:= [some (.val (.int (n:Int)))]) rfl rfl ?_
  unfold bLunit
  refine rts_ret (lc_to (ds:=rngD 0 n) (rng1_to (j:=n) rfl (by omega)) (by simp only [rngD,List.length_map,List.length_range];omega) (compM_range (g:=fun i=>frD n (unT i)) fun i hi=> ?_))
  rw [Int.zero_add]
  show elM _ _ _ [some (.val (.int (n:Int))),none] _=_
  refine el_to (r:= .own ((List.range n).map fun j=>encF (unT i j))) (ρ1:= [some (.val (.int (n:Int))),some (.val (.int (i:Int)))]) rfl (lc_to (ds:=rngD 0 n) (rng1_to (j:=n) rfl (by omega)) (by simp only [rngD,List.length_map,List.length_range];omega) (compM_range fun j hj=> ?_))
  rw [Int.zero_add]
  show elM _ _ _ [some (.val (.int (i:Int))),none] _=_
  refine el_to (r:= .val (encF (unT i j))) (ρ1:= [some (.val (.int (i:Int))),some (.val (.int (j:Int)))]) rfl ?_
  refine tup2 (a:= .val (.int (if i=j then 1 else 0))) (b:= .val (.int 1)) (callP_to (consP_to (a:= .val (.bool (decide ((i:Int)=(j:Int))))) ((bin_eq (a:= .val (.int (i:Int))) (b:= .val (.int (j:Int))) rfl rfl).trans (deq_int _ _)) rfl) ?_) rfl
  by_cases e:i=j
  . rw [if_pos e,decide_eq_true (by omega)];rfl
  . rw [if_neg e,decide_eq_false (by omega)];rfl
theorem copies{n m:Nat}{t:Tb}{f:En->Option Sl}{ρ:En}(h:f ρ=some (.val (tabD n m t)))(hn:n<=200):(mLC (subE [none]) (mItems f) (gVar 0) mYes (mCallP dList (mConsP (mPk 0) mNilP))) ρ=some (.own (rowsD n m t)):=by
  have sl:=sl1000
  refine lc_to (ds:=(List.range n).map fun i=>frD m (t i)) ?_ (by rw [List.length_map,List.length_range];omega) (compM_map (g:=fun i=>frD m (t i)) fun i _=> ?_)
  . unfold mItems
    rw [h]
    rfl
  . exact el_to (r:= .own ((List.range m).map fun j=>encF (t i j))) (ρ1:= [some (.val (frD m (t i)))]) rfl (callP_to (consP_to (a:= .val (frD m (t i))) rfl rfl) rfl)
theorem lead_id{n:Nat}{L:Nat->Nat}(hi:∀s t,s<t->t<n->L s<L t)(hb:∀t,t<n->L t<n):∀s,s<n->L s=s:=by
  have lo:∀s,s<n->s<=L s:=by
    intro s
    induction s with
    | zero=>intro _;omega
    | succ s ih=>
      intro h
      have h1:=ih (by omega)
      have h2:=hi s (s+1) (by omega) h
      omega
  have up:∀d s,s+d+1=n->L s<=s:=by
    intro d
    induction d with
    | zero=>intro s h;have:=hb s (by omega);omega
    | succ d ih=>
      intro s h
      have h1:=ih (s+1) (by omega)
      have h2:=hi s (s+1) (by omega) (by omega)
      omega
  intro s hs
  have h1:=lo s hs
  have h2:=up (n - s - 1) s (by omega)
  omega
theorem red_unit{n:Nat}{A R B:Ba.Mx}{L:Nat->Nat}{last:Int}(I:Ba.BI n n A R n L last n B){i j:Nat}(hi:i<n)(hj:j<n):redT B n L last i j=unT i j:=by
  have hL:=lead_id (fun s t h1 h2=>I.Li s t h1 h2) (fun t ht=>I.Lc t ht)
  have h:=I.red_lead (s:=j) (i:=i) hj hi
  rw [hL j hj] at h
  unfold redT unT
  rw [if_pos hi,h]
  by_cases e:i=j
  . rw [if_pos e,if_pos e,fr_self I.nz]
  . rw [if_neg e,if_neg e,fr_zero I.nz]
theorem left_zero{n:Nat}{M:Ba.Mx}{q:Nat->Int}(hd:Ba.det n M≠0)(hq:∀j,j<n->Ba.sumN n (fun i=>q i*M i j)=0):∀r,r<n->q r=0:=by
  intro r hr
  have h:=Ba.det_rowsum (n:=n) (r:=r) (M:=M) hr q M n
  have z:Ba.det n (Ba.setR M r (fun j=>Ba.sumN n (fun s=>q s*M s j)))=0:=Ba.det_zero_row hr (fun j hj=>by rw [Ba.setR_same];exact hq j hj)
  rw [z] at h
  have one:Ba.sumN n (fun s=>q s*Ba.det n (Ba.setR M r (M s)))=q r*Ba.det n (Ba.setR M r (M r)):=Ba.sum_one hr fun s hs hsr=>by
    rw [Ba.det_same hr hs (Ne.symm hsr) (by rw [Ba.setR_same,Ba.setR_ne hsr]),Int.mul_zero]
  rw [one,Ba.setR_self] at h
  rcases Int.mul_eq_zero.mp h.symm with h | h
  . exact h
  . exact absurd h hd
theorem Iv.detC{n:Nat}{t:Tb}{due:Int×Int}{N:Ba.Mx}{D C:Nat->Int}(v:Iv n t due N D)(hb:∀i,i<n->0<C i/\∀j,j<n->(t i j).2 ∣ C i):prodN n D*Ba.det n (fun i j=>(t i j).1*(C i).fdiv (t i j).2)=prodN n C*Ba.det n N:=by
  rw [<-det_rows, <-det_rows]
  refine Ba.det_congr fun i hi j hj=> ?_
  have pd:=v.pos i hi
  obtain ⟨c,hc⟩:=(hb i hi).2 j hj
  have tp:0<(t i j).2:=by rw [v.tab i hi j hj];exact fr_pos (by omega)
  have x:(t i j).1*D i=N i j*(t i j).2:=by rw [v.tab i hi j hj];exact fr_cross (by omega)
  show D i*((t i j).1*(C i).fdiv (t i j).2)=C i*N i j
  rw [hc,Int.mul_fdiv_cancel_left _ (by omega)]
  calc D i*((t i j).1*c)=((t i j).1*D i)*c:=by ac_rfl
    _=_:=by rw [x];ac_rfl
theorem Iv.zero{n:Nat}{t:Tb}{due:Int×Int}{N:Ba.Mx}{D:Nat->Int}(v:Iv n t due N D):due=(0,1)↔Ba.det n N=0:=by
  have P:=prod_pos (f:=D) (n:=n) v.pos
  constructor
  . intro h
    have x:=fr_cross (a:=Ba.det n N) (b:=prodN n D) (by omega)
    rw [<-v.due,h] at x
    simpa using x.symm
  . intro h
    rw [v.due,h,fr_zero (by omega)]
theorem fk_unit(i j:Nat):Fk (unT i j):=by
  unfold unT
  refine ⟨by show (0:Int)<1;decide,Int.gcd_one_right ..,by show (1:Int).natAbs<=2 ^ 48;decide,?_⟩
  show ((if i=j then 1 else 0:Int)).natAbs<=2 ^ 133
  split <;> decide
theorem run_solvedN {n : Nat} {t : Tb} {due : Int × Int} {N : Ba.Mx} {D : Nat -> Int} (h1 : 1 <= n) (h5 : n <= 5) (ht : ∀ i, i < n -> ∀ j, j < n -> Fk (t i j)) (iv : Iv n t due N D) (hd : due ≠ (0, 1)) (c : Nat) :
    ∃x:Nat->Int×Int,m_solved [tabD n n t,frD n (unT c)]=some (.val (.tuple [.str "found",frD n x]))/\∀i,i<n->mLdot [frD n (t i),frD n x]=some (.val (encF (unT c i))):=by
  have ha:∀i,i<n->∀j,j<n+1->Fk (aug n t (unT c) i j):=fun i hi j hj=>by
    unfold aug
    by_cases h:j<n
    . rw [if_pos h];exact ht i hi j h
    . rw [if_neg h];exact fk_unit c i
  have lo:∀i j,j<n->aug n t (unT c) i j=t i j:=fun i j h=>if_pos h
  have hi':∀i,aug n t (unT c) i n=unT c i:=fun i=>if_neg (by omega)
  have cb:=fun i (hi:i<n)=>fk_cb (r:=aug n t (unT c) i) (m:=n+1) (by omega) (ha i hi)
  rcases run_solF (fk_tab h1 (by omega) (by omega) ha) h1 (by omega) with ⟨q,q1,q2,hq⟩ | ⟨R,l,L,e,B,X,I,hl,eb,xb,x0,hx,hs⟩
  . exfalso
    have dC:=iv.detC (C:=fun i=>cbN (aug n t (unT c) i) (n+1)) fun i hi=>⟨(cb i hi).1,fun j hj=>by
      have:=(cb i hi).2.2 j (by omega)
      rw [lo i j hj] at this
      exact this⟩
    have P:=prod_pos (f:=D) (n:=n) iv.pos
    have Q:=prod_pos (f:=fun i=>cbN (aug n t (unT c) i) (n+1)) (n:=n) fun i hi=>(cb i hi).1
    have dn:Ba.det n N≠0:=fun z=>hd (iv.zero.mpr z)
    have dw:Ba.det n (fun i j=>(t i j).1*(cbN (aug n t (unT c) i) (n+1)).fdiv (t i j).2)≠0:=fun z=>by
      rw [z,Int.mul_zero] at dC
      rcases Int.mul_eq_zero.mp dC.symm with h | h
      . omega
      . exact dn h
    have z:=left_zero dw (q:=q) fun j hj=>by
      rw [<-q1 j hj]
      refine Ba.sum_congr fun i hi=> ?_
      show _=q i*((aug n t (unT c) i j).1*(cbN (aug n t (unT c) i) (n+1)).fdiv (aug n t (unT c) i j).2)
      rw [lo i j hj]
    exact q2 (Ba.sum_zero fun i hi=>by rw [z i hi,Int.zero_mul])
  . have eb:=Nat.le_trans eb (zz_le (by omega) (by omega))
    have xb:∀i,i<n->(X i).natAbs<=2 ^ 3073*2 ^ 3073:=fun i hi=>Nat.le_trans (xb i hi) (Nat.mul_le_mul (zz_le (by omega) (by omega)) (zz_le (by omega) (by omega)))
    refine ⟨fun j=>fr (X j) e,?_,fun i hi=> ?_⟩
    . refine run_wp (ρ:= [some (.val (tabD n n t)),some (.val (frD n (unT c))),none]) rfl rfl ?_
      unfold b_solved
      refine wp_asgS (call_to (ds:= [tabD n n t,frD n (unT c)]) rfl hs) ?_
      show Wp _ [some (.val (tabD n n t)),some (.val (frD n (unT c))),some (.own ((List.range n).map fun j=>encF (fr (X j) e)))] _
      exact wp_skip rfl (wp_frz (wp_ret (tup2 (a:= .val (.str "found")) (b:= .val (frD n fun j=>fr (X j) e)) rfl rfl) rfl))
    . have:=(dot_row (n:=n) (m:=n) (u:=aug n t (unT c)) (i:=i) h1 (by omega) (by omega) ha hi I.nz eb xb (hx i hi)).1
      rw [hi' i] at this
      rw [<-this,frD_congr fun j hj=>(lo i j hj).symm]
theorem run_told{n:Nat}{t:Tb}{due:Int×Int}{N:Ba.Mx}{D:Nat->Int}(h1:1<=n)(h5:n<=5)(ht:∀i,i<n->∀j,j<n->Fk (t i j))(iv:Iv n t due N D)(k:Int):mLtold [tabD n n t,encF due, .int k]=some (.val (.bool true)):=by
  have sl:=sl1000
  have k0:TabOk n n (2 ^ 48) (2 ^ 133) t:=fk_tab h1 (by omega) (by omega) ht
  have det:=run_detI iv k0 (by
    rw [<-Nat.pow_mul, <-Nat.pow_mul]
    refine Nat.pow_lt_pow_right (by decide) ?_
    have:n*n<=5*5:=Nat.mul_le_mul h5 h5
    omega)
  obtain ⟨R,l,L,last,B,I,hb,hrank,hred⟩:=run_red k0 h1
  have cb:=fun i (hi:i<n)=>fk_cb (r:=t i) (m:=n) (by omega) (ht i hi)
  have dd:=iv.det fun i hi=>⟨(cb i hi).1,(cb i hi).2.2⟩
  have P:=prod_pos (f:=D) (n:=n) iv.pos
  have Q:=prod_pos (f:=fun i=>cbN (t i) n) (n:=n) fun i hi=>(cb i hi).1
  have hl:l<n↔due=(0,1):=by
    rw [iv.zero]
    constructor
    . intro h
      rw [I.det_less h,Int.mul_zero] at dd
      rcases Int.mul_eq_zero.mp dd.symm with h | h
      . omega
      . exact h
    . intro h
      have kn:=I.kn
      rcases Nat.lt_or_ge l n with g | g
      . exact g
      . exfalso
        obtain rfl:n=l:=by omega
        have:=I.det_full
        rw [h,Int.mul_zero] at dd
        rcases Int.mul_eq_zero.mp dd with h | h
        . omega
        . exact I.nz (this.trans h)
  let Tv:Option Sl:=some (.val (tabD n n t))
  let Dv:Option Sl:=some (.val (encF due))
  let Kv:Option Sl:=some (.val (.int k))
  let Kp:Option Sl:=some (.own (rowsD n n t))
  let Nv:Option Sl:=some (.val (.int (n:Int)))
  refine run_wp (ρ:= [Tv,Dv,Kv,none,none,none,none,none]) rfl rfl ?_
  unfold bLtold
  refine wp_asgS (r:= .own (rowsD n n t)) (copies rfl (by omega)) ?_
  refine wp_asgS (r:= .val (.int (n:Int))) (callP_to (consP_to (a:= .val (tabD n n t)) rfl rfl) (by simp only [dLen,Sl.dat,tabD,List.length_map,List.length_range])) ?_
  show Wp _ [Tv,Dv,Kv,Kp,Nv,none,none,none] _
  have due0:∀ {z5 z6 z7:Option Sl},(mBin deq (mPk 1) (mTup (mCons (mK (.int 0)) (mCons (mK (.int 1)) mNil)))) [Tv,Dv,Kv,Kp,Nv,z5,z6,z7]=some (.val (.bool (decide (due=(0,1))))):=fun {z5 z6 z7}=>(bin_eq (a:= .val (encF due)) (b:= .val (encF (0,1))) rfl (tup2 (a:= .val (.int 0)) (b:= .val (.int 1)) rfl rfl)).trans (deq_frac _ _)
  have bd:∀b:Bool,(PyData.bool b).depth<=60:=fun b=>by simp [PyData.depth]
  refine wp_skip (or_to (k:=false) (l:=false) (ne_same (a:= .val (encF due)) (b:= .val (encF due)) (call_to (ds:= [tabD n n t]) rfl det) rfl rfl (lay_enc due) (dep_enc due)) (or_to (k:=false) (l:=false) (ne_same (a:= .val (.bool (decide ((l:Int)<(n:Int))))) (b:= .val (.bool (decide (due=(0,1))))) ((bin_eq (op:=dLt) (a:= .val (.int (l:Int))) (b:= .val (.int (n:Int))) (call_to (ds:= [tabD n n t]) rfl hrank) rfl).trans rfl) due0 ?_ rfl (bd _)) (ne_same (a:= .val (tabD n n t)) (b:= .own (rowsD n n t)) rfl rfl rfl (lay_tab n n t) (dep_tab n n t)))) ?_
  . show PyData.bool _=PyData.bool _
    congr 1
    rw [decide_eq_decide, <-hl]
    omega
  by_cases hz:due=(0,1)
  . exact wp_seqG (wp_ifT ((test_eq due0).trans (by rw [decide_eq_true hz])) (wp_ret rfl rfl))
  refine wp_skip ((test_eq due0).trans (by rw [decide_eq_false hz])) ?_
  obtain rfl:n=l:=by
    have:=I.kn
    have h:¬l<n:=fun h=>hz (hl.mp h)
    omega
  have hred':m_reduced [tabD n n t]=some (.own (rowsD n n unT)):=by
    rw [hred]
    refine congrArg (fun x=>some (Sl.own x)) (List.map_congr_left fun i hi=> ?_)
    exact frD_congr fun j hj=>red_unit I (List.mem_range.mp hi) hj
  have un:=run_unit h5
  refine wp_seqN (ρ':= [Tv,Dv,Kv,Kp,Nv,none,none,none]) (show mIf _ _ _ [Tv,Dv,Kv,Kp,Nv,none,none,none]=_ from if_to (b:=false) (ne_same (a:= .own (rowsD n n unT)) (b:= .own (rowsD n n unT)) (call_to (ds:= [tabD n n t]) rfl hred') (call_to (ds:= [.int (n:Int)]) rfl un) rfl (lay_tab n n unT) (dep_tab n n unT)) rfl) ?_
  obtain ⟨c,hc,hcn⟩:=nat_fmod k h1
  let Cv:Option Sl:=some (.val (frD n (unT c)))
  refine wp_seqN (ρ':= [Tv,Dv,Kv,Kp,Nv,Cv,none,none]) (show mAsg 5 _ [Tv,Dv,Kv,Kp,Nv,none,none,none]=_ from asg_to (r:= .val (frD n (unT c))) ((bin_eq (a:= .own (rowsD n n unT)) (b:= .val (.int (c:Int))) (call_to (ds:= [.int (n:Int)]) rfl un) ((bin_eq (a:= .val (.int k)) (b:= .val (.int (n:Int))) rfl rfl).trans (by rw [modS (by omega),hc]))).trans (dix_own hcn))) ?_
  obtain ⟨x,hsol,hdot⟩:=run_solvedN h1 h5 ht iv hz c
  let Fv:Option Sl:=some (.val (.str "found"))
  let Xv:Option Sl:=some (.val (frD n x))
  refine wp_seqN (ρ':= [Tv,Dv,Kv,Kp,Nv,Cv,Fv,Xv]) (show mAsgT _ _ [Tv,Dv,Kv,Kp,Nv,Cv,none,none]=_ from asgT_to (call_to (ds:= [tabD n n t,frD n (unT c)]) rfl hsol) rfl) ?_
  refine wp_skip (or_to (k:=false) (l:=false) (ne_s (k:=true) (a:= .str "found") (b:= .str "found") rfl rfl eq_ff) (ne_same (a:= .own ((List.range n).map fun i=>encF (unT c i))) (b:= .val (frD n (unT c))) ?_ rfl rfl (lay_fr n _) (Nat.le_trans (dep_fr4 n _) (by decide)))) ?_
  . refine lc_to (ds:=(List.range n).map fun i=>frD n (t i)) rfl (by rw [List.length_map,List.length_range];omega) (compM_map fun i hi=> ?_)
    show elM _ _ _ [Xv,none] _=_
    exact el_to (r:= .val (encF (unT c i))) (ρ1:= [Xv,some (.val (frD n (t i)))]) rfl (call_to (ds:= [frD n (t i),frD n x]) rfl (hdot i (List.mem_range.mp hi)))
  exact wp_ret (eq_same (a:= .val (tabD n n t)) (b:= .own (rowsD n n t)) rfl rfl rfl (lay_tab n n t) (dep_tab n n t)) rfl
theorem sum_il(l:List Int):dSum [.own (il l)]=some (.val (.int l.sum)):=by
  show (intsOf (il l)).map _=_
  rw [intsOf_il]
  rfl
theorem ownW_to{F:List PyData->Option (List (List PyData))}{f:En->Option (List PyData)}{ρ:En}{ds:List PyData}{rs:List (List PyData)}(h:f ρ=some ds)(k:F ds=some rs):mOwnW (mCallW F f) ρ=some (.own (rs.map .list)):=by
  unfold mOwnW mCallW
  rw [h,Option.bind_some,k]
  rfl
def Good(e n:Nat)(t:Tb)(due:Int×Int):Prop:=1<=n/\n<=5/\(∀i,i<n->∀j,j<n->Ok (60*6 ^ e) (1000000*3 ^ e) (t i j))/\Ok (777600000*6 ^ e) (1000000000000000000000000000000*3 ^ e) due/\∃N D,Iv n t due N D
theorem good_up{n e:Nat}{t:Tb}{due:Int×Int}(g:Good 0 n t due):Good e n t due:=by
  obtain ⟨h1,h5,ht,hd,iv⟩:=g
  have p3:1<=3 ^ e:=Nat.pow_pos (by decide)
  refine ⟨h1,h5,fun i hi j hj=>(ht i hi j hj).mono ⟨6 ^ e,by rw [Int.pow_zero,Int.mul_one]⟩ ?_,hd.mono ⟨6 ^ e,by rw [Int.pow_zero,Int.mul_one]⟩ ?_,iv⟩
  . rw [Nat.pow_zero,Nat.mul_one];exact Nat.le_mul_of_pos_right _ p3
  . rw [Nat.pow_zero,Nat.mul_one];exact Nat.le_mul_of_pos_right _ p3
theorem e16{e:Nat}(h:e<=16):6 ^ e<=2 ^ 42/\3 ^ e<=2 ^ 26:=⟨Nat.le_trans (Nat.pow_le_pow_right (by decide) h) (by decide),Nat.le_trans (Nat.pow_le_pow_right (by decide) h) (by decide)⟩
theorem good_turn{e n:Nat}{t:Tb}{due:Int×Int}(he:e<=15)(g:Good e n t due)(c:Int):∃t' due',mLturned [tabD n n t,encF due, .int c]=some (.val (.tuple [tabD n n t',encF due']))/\Good (e+1) n t' due':=by
  obtain ⟨h1,h5,ht,hd,N,D,iv⟩:=g
  obtain ⟨p6,p3⟩:=e16 (e:=e) (by omega)
  have q6:(0:Int)<6 ^ e:=Int.pow_pos (by decide)
  have na:∀a:Nat,((a:Int)*6 ^ e).natAbs=a*6 ^ e:=fun a=>by rw [Int.natAbs_mul,Int.natAbs_pow];rfl
  obtain ⟨t', due', N', D', hr, ht', hd', iv'⟩ := run_turned (V := 1000000 * 3 ^ e) (U := 1000000000000000000000000000000 * 3 ^ e) (E := 60 * 6 ^ e) (F := 777600000 * 6 ^ e) h1 (by omega) (by omega) (p1000 (p := 48) (by
      rw [show ((60:Int)*6 ^ e).natAbs=60*6 ^ e from na 60]
      exact Nat.le_trans (Nat.mul_le_mul_left 60 p6) (by decide)) (by decide)) (p1000 (p:=46) (Nat.le_trans (Nat.mul_le_mul_left 1000000 p3) (by decide)) (by decide)) (Int.mul_pos (by decide) q6) (p1000 (p:=72) (by
      rw [show ((777600000:Int)*6 ^ e).natAbs=777600000*6 ^ e from na 777600000]
      exact Nat.le_trans (Nat.mul_le_mul_left 777600000 p6) (by decide)) (by decide)) (p1000 (p:=126) (Nat.le_trans (Nat.mul_le_mul_left 1000000000000000000000000000000 p3) (by decide)) (by decide)) ht hd iv c
  refine ⟨t',due',hr,h1,h5,fun i hi j hj=> ?_,?_,N',D',iv'⟩
  . have:=ht' i hi j hj
    rw [show (6:Int)*(60*6 ^ e)=60*6 ^ (e+1) by rw [Int.pow_succ];ac_rfl,show 3*(1000000*3 ^ e)=1000000*3 ^ (e+1) by rw [Nat.pow_succ];ac_rfl] at this
    exact this
  . have:=hd'
    rw [show (6:Int)*(777600000*6 ^ e)=777600000*6 ^ (e+1) by rw [Int.pow_succ];ac_rfl,show 3*(1000000000000000000000000000000*3 ^ e)=1000000000000000000000000000000*3 ^ (e+1) by rw [Nat.pow_succ];ac_rfl] at this
    exact this
theorem good_told{e n:Nat}{t:Tb}{due:Int×Int}(he:e<=16)(g:Good e n t due)(k:Int):mLtold [tabD n n t,encF due, .int k]=some (.val (.bool true)):=by
  obtain ⟨h1,h5,ht,hd,N,D,iv⟩:=g
  obtain ⟨p6,p3⟩:=e16 he
  have q6:(0:Int)<6 ^ e:=Int.pow_pos (by decide)
  refine run_told h1 h5 (fun i hi j hj=> ?_) iv k
  have o:=ht i hi j hj
  have l:(t i j).2.natAbs<=((60:Int)*6 ^ e).natAbs:=Nat.le_of_dvd (by omega) (Int.natAbs_dvd_natAbs.mpr o.dvd)
  have na:((60:Int)*6 ^ e).natAbs=60*6 ^ e:=by rw [Int.natAbs_mul,Int.natAbs_pow];rfl
  have b:(t i j).2.natAbs<=2 ^ 48:=Nat.le_trans l (by rw [na];exact Nat.le_trans (Nat.mul_le_mul_left 60 p6) (by decide))
  exact ⟨o.pos,o.gcd,b,Nat.le_trans o.val (Nat.le_trans (Nat.mul_le_mul (Nat.mul_le_mul_left 1000000 p3) b) (by decide))⟩
theorem good_begun(cs:List Int)(h1:1<=cs.length)(h2:cs.length<=64)(tot:Int):∃n t due,mLbegun [.list (il cs), .int tot]=some (rl n n t)/\mLfirst [tabD n n t]=some (.val (encF due))/\Good 0 n t due:=by
  obtain ⟨rs,hr,n,t,n1,n5,rfl,ht,hz⟩:=run_begun cs h1 h2 tot
  refine ⟨n,t,duN t n,hr,run_first n5 ht,n1,n5,fun i hi j hj=>(ht i hi j hj).mono ⟨1,rfl⟩ (by decide),(du_all n5 ht).mono ⟨1,rfl⟩ (by decide),_,_,iv_first ht hz⟩
theorem law_true(ns:List Int)(hns:ns.length<=63):m_law [.list (ns.map .int)]=some (.val (.bool true)):=by
  have sl:=sl1000
  have c64:=cells_len ns
  have c1:1<=(cellsOf ns).length:=by simp [cellsOf]
  generalize hcs:cellsOf ns=cs at *
  let S:Option Sl:=some (.val (.list (ns.map .int)))
  let Cv:Option Sl:=some (.val (.list (il cs)))
  let Tv:Option Sl:=some (.val (.int cs.sum))
  refine run_wp (ρ:= [S,none,none,none,none,none]) rfl rfl ?_
  unfold b_law
  refine wp_asgS (r:= .own (il cs)) (by rw [<-hcs];exact run_cells (n:=0) rfl) ?_
  refine wp_asgS (r:= .val (.int cs.sum)) (callP_to (consP_to (a:= .own (il cs)) rfl rfl) (sum_il cs)) ?_
  obtain ⟨n0,t0,due0,hb0,hf0,g0⟩:=good_begun cs c1 c64 cs.sum
  refine wp_seqN (ρ':= [S,Cv,Tv,some (.own (rowsD n0 n0 t0)),none,none]) (show mAsg 3 _ [S,Cv,Tv,none,none,none]=_ from (asg_to (r:= .own ((rl n0 n0 t0).map .list)) (ownW_to (ds:= [.list (il cs), .int cs.sum]) rfl hb0)).trans (by rw [rl_map];rfl)) ?_
  refine wp_seqN (ρ':= [S,Cv,Tv,some (.val (tabD n0 n0 t0)),some (.val (encF due0)),none]) (show mAsg 4 _ [S,Cv,Tv,some (.val (tabD n0 n0 t0)),none,none]=_ from asg_to (r:= .val (encF due0)) (call_to (ds:= [tabD n0 n0 t0]) rfl hf0)) ?_
  have len:∀ {z3 z4 z5:Option Sl},(mCallP dLen (mConsP (mPk 1) mNilP)) [S,Cv,Tv,z3,z4,z5]=some (.val (.int (cs.length:Int))):=fun {z3 z4 z5}=>callP_to (consP_to (a:= .val (.list (il cs))) rfl rfl) (by simp only [dLen,Sl.dat,il_len])
  refine wp_seq (P:=fun _=>True) ?_ (fun ρ _=>wp_ret (r:= .val (.bool true)) rfl rfl)
  refine wp_forR0 (n:=cs.length) (fun k ρ=>∃(n:Nat) (t:Tb) (due:Int×Int) (z5:Option Sl),ρ = [S,Cv,Tv,some (.val (tabD n n t)),some (.val (encF due)),z5]/\Good (k % 16) n t due) (rng1_to (j:=cs.length) (consP_to len rfl) (by omega)) ⟨n0,t0,due0,_,rfl,g0⟩ ?_ (fun _ _=>trivial)
  rintro k ρ hk ⟨n,t,due,z5,rfl,g⟩
  refine ⟨_,rfl,?_⟩
  let Kv:Option Sl:=some (.val (.int (k:Int)))
  have gc:(il cs)[k]? = some (.int cs[k]):=by
    unfold il
    rw [List.getElem?_map,List.getElem?_eq_getElem hk]
    rfl
  obtain ⟨t',due',hr,g'⟩:=good_turn (by omega) g (cs[k]+(k:Int).fmod 2)
  let T3:Option Sl:=some (.val (tabD n n t'))
  let D4:Option Sl:=some (.val (encF due'))
  refine wp_seqN (ρ':= [S,Cv,Tv,T3,D4,Kv]) (show mAsgT _ _ [S,Cv,Tv,some (.val (tabD n n t)),some (.val (encF due)),Kv]=_ from asgT_to (call_to (ds:= [tabD n n t,encF due, .int (cs[k]+(k:Int).fmod 2)]) (cons_to (a:= .val (tabD n n t)) rfl (cons_to (a:= .val (encF due)) rfl (cons_to (a:= .val (.int (cs[k]+(k:Int).fmod 2))) (as:= []) ?_ rfl))) hr) rfl) ?_
  . refine (bin_eq (op:=dAdd) (a:= .val (.int cs[k])) (b:= .val (.int ((k:Int).fmod 2))) ((bin_eq (a:= .val (.list (il cs))) (b:= .val (.int (k:Int))) rfl rfl).trans (dix_nat (.inl rfl) gc)) ((bin_eq (a:= .val (.int (k:Int))) (b:= .val (.int 2)) rfl rfl).trans (modS (by decide)))).trans rfl
  have tst:(mOr (mTest (mBin deq (mBin dMod (mPk 5) (mK (.int 16))) (mK (.int 15)))) (mTest (mBin deq (mPk 5) (mBin dSub (mCallP dLen (mConsP (mPk 1) mNilP)) (mK (.int 1)))))) [S,Cv,Tv,T3,D4,Kv]=some (decide ((k:Int).fmod 16=15) || decide ((k:Int)=(cs.length:Int) - 1)) :=
    or_to (test_eq ((bin_eq (a:= .val (.int ((k:Int).fmod 16))) (b:= .val (.int 15)) ((bin_eq (a:= .val (.int (k:Int))) (b:= .val (.int 16)) rfl rfl).trans (modS (by decide))) rfl).trans (deq_int _ _))) (test_eq ((bin_eq (a:= .val (.int (k:Int))) (b:= .val (.int ((cs.length:Int) - 1))) rfl ((bin_eq (op:=dSub) (a:= .val (.int (cs.length:Int))) (b:= .val (.int 1)) len rfl).trans rfl)).trans (deq_int _ _)))
  have f16:(k:Int).fmod 16=((k % 16:Nat):Int):=by
    rw [Int.fmod_eq_emod_of_nonneg _ (by decide)]
    rfl
  refine wp_if tst ?_
  by_cases hb:(decide ((k:Int).fmod 16=15) || decide ((k:Int)=(cs.length:Int) - 1))=true
  . rw [hb]
    obtain ⟨n1,t1,due1,hb1,hf1,g1⟩:=good_begun cs c1 c64 (cs.sum+(k:Int))
    have told:=good_told (by omega) g' ((k:Int)+cs.sum)
    refine wp_seqN (ρ':= [S,Cv,Tv,T3,D4,Kv]) (show mIf _ _ _ [S,Cv,Tv,T3,D4,Kv]=_ from if_to (b:=false) (not_to (k:=true) (test_eq (call_to (ds:= [tabD n n t',encF due', .int ((k:Int)+cs.sum)]) ?_ told))) rfl) ?_
    . exact cons_to (a:= .own (rowsD n n t')) (copies rfl (by have:=g'.2.1;omega)) (cons_to (a:= .val (encF due')) rfl (cons_to (a:= .val (.int ((k:Int)+cs.sum))) (as:= []) rfl rfl))
    refine wp_seqN (ρ':= [S,Cv,Tv,some (.own (rowsD n1 n1 t1)),D4,Kv]) (show mAsg 3 _ [S,Cv,Tv,T3,D4,Kv]=_ from (asg_to (r:= .own ((rl n1 n1 t1).map .list)) (ownW_to (ds:= [.list (il cs), .int (cs.sum+(k:Int))]) rfl hb1)).trans (by rw [rl_map];rfl)) ?_
    refine wp_of (show mAsg 4 _ [S,Cv,Tv,some (.val (tabD n1 n1 t1)),D4,Kv]=_ from asg_to (r:= .val (encF due1)) (call_to (ds:= [tabD n1 n1 t1]) rfl hf1)) ?_
    exact ⟨n1,t1,due1,_,rfl,good_up g1⟩
  . rw [Bool.not_eq_true] at hb
    rw [hb]
    refine wp_next ⟨n,t',due',_,rfl,?_⟩
    have h15:(k:Int).fmod 16≠15:=fun h=>by
      rw [decide_eq_true h] at hb
      cases hb
    rw [f16] at h15
    rw [show (k+1) % 16=k % 16+1 by omega]
    exact g'
theorem all_mk {l : PySem.W.OpenLaw} {w : World} {K : PySem.W.Frag} {h : Heap} {mg : Str -> Option Value} {fa : Addr} {od1 an1 : Option Addr} {sl1 : Array (Option Value)} {oc1 kV1 dc1 pm1 cd1 ct1 : Value} {f1 : Addr} {od2 an2 : Option Addr} {sl2 : Array (Option Value)} {oc2 kV2 dc2 pm2 cd2 ct2 : Value} {f2 : Addr} {od3 an3 : Option Addr} {sl3 : Array (Option Value)} {oc3 kV3 dc3 pm3 cd3 ct3 : Value} {f3 : Addr} {od4 an4 : Option Addr} {sl4 : Array (Option Value)} {oc4 kV4 dc4 pm4 cd4 ct4 : Value} {f4 : Addr} {od5 an5 : Option Addr} {sl5 : Array (Option Value)} {oc5 kV5 dc5 pm5 cd5 ct5 : Value} {f5 : Addr} {od6 an6 : Option Addr} {sl6 : Array (Option Value)} {oc6 kV6 dc6 pm6 cd6 ct6 : Value} {f6 : Addr} {od7 an7 : Option Addr} {sl7 : Array (Option Value)} {oc7 kV7 dc7 pm7 cd7 ct7 : Value} {f7 : Addr} {od8 an8 : Option Addr} {sl8 : Array (Option Value)} {oc8 kV8 dc8 pm8 cd8 ct8 : Value} {f8 : Addr} {od9 an9 : Option Addr} {sl9 : Array (Option Value)} {oc9 kV9 dc9 pm9 cd9 ct9 : Value} {f9 : Addr} {od10 an10 : Option Addr} {sl10 : Array (Option Value)} {oc10 kV10 dc10 pm10 cd10 ct10 : Value} {f10 : Addr} {od11 an11 : Option Addr} {sl11 : Array (Option Value)} {oc11 kV11 dc11 pm11 cd11 ct11 : Value} {f11 : Addr} {od12 an12 : Option Addr} {sl12 : Array (Option Value)} {oc12 kV12 dc12 pm12 cd12 ct12 : Value} {f12 : Addr} {od13 an13 : Option Addr} {sl13 : Array (Option Value)} {oc13 kV13 dc13 pm13 cd13 ct13 : Value} {f13 : Addr} {od14 an14 : Option Addr} {sl14 : Array (Option Value)} {oc14 kV14 dc14 pm14 cd14 ct14 : Value} {f14 : Addr} {od15 an15 : Option Addr} {sl15 : Array (Option Value)} {oc15 kV15 dc15 pm15 cd15 ct15 : Value} {f15 : Addr} {od16 an16 : Option Addr} {sl16 : Array (Option Value)} {oc16 kV16 dc16 pm16 cd16 ct16 : Value} {f16 : Addr} {od17 an17 : Option Addr} {sl17 : Array (Option Value)} {oc17 kV17 dc17 pm17 cd17 ct17 : Value} {f17 : Addr} {od18 an18 : Option Addr} {sl18 : Array (Option Value)} {oc18 kV18 dc18 pm18 cd18 ct18 : Value} {f18 : Addr} {od19 an19 : Option Addr} {sl19 : Array (Option Value)} {oc19 kV19 dc19 pm19 cd19 ct19 : Value} {f19 : Addr} {od20 an20 : Option Addr} {sl20 : Array (Option Value)} {oc20 kV20 dc20 pm20 cd20 ct20 : Value} {f20 : Addr} {od21 an21 : Option Addr} {sl21 : Array (Option Value)} {oc21 kV21 dc21 pm21 cd21 ct21 : Value} {f21 : Addr} {od22 an22 : Option Addr} {sl22 : Array (Option Value)} {oc22 kV22 dc22 pm22 cd22 ct22 : Value} {f22 : Addr} {od23 an23 : Option Addr} {sl23 : Array (Option Value)} {oc23 kV23 dc23 pm23 cd23 ct23 : Value} {f23 : Addr} {od24 an24 : Option Addr} {sl24 : Array (Option Value)} {oc24 kV24 dc24 pm24 cd24 ct24 : Value} {f24 : Addr} {od25 an25 : Option Addr} {sl25 : Array (Option Value)} {oc25 kV25 dc25 pm25 cd25 ct25 : Value} {f25 : Addr} {od26 an26 : Option Addr} {sl26 : Array (Option Value)} {oc26 kV26 dc26 pm26 cd26 ct26 : Value} {f26 : Addr} {od27 an27 : Option Addr} {sl27 : Array (Option Value)} {oc27 kV27 dc27 pm27 cd27 ct27 : Value} {f27 : Addr} {od28 an28 : Option Addr} {sl28 : Array (Option Value)} {oc28 kV28 dc28 pm28 cd28 ct28 : Value} {f28 : Addr} {od29 an29 : Option Addr} {sl29 : Array (Option Value)} {oc29 kV29 dc29 pm29 cd29 ct29 : Value} {f29 : Addr} {od30 an30 : Option Addr} {sl30 : Array (Option Value)} {oc30 kV30 dc30 pm30 cd30 ct30 : Value} {f30 : Addr} {od31 an31 : Option Addr} {sl31 : Array (Option Value)} {oc31 kV31 dc31 pm31 cd31 ct31 : Value} {f31 : Addr} {od32 an32 : Option Addr} {sl32 : Array (Option Value)} {oc32 kV32 dc32 pm32 cd32 ct32 : Value} {f32 : Addr} {C_S : Addr} {t_NOUGHT : Addr} {tk_NOUGHT_0 : Tok} {tk_NOUGHT_1 : Tok} {to_NOUGHT : Option Addr} {tn_NOUGHT : Nat} {ts_NOUGHT : Array (Option Value)} {t_UNIT : Addr} {tk_UNIT_0 : Tok} {tk_UNIT_1 : Tok} {to_UNIT : Option Addr} {tn_UNIT : Nat} {ts_UNIT : Array (Option Value)} (X : K.In h) (G : h.Ns mainGlobals mg) (hfa : mg "law" = some (.ref fa))
    (aC_Stairs:PySem.W.nsIn K mainGlobals "Stairs" = some (some (.ref C_S)))
    (pg_Stairs:PySem.W.plainGet K C_S Str.empty=true)
    (hd_Stairs:PySem.W.hasDictIn K C_S=true)
    (po_Stairs:PySem.W.plainOver K C_S=true)
    (sa_Stairs:PySem.W.findIn K (.ref C_S) "__setattr__" = some (some (.builtin "object.__setattr__")))
    (mk_Stairs:PySem.W.makesIn K C_S=true)
    (kc_Stairs:PySem.W.keepIn K (.ref C_S)=true)
    (n_Stairs_rows:PySem.W.findIn K (.ref C_S) "rows" = some none)
    (n_Stairs_leads:PySem.W.findIn K (.ref C_S) "leads" = some none)
    (n_Stairs_last:PySem.W.findIn K (.ref C_S) "last" = some none)
    (a1:PySem.W.nsIn K mainGlobals "_law_mix" = some (some (.ref f1)))
    (l1:K.lookup f1=some ⟨oc1,od1, .func (PySem.W.fnOf "_law_mix" "_law_mix" (defArgs sLmix) (defBody sLmix) (defScope sLmix) .none kV1 dc1 pm1 an1 cd1 ct1),sl1⟩)
    (c1:PySem.W.codeIn K cd1 "_law_mix" = true)
    (k1:PySem.W.keepIn K (.ref f1)=true)
    (a2:PySem.W.nsIn K mainGlobals "_law_divisor" = some (some (.ref f2)))
    (l2:K.lookup f2=some ⟨oc2,od2, .func (PySem.W.fnOf "_law_divisor" "_law_divisor" (defArgs sLdivisor) (defBody sLdivisor) (defScope sLdivisor) .none kV2 dc2 pm2 an2 cd2 ct2),sl2⟩)
    (c2:PySem.W.codeIn K cd2 "_law_divisor" = true)
    (k2:PySem.W.keepIn K (.ref f2)=true)
    (a3:PySem.W.nsIn K mainGlobals "_law_fraction" = some (some (.ref f3)))
    (l3:K.lookup f3=some ⟨oc3,od3, .func (PySem.W.fnOf "_law_fraction" "_law_fraction" (defArgs sLfraction) (defBody sLfraction) (defScope sLfraction) .none kV3 dc3 pm3 an3 cd3 ct3),sl3⟩)
    (c3:PySem.W.codeIn K cd3 "_law_fraction" = true)
    (k3:PySem.W.keepIn K (.ref f3)=true)
    (a4:PySem.W.nsIn K mainGlobals "_law_drawn" = some (some (.ref f4)))
    (l4:K.lookup f4=some ⟨oc4,od4, .func (PySem.W.fnOf "_law_drawn" "_law_drawn" (defArgs sLdrawn) (defBody sLdrawn) (defScope sLdrawn) .none kV4 dc4 pm4 an4 cd4 ct4),sl4⟩)
    (c4:PySem.W.codeIn K cd4 "_law_drawn" = true)
    (k4:PySem.W.keepIn K (.ref f4)=true)
    (a5:PySem.W.nsIn K mainGlobals "_law_begun" = some (some (.ref f5)))
    (l5:K.lookup f5=some ⟨oc5,od5, .func (PySem.W.fnOf "_law_begun" "_law_begun" (defArgs sLbegun) (defBody sLbegun) (defScope sLbegun) .none kV5 dc5 pm5 an5 cd5 ct5),sl5⟩)
    (c5:PySem.W.codeIn K cd5 "_law_begun" = true)
    (k5:PySem.W.keepIn K (.ref f5)=true)
    (a6:PySem.W.nsIn K mainGlobals "_law_times" = some (some (.ref f6)))
    (l6:K.lookup f6=some ⟨oc6,od6, .func (PySem.W.fnOf "_law_times" "_law_times" (defArgs sLtimes) (defBody sLtimes) (defScope sLtimes) .none kV6 dc6 pm6 an6 cd6 ct6),sl6⟩)
    (c6:PySem.W.codeIn K cd6 "_law_times" = true)
    (k6:PySem.W.keepIn K (.ref f6)=true)
    (a7:PySem.W.nsIn K mainGlobals "_law_first" = some (some (.ref f7)))
    (l7:K.lookup f7=some ⟨oc7,od7, .func (PySem.W.fnOf "_law_first" "_law_first" (defArgs sLfirst) (defBody sLfirst) (defScope sLfirst) .none kV7 dc7 pm7 an7 cd7 ct7),sl7⟩)
    (c7:PySem.W.codeIn K cd7 "_law_first" = true)
    (k7:PySem.W.keepIn K (.ref f7)=true)
    (a8:PySem.W.nsIn K mainGlobals "_law_plus" = some (some (.ref f8)))
    (l8:K.lookup f8=some ⟨oc8,od8, .func (PySem.W.fnOf "_law_plus" "_law_plus" (defArgs sLplus) (defBody sLplus) (defScope sLplus) .none kV8 dc8 pm8 an8 cd8 ct8),sl8⟩)
    (c8:PySem.W.codeIn K cd8 "_law_plus" = true)
    (k8:PySem.W.keepIn K (.ref f8)=true)
    (a9:PySem.W.nsIn K mainGlobals "_law_turned" = some (some (.ref f9)))
    (l9:K.lookup f9=some ⟨oc9,od9, .func (PySem.W.fnOf "_law_turned" "_law_turned" (defArgs sLturned) (defBody sLturned) (defScope sLturned) .none kV9 dc9 pm9 an9 cd9 ct9),sl9⟩)
    (c9:PySem.W.codeIn K cd9 "_law_turned" = true)
    (k9:PySem.W.keepIn K (.ref f9)=true)
    (a10:PySem.W.nsIn K mainGlobals "greatest_divisor" = some (some (.ref f10)))
    (l10:K.lookup f10=some ⟨oc10,od10, .func (PySem.W.fnOf "greatest_divisor" "greatest_divisor" (defArgs s_greatest_divisor) (defBody s_greatest_divisor) (defScope s_greatest_divisor) .none kV10 dc10 pm10 an10 cd10 ct10),sl10⟩)
    (c10:PySem.W.codeIn K cd10 "greatest_divisor" = true)
    (k10:PySem.W.keepIn K (.ref f10)=true)
    (a11:PySem.W.nsIn K mainGlobals "common_bottom" = some (some (.ref f11)))
    (l11:K.lookup f11=some ⟨oc11,od11, .func (PySem.W.fnOf "common_bottom" "common_bottom" (defArgs s_common_bottom) (defBody s_common_bottom) (defScope s_common_bottom) .none kV11 dc11 pm11 an11 cd11 ct11),sl11⟩)
    (c11:PySem.W.codeIn K cd11 "common_bottom" = true)
    (k11:PySem.W.keepIn K (.ref f11)=true)
    (a12:PySem.W.nsIn K mainGlobals "whole_row" = some (some (.ref f12)))
    (l12:K.lookup f12=some ⟨oc12,od12, .func (PySem.W.fnOf "whole_row" "whole_row" (defArgs s_whole_row) (defBody s_whole_row) (defScope s_whole_row) .none kV12 dc12 pm12 an12 cd12 ct12),sl12⟩)
    (c12:PySem.W.codeIn K cd12 "whole_row" = true)
    (k12:PySem.W.keepIn K (.ref f12)=true)
    (a13:PySem.W.findIn K (.ref C_S) "place_of_lead" = some (some (.ref f13)))
    (i13:PySem.W.isFn K (.ref f13)=true)
    (l13:K.lookup f13=some ⟨oc13,od13, .func (PySem.W.fnOf "place_of_lead" "Stairs.place_of_lead" (defArgs sS_place_of_lead) (defBody sS_place_of_lead) (defScope sS_place_of_lead) .none kV13 dc13 pm13 an13 cd13 ct13),sl13⟩)
    (c13:PySem.W.codeIn K cd13 "Stairs.place_of_lead" = true)
    (k13:PySem.W.keepIn K (.ref f13)=true)
    (a14:PySem.W.findIn K (.ref C_S) "exchange" = some (some (.ref f14)))
    (i14:PySem.W.isFn K (.ref f14)=true)
    (l14:K.lookup f14=some ⟨oc14,od14, .func (PySem.W.fnOf "exchange" "Stairs.exchange" (defArgs sS_exchange) (defBody sS_exchange) (defScope sS_exchange) .none kV14 dc14 pm14 an14 cd14 ct14),sl14⟩)
    (c14:PySem.W.codeIn K cd14 "Stairs.exchange" = true)
    (k14:PySem.W.keepIn K (.ref f14)=true)
    (a15:PySem.W.nsIn K mainGlobals "cleared_row" = some (some (.ref f15)))
    (l15:K.lookup f15=some ⟨oc15,od15, .func (PySem.W.fnOf "cleared_row" "cleared_row" (defArgs s_cleared_row) (defBody s_cleared_row) (defScope s_cleared_row) .none kV15 dc15 pm15 an15 cd15 ct15),sl15⟩)
    (c15:PySem.W.codeIn K cd15 "cleared_row" = true)
    (k15:PySem.W.keepIn K (.ref f15)=true)
    (a16:PySem.W.findIn K (.ref C_S) "step_down" = some (some (.ref f16)))
    (i16:PySem.W.isFn K (.ref f16)=true)
    (l16:K.lookup f16=some ⟨oc16,od16, .func (PySem.W.fnOf "step_down" "Stairs.step_down" (defArgs sS_step_down) (defBody sS_step_down) (defScope sS_step_down) .none kV16 dc16 pm16 an16 cd16 ct16),sl16⟩)
    (c16:PySem.W.codeIn K cd16 "Stairs.step_down" = true)
    (k16:PySem.W.keepIn K (.ref f16)=true)
    (a17:PySem.W.findIn K (.ref C_S) "__init__" = some (some (.ref f17)))
    (i17:PySem.W.isFn K (.ref f17)=true)
    (l17:K.lookup f17=some ⟨oc17,od17, .func (PySem.W.fnOf "__init__" "Stairs.__init__" (defArgs sS___init__) (defBody sS___init__) (defScope sS___init__) .none kV17 dc17 pm17 an17 cd17 ct17),sl17⟩)
    (c17:PySem.W.codeIn K cd17 "Stairs.__init__" = true)
    (k17:PySem.W.keepIn K (.ref f17)=true)
    (a18:PySem.W.nsIn K mainGlobals "stairs_of" = some (some (.ref f18)))
    (l18:K.lookup f18=some ⟨oc18,od18, .func (PySem.W.fnOf "stairs_of" "stairs_of" (defArgs s_stairs_of) (defBody s_stairs_of) (defScope s_stairs_of) .none kV18 dc18 pm18 an18 cd18 ct18),sl18⟩)
    (c18:PySem.W.codeIn K cd18 "stairs_of" = true)
    (k18:PySem.W.keepIn K (.ref f18)=true)
    (a19:PySem.W.nsIn K mainGlobals "rank" = some (some (.ref f19)))
    (l19:K.lookup f19=some ⟨oc19,od19, .func (PySem.W.fnOf "rank" "rank" (defArgs s_rank) (defBody s_rank) (defScope s_rank) .none kV19 dc19 pm19 an19 cd19 ct19),sl19⟩)
    (c19:PySem.W.codeIn K cd19 "rank" = true)
    (k19:PySem.W.keepIn K (.ref f19)=true)
    (a20:PySem.W.nsIn K mainGlobals "fraction" = some (some (.ref f20)))
    (l20:K.lookup f20=some ⟨oc20,od20, .func (PySem.W.fnOf "fraction" "fraction" (defArgs s_fraction) (defBody s_fraction) (defScope s_fraction) .none kV20 dc20 pm20 an20 cd20 ct20),sl20⟩)
    (c20:PySem.W.codeIn K cd20 "fraction" = true)
    (k20:PySem.W.keepIn K (.ref f20)=true)
    (a21:PySem.W.nsIn K mainGlobals "determinant" = some (some (.ref f21)))
    (l21:K.lookup f21=some ⟨oc21,od21, .func (PySem.W.fnOf "determinant" "determinant" (defArgs s_determinant) (defBody s_determinant) (defScope s_determinant) .none kV21 dc21 pm21 an21 cd21 ct21),sl21⟩)
    (c21:PySem.W.codeIn K cd21 "determinant" = true)
    (k21:PySem.W.keepIn K (.ref f21)=true)
    (a22:PySem.W.nsIn K mainGlobals "fractions_over" = some (some (.ref f22)))
    (l22:K.lookup f22=some ⟨oc22,od22, .func (PySem.W.fnOf "fractions_over" "fractions_over" (defArgs s_fractions_over) (defBody s_fractions_over) (defScope s_fractions_over) .none kV22 dc22 pm22 an22 cd22 ct22),sl22⟩)
    (c22:PySem.W.codeIn K cd22 "fractions_over" = true)
    (k22:PySem.W.keepIn K (.ref f22)=true)
    (a23:PySem.W.findIn K (.ref C_S) "reduced_column" = some (some (.ref f23)))
    (i23:PySem.W.isFn K (.ref f23)=true)
    (l23:K.lookup f23=some ⟨oc23,od23, .func (PySem.W.fnOf "reduced_column" "Stairs.reduced_column" (defArgs sS_reduced_column) (defBody sS_reduced_column) (defScope sS_reduced_column) .none kV23 dc23 pm23 an23 cd23 ct23),sl23⟩)
    (c23:PySem.W.codeIn K cd23 "Stairs.reduced_column" = true)
    (k23:PySem.W.keepIn K (.ref f23)=true)
    (a24:PySem.W.nsIn K mainGlobals "laid_over" = some (some (.ref f24)))
    (l24:K.lookup f24=some ⟨oc24,od24, .func (PySem.W.fnOf "laid_over" "laid_over" (defArgs s_laid_over) (defBody s_laid_over) (defScope s_laid_over) .none kV24 dc24 pm24 an24 cd24 ct24),sl24⟩)
    (c24:PySem.W.codeIn K cd24 "laid_over" = true)
    (k24:PySem.W.keepIn K (.ref f24)=true)
    (a25:PySem.W.nsIn K mainGlobals "reduced" = some (some (.ref f25)))
    (l25:K.lookup f25=some ⟨oc25,od25, .func (PySem.W.fnOf "reduced" "reduced" (defArgs s_reduced) (defBody s_reduced) (defScope s_reduced) .none kV25 dc25 pm25 an25 cd25 ct25),sl25⟩)
    (c25:PySem.W.codeIn K cd25 "reduced" = true)
    (k25:PySem.W.keepIn K (.ref f25)=true)
    (a26:PySem.W.nsIn K mainGlobals "_law_unit" = some (some (.ref f26)))
    (l26:K.lookup f26=some ⟨oc26,od26, .func (PySem.W.fnOf "_law_unit" "_law_unit" (defArgs sLunit) (defBody sLunit) (defScope sLunit) .none kV26 dc26 pm26 an26 cd26 ct26),sl26⟩)
    (c26:PySem.W.codeIn K cd26 "_law_unit" = true)
    (k26:PySem.W.keepIn K (.ref f26)=true)
    (a27:PySem.W.nsIn K mainGlobals "solution" = some (some (.ref f27)))
    (l27:K.lookup f27=some ⟨oc27,od27, .func (PySem.W.fnOf "solution" "solution" (defArgs s_solution) (defBody s_solution) (defScope s_solution) .none kV27 dc27 pm27 an27 cd27 ct27),sl27⟩)
    (c27:PySem.W.codeIn K cd27 "solution" = true)
    (k27:PySem.W.keepIn K (.ref f27)=true)
    (a28:PySem.W.nsIn K mainGlobals "witness" = some (some (.ref f28)))
    (l28:K.lookup f28=some ⟨oc28,od28, .func (PySem.W.fnOf "witness" "witness" (defArgs s_witness) (defBody s_witness) (defScope s_witness) .none kV28 dc28 pm28 an28 cd28 ct28),sl28⟩)
    (c28:PySem.W.codeIn K cd28 "witness" = true)
    (k28:PySem.W.keepIn K (.ref f28)=true)
    (a29:PySem.W.nsIn K mainGlobals "solved" = some (some (.ref f29)))
    (l29:K.lookup f29=some ⟨oc29,od29, .func (PySem.W.fnOf "solved" "solved" (defArgs s_solved) (defBody s_solved) (defScope s_solved) .none kV29 dc29 pm29 an29 cd29 ct29),sl29⟩)
    (c29:PySem.W.codeIn K cd29 "solved" = true)
    (k29:PySem.W.keepIn K (.ref f29)=true)
    (a30:PySem.W.nsIn K mainGlobals "_law_dot" = some (some (.ref f30)))
    (l30:K.lookup f30=some ⟨oc30,od30, .func (PySem.W.fnOf "_law_dot" "_law_dot" (defArgs sLdot) (defBody sLdot) (defScope sLdot) .none kV30 dc30 pm30 an30 cd30 ct30),sl30⟩)
    (c30:PySem.W.codeIn K cd30 "_law_dot" = true)
    (k30:PySem.W.keepIn K (.ref f30)=true)
    (a31:PySem.W.nsIn K mainGlobals "_law_told" = some (some (.ref f31)))
    (l31:K.lookup f31=some ⟨oc31,od31, .func (PySem.W.fnOf "_law_told" "_law_told" (defArgs sLtold) (defBody sLtold) (defScope sLtold) .none kV31 dc31 pm31 an31 cd31 ct31),sl31⟩)
    (c31:PySem.W.codeIn K cd31 "_law_told" = true)
    (k31:PySem.W.keepIn K (.ref f31)=true)
    (a32:PySem.W.nsIn K mainGlobals "law" = some (some (.ref f32)))
    (l32:K.lookup f32=some ⟨oc32,od32, .func (PySem.W.fnOf "law" "law" (defArgs s_law) (defBody s_law) (defScope s_law) .none kV32 dc32 pm32 an32 cd32 ct32),sl32⟩)
    (c32:PySem.W.codeIn K cd32 "law" = true)
    (k32:PySem.W.keepIn K (.ref f32)=true)
    (a_NOUGHT:PySem.W.nsIn K mainGlobals "NOUGHT" = some (some (.ref t_NOUGHT)))
    (l_NOUGHT:K.lookup t_NOUGHT=some ⟨.type "tuple",to_NOUGHT, .seq #[.int 0 tk_NOUGHT_0, .int 1 tk_NOUGHT_1] tn_NOUGHT,ts_NOUGHT⟩)
    (a_UNIT:PySem.W.nsIn K mainGlobals "UNIT" = some (some (.ref t_UNIT)))
    (l_UNIT:K.lookup t_UNIT=some ⟨.type "tuple",to_UNIT, .seq #[.int 1 tk_UNIT_0, .int 1 tk_UNIT_1] tn_UNIT,ts_UNIT⟩)
    (z0:PySem.W.nsIn K mainGlobals "abs" = some none)
    (z1:PySem.W.nsIn K mainGlobals "int" = some none)
    (z2:PySem.W.nsIn K mainGlobals "len" = some none)
    (z3:PySem.W.nsIn K mainGlobals "list" = some none)
    (z4:PySem.W.nsIn K mainGlobals "max" = some none)
    (z5:PySem.W.nsIn K mainGlobals "range" = some none)
    (z6:PySem.W.nsIn K mainGlobals "sum" = some none)
    (z7:PySem.W.nsIn K mainGlobals "zip" = some none)
    : ∃fd:FuncData,(∀(s:Shared) (v:Value),BindsTo s fd ⟨[v],[]⟩ [("_law_script",v)])/\∀base:Heap,K.In base->base.Ns mainGlobals mg->FnOk l.prog w K mg base CX0 10 fa fd ["_law_script"] (spLaw K):=by
  have e:=hfa.symm.trans (PySem.W.mg_of X G a32)
  cases e
  have FLmix:=fun_mk (st:=sLmix) l1 c1 k1
  have bLmix:=FLmix.binds (ps:= ["_law_cell","_law_j"]) fun _ _ _ _ _ _ us hl=>match us,hl with | [_,_],_=>rfl
  have FLdivisor:=fun_mk (st:=sLdivisor) l2 c2 k2
  have bLdivisor:=FLdivisor.binds (ps:= ["_law_one","_law_other"]) fun _ _ _ _ _ _ us hl=>match us,hl with | [_,_],_=>rfl
  have FLfraction:=fun_mk (st:=sLfraction) l3 c3 k3
  have bLfraction:=FLfraction.binds (ps:= ["_law_top","_law_bottom"]) fun _ _ _ _ _ _ us hl=>match us,hl with | [_,_],_=>rfl
  have FLdrawn:=fun_mk (st:=sLdrawn) l4 c4 k4
  have bLdrawn:=FLdrawn.binds (ps:= ["_law_cell","_law_j"]) fun _ _ _ _ _ _ us hl=>match us,hl with | [_,_],_=>rfl
  have FLbegun:=fun_mk (st:=sLbegun) l5 c5 k5
  have bLbegun:=FLbegun.binds (ps:= ["_law_cells","_law_total"]) fun _ _ _ _ _ _ us hl=>match us,hl with | [_,_],_=>rfl
  have FLtimes:=fun_mk (st:=sLtimes) l6 c6 k6
  have bLtimes:=FLtimes.binds (ps:= ["_law_one","_law_other"]) fun _ _ _ _ _ _ us hl=>match us,hl with | [_,_],_=>rfl
  have FLfirst:=fun_mk (st:=sLfirst) l7 c7 k7
  have bLfirst:=FLfirst.binds (ps:= ["_law_table"]) fun _ _ _ _ _ _ us hl=>match us,hl with | [_],_=>rfl
  have FLplus:=fun_mk (st:=sLplus) l8 c8 k8
  have bLplus:=FLplus.binds (ps:= ["_law_one","_law_other"]) fun _ _ _ _ _ _ us hl=>match us,hl with | [_,_],_=>rfl
  have FLturned:=fun_mk (st:=sLturned) l9 c9 k9
  have bLturned:=FLturned.binds (ps:= ["_law_table","_law_due","_law_cell"]) fun _ _ _ _ _ _ us hl=>match us,hl with | [_,_,_],_=>rfl
  have F_greatest_divisor:=fun_mk (st:=s_greatest_divisor) l10 c10 k10
  have b_greatest_divisor:=F_greatest_divisor.binds (ps:= ["one","other"]) fun _ _ _ _ _ _ us hl=>match us,hl with | [_,_],_=>rfl
  have F_common_bottom:=fun_mk (st:=s_common_bottom) l11 c11 k11
  have b_common_bottom:=F_common_bottom.binds (ps:= ["row"]) fun _ _ _ _ _ _ us hl=>match us,hl with | [_],_=>rfl
  have F_whole_row:=fun_mk (st:=s_whole_row) l12 c12 k12
  have b_whole_row:=F_whole_row.binds (ps:= ["row"]) fun _ _ _ _ _ _ us hl=>match us,hl with | [_],_=>rfl
  have FS_place_of_lead:=fun_mk (st:=sS_place_of_lead) l13 c13 k13
  have bS_place_of_lead:=FS_place_of_lead.binds (ps:= ["self","top","column"]) fun _ _ _ _ _ _ us hl=>match us,hl with | [_,_,_],_=>rfl
  have FS_exchange:=fun_mk (st:=sS_exchange) l14 c14 k14
  have bS_exchange:=FS_exchange.binds (ps:= ["self","top","place"]) fun _ _ _ _ _ _ us hl=>match us,hl with | [_,_,_],_=>rfl
  have F_cleared_row:=fun_mk (st:=s_cleared_row) l15 c15 k15
  have b_cleared_row:=F_cleared_row.binds (ps:= ["row","lead_row","column","last"]) fun _ _ _ _ _ _ us hl=>match us,hl with | [_,_,_,_],_=>rfl
  have FS_step_down:=fun_mk (st:=sS_step_down) l16 c16 k16
  have bS_step_down:=FS_step_down.binds (ps:= ["self","column"]) fun _ _ _ _ _ _ us hl=>match us,hl with | [_,_],_=>rfl
  have FS___init__:=fun_mk (st:=sS___init__) l17 c17 k17
  have bS___init__:=FS___init__.binds (ps:= ["self","rows"]) fun _ _ _ _ _ _ us hl=>match us,hl with | [_,_],_=>rfl
  have F_stairs_of:=fun_mk (st:=s_stairs_of) l18 c18 k18
  have b_stairs_of:=F_stairs_of.binds (ps:= ["table"]) fun _ _ _ _ _ _ us hl=>match us,hl with | [_],_=>rfl
  have F_rank:=fun_mk (st:=s_rank) l19 c19 k19
  have b_rank:=F_rank.binds (ps:= ["table"]) fun _ _ _ _ _ _ us hl=>match us,hl with | [_],_=>rfl
  have F_fraction:=fun_mk (st:=s_fraction) l20 c20 k20
  have b_fraction:=F_fraction.binds (ps:= ["top","bottom"]) fun _ _ _ _ _ _ us hl=>match us,hl with | [_,_],_=>rfl
  have F_determinant:=fun_mk (st:=s_determinant) l21 c21 k21
  have b_determinant:=F_determinant.binds (ps:= ["table"]) fun _ _ _ _ _ _ us hl=>match us,hl with | [_],_=>rfl
  have F_fractions_over:=fun_mk (st:=s_fractions_over) l22 c22 k22
  have b_fractions_over:=F_fractions_over.binds (ps:= ["numbers","bottom"]) fun _ _ _ _ _ _ us hl=>match us,hl with | [_,_],_=>rfl
  have FS_reduced_column:=fun_mk (st:=sS_reduced_column) l23 c23 k23
  have bS_reduced_column:=FS_reduced_column.binds (ps:= ["self","column"]) fun _ _ _ _ _ _ us hl=>match us,hl with | [_,_],_=>rfl
  have F_laid_over:=fun_mk (st:=s_laid_over) l24 c24 k24
  have b_laid_over:=F_laid_over.binds (ps:= ["table"]) fun _ _ _ _ _ _ us hl=>match us,hl with | [_],_=>rfl
  have F_reduced:=fun_mk (st:=s_reduced) l25 c25 k25
  have b_reduced:=F_reduced.binds (ps:= ["table"]) fun _ _ _ _ _ _ us hl=>match us,hl with | [_],_=>rfl
  have FLunit:=fun_mk (st:=sLunit) l26 c26 k26
  have bLunit:=FLunit.binds (ps:= ["_law_size"]) fun _ _ _ _ _ _ us hl=>match us,hl with | [_],_=>rfl
  have F_solution:=fun_mk (st:=s_solution) l27 c27 k27
  have b_solution:=F_solution.binds (ps:= ["table","column"]) fun _ _ _ _ _ _ us hl=>match us,hl with | [_,_],_=>rfl
  have F_witness:=fun_mk (st:=s_witness) l28 c28 k28
  have b_witness:=F_witness.binds (ps:= ["table","column"]) fun _ _ _ _ _ _ us hl=>match us,hl with | [_,_],_=>rfl
  have F_solved:=fun_mk (st:=s_solved) l29 c29 k29
  have b_solved:=F_solved.binds (ps:= ["table","column"]) fun _ _ _ _ _ _ us hl=>match us,hl with | [_,_],_=>rfl
  have FLdot:=fun_mk (st:=sLdot) l30 c30 k30
  have bLdot:=FLdot.binds (ps:= ["_law_one","_law_other"]) fun _ _ _ _ _ _ us hl=>match us,hl with | [_,_],_=>rfl
  have FLtold:=fun_mk (st:=sLtold) l31 c31 k31
  have bLtold:=FLtold.binds (ps:= ["_law_table","_law_due","_law_k"]) fun _ _ _ _ _ _ us hl=>match us,hl with | [_,_,_],_=>rfl
  have F_law:=fun_mk (st:=s_law) l32 c32 k32
  have b_law:=F_law.binds (ps:= ["_law_script"]) fun _ _ _ _ _ _ us hl=>match us,hl with | [_],_=>rfl
  have B:Bl mg:=⟨PySem.W.mg_none_of X G z0,PySem.W.mg_none_of X G z1,PySem.W.mg_none_of X G z2,PySem.W.mg_none_of X G z3,PySem.W.mg_none_of X G z4,PySem.W.mg_none_of X G z5,PySem.W.mg_none_of X G z6,PySem.W.mg_none_of X G z7⟩
  have K_S:Klass K C_S ["rows","leads","last"]:=⟨⟨pg_Stairs,hd_Stairs,po_Stairs,sa_Stairs⟩,fun f hf=>by
    simp only [List.mem_cons,List.not_mem_nil,or_false] at hf
    rcases hf with rfl | rfl | rfl
    . exact n_Stairs_rows
    . exact n_Stairs_leads
    . exact n_Stairs_last⟩
  have C_NOUGHT:GlobC K mg "NOUGHT" c_NOUGHT:=⟨.ref t_NOUGHT, .ref t_NOUGHT,PySem.W.mg_of X G a_NOUGHT,rfl,fun H0=>Rep.tuple (xs:= [V.int 0,V.int 1]) (.inr ⟨_,_,_,l_NOUGHT,rfl,rfl,by show 2<=sizeLine;decide, .cons ⟨_,rfl⟩ (.cons ⟨_,rfl⟩ (.nil))⟩) (.cons (.int _) (.cons (.int _) .nil))⟩
  have C_UNIT:GlobC K mg "UNIT" c_UNIT:=⟨.ref t_UNIT, .ref t_UNIT,PySem.W.mg_of X G a_UNIT,rfl,fun H0=>Rep.tuple (xs:= [V.int 1,V.int 1]) (.inr ⟨_,_,_,l_UNIT,rfl,rfl,by show 2<=sizeLine;decide, .cons ⟨_,rfl⟩ (.cons ⟨_,rfl⟩ (.nil))⟩) (.cons (.int _) (.cons (.int _) .nil))⟩
  refine ⟨PySem.W.fnOf "law" "law" (defArgs s_law) (defBody s_law) (defScope s_law) .none kV32 dc32 pm32 an32 cd32 ct32,fun s v=> .of_eq rfl,fun base _ _=> ?_⟩
  have DLmix:Def l.prog w K mg base 1 "_law_mix" ["_law_cell","_law_j"] (spD K mLmix):=⟨_,_,okLmix B FLmix,PySem.W.mg_of X G a1,k1,bLmix⟩
  have DLdivisor:Def l.prog w K mg base 1 "_law_divisor" ["_law_one","_law_other"] (spD K mLdivisor):=⟨_,_,okLdivisor B FLdivisor,PySem.W.mg_of X G a2,k2,bLdivisor⟩
  have DLfraction:Def l.prog w K mg base 2 "_law_fraction" ["_law_top","_law_bottom"] (spD K mLfraction):=⟨_,_,okLfraction B DLdivisor FLfraction,PySem.W.mg_of X G a3,k3,bLfraction⟩
  have DLdrawn:Def l.prog w K mg base 3 "_law_drawn" ["_law_cell","_law_j"] (spD K mLdrawn):=⟨_,_,okLdrawn B DLmix DLfraction FLdrawn,PySem.W.mg_of X G a4,k4,bLdrawn⟩
  have DLbegun:Def l.prog w K mg base 4 "_law_begun" ["_law_cells","_law_total"] (spW K mLbegun):=⟨_,_,okLbegun B DLmix DLdrawn FLbegun,PySem.W.mg_of X G a5,k5,bLbegun⟩
  have DLtimes:Def l.prog w K mg base 3 "_law_times" ["_law_one","_law_other"] (spD K mLtimes):=⟨_,_,okLtimes B DLfraction FLtimes,PySem.W.mg_of X G a6,k6,bLtimes⟩
  have DLfirst:Def l.prog w K mg base 4 "_law_first" ["_law_table"] (spD K mLfirst):=⟨_,_,okLfirst B DLtimes FLfirst,PySem.W.mg_of X G a7,k7,bLfirst⟩
  have DLplus:Def l.prog w K mg base 3 "_law_plus" ["_law_one","_law_other"] (spD K mLplus):=⟨_,_,okLplus B DLfraction FLplus,PySem.W.mg_of X G a8,k8,bLplus⟩
  have DLturned:Def l.prog w K mg base 4 "_law_turned" ["_law_table","_law_due","_law_cell"] (spD K mLturned):=⟨_,_,okLturned B DLmix DLtimes DLplus FLturned,PySem.W.mg_of X G a9,k9,bLturned⟩
  have D_greatest_divisor:Def l.prog w K mg base 1 "greatest_divisor" ["one","other"] (spD K m_greatest_divisor):=⟨_,_,ok_greatest_divisor B F_greatest_divisor,PySem.W.mg_of X G a10,k10,b_greatest_divisor⟩
  have D_common_bottom:Def l.prog w K mg base 2 "common_bottom" ["row"] (spD K m_common_bottom):=⟨_,_,ok_common_bottom B D_greatest_divisor F_common_bottom,PySem.W.mg_of X G a11,k11,b_common_bottom⟩
  have D_whole_row:Def l.prog w K mg base 3 "whole_row" ["row"] (spD K m_whole_row):=⟨_,_,ok_whole_row B D_common_bottom F_whole_row,PySem.W.mg_of X G a12,k12,b_whole_row⟩
  have DS_place_of_lead:MDef l.prog w K mg base 1 C_S "place_of_lead" ["self","top","column"] (spM K C_S ["rows","leads","last"] mS_place_of_lead):=⟨_,_,okS_place_of_lead B K_S FS_place_of_lead,⟨a13,i13,k13⟩,bS_place_of_lead⟩
  have DS_exchange:MDef l.prog w K mg base 1 C_S "exchange" ["self","top","place"] (spM K C_S ["rows","leads","last"] mS_exchange):=⟨_,_,okS_exchange B K_S FS_exchange,⟨a14,i14,k14⟩,bS_exchange⟩
  have D_cleared_row:Def l.prog w K mg base 1 "cleared_row" ["row","lead_row","column","last"] (spD K m_cleared_row):=⟨_,_,ok_cleared_row B F_cleared_row,PySem.W.mg_of X G a15,k15,b_cleared_row⟩
  have DS_step_down:MDef l.prog w K mg base 2 C_S "step_down" ["self","column"] (spM K C_S ["rows","leads","last"] mS_step_down):=⟨_,_,okS_step_down B DS_place_of_lead DS_exchange D_cleared_row K_S FS_step_down,⟨a16,i16,k16⟩,bS_step_down⟩
  have DS___init__:KDef l.prog w K mg base 3 C_S "Stairs" ["self","rows"] (spM K C_S ["rows","leads","last"] mS___init__):=⟨_,_,okS___init__ B DS_step_down K_S FS___init__,⟨mk_Stairs,a17,i17,kc_Stairs⟩,PySem.W.mg_of X G aC_Stairs,bS___init__⟩
  have D_stairs_of:Def l.prog w K mg base 5 "stairs_of" ["table"] (spO K C_S ["rows","leads","last"] m_stairs_of):=⟨_,_,ok_stairs_of B D_whole_row DS___init__ K_S F_stairs_of,PySem.W.mg_of X G a18,k18,b_stairs_of⟩
  have D_rank:Def l.prog w K mg base 6 "rank" ["table"] (spD K m_rank):=⟨_,_,ok_rank B D_stairs_of K_S F_rank,PySem.W.mg_of X G a19,k19,b_rank⟩
  have D_fraction:Def l.prog w K mg base 2 "fraction" ["top","bottom"] (spD K m_fraction):=⟨_,_,ok_fraction B D_greatest_divisor F_fraction,PySem.W.mg_of X G a20,k20,b_fraction⟩
  have D_determinant:Def l.prog w K mg base 6 "determinant" ["table"] (spD K m_determinant):=⟨_,_,ok_determinant B D_stairs_of D_common_bottom D_fraction C_NOUGHT K_S F_determinant,PySem.W.mg_of X G a21,k21,b_determinant⟩
  have D_fractions_over:Def l.prog w K mg base 3 "fractions_over" ["numbers","bottom"] (spD K m_fractions_over):=⟨_,_,ok_fractions_over B D_fraction F_fractions_over,PySem.W.mg_of X G a22,k22,b_fractions_over⟩
  have DS_reduced_column:MDef l.prog w K mg base 1 C_S "reduced_column" ["self","column"] (spR K C_S ["rows","leads","last"] mS_reduced_column):=⟨_,_,okS_reduced_column B K_S FS_reduced_column,⟨a23,i23,k23⟩,bS_reduced_column⟩
  have D_laid_over:Def l.prog w K mg base 1 "laid_over" ["table"] (spD K m_laid_over):=⟨_,_,ok_laid_over B F_laid_over,PySem.W.mg_of X G a24,k24,b_laid_over⟩
  have D_reduced:Def l.prog w K mg base 6 "reduced" ["table"] (spD K m_reduced):=⟨_,_,ok_reduced B D_stairs_of D_fractions_over DS_reduced_column D_laid_over C_NOUGHT K_S F_reduced,PySem.W.mg_of X G a25,k25,b_reduced⟩
  have DLunit:Def l.prog w K mg base 1 "_law_unit" ["_law_size"] (spD K mLunit):=⟨_,_,okLunit B FLunit,PySem.W.mg_of X G a26,k26,bLunit⟩
  have D_solution:Def l.prog w K mg base 6 "solution" ["table","column"] (spD K m_solution):=⟨_,_,ok_solution B D_stairs_of D_fractions_over DS_reduced_column C_NOUGHT K_S F_solution,PySem.W.mg_of X G a27,k27,b_solution⟩
  have D_witness:Def l.prog w K mg base 7 "witness" ["table","column"] (spD K m_witness):=⟨_,_,ok_witness B D_laid_over D_solution C_NOUGHT C_UNIT F_witness,PySem.W.mg_of X G a28,k28,b_witness⟩
  have D_solved:Def l.prog w K mg base 8 "solved" ["table","column"] (spD K m_solved):=⟨_,_,ok_solved B D_solution D_witness F_solved,PySem.W.mg_of X G a29,k29,b_solved⟩
  have DLdot:Def l.prog w K mg base 4 "_law_dot" ["_law_one","_law_other"] (spD K mLdot):=⟨_,_,okLdot B DLplus DLtimes FLdot,PySem.W.mg_of X G a30,k30,bLdot⟩
  have DLtold:Def l.prog w K mg base 9 "_law_told" ["_law_table","_law_due","_law_k"] (spD K mLtold):=⟨_,_,okLtold B D_rank D_determinant D_reduced DLunit D_solved DLdot FLtold,PySem.W.mg_of X G a31,k31,bLtold⟩
  exact (ok_law B DLbegun DLfirst DLturned DLtold F_law).imp (fun vs H Q E h=>law_imp law_true h)
theorem walk {l : PySem.W.OpenLaw} {q : Program} {loose : List Str} {XP : (Str -> Option Value) -> Heap -> Prop} {YP : World -> Heap -> Prop} {d : DefRec} {K : Params -> PySem.W.Frag} (hn : l.most = some 63) (hdf : d.params.defaults = [])
    (hY:∀(w:World) (h:Heap),YP w h->(K w.params).In h)
    (F:∀(w:World) (mg:Str->Option Value) (fa:Addr) (h:Heap),(K w.params).In h->h.Ns mainGlobals mg->mg d.name=some (.ref fa) ->
      ∃fd:FuncData,(∀(s:Shared) (u:Value),BindsTo s fd ⟨[u],[]⟩ [("_law_script",u)])/\∀base:Heap,(K w.params).In base->base.Ns mainGlobals mg->FnOk l.prog w (K w.params) mg base CX0 10 fa fd ["_law_script"] (spLaw (K w.params))) :
    PySem.W.WalkO q loose XP YP l.row.toRowW d [] (fun f vs=>PySem.call f vs) :=
  L2.walk_of (n:=63) (k:=10) (x:= "_law_script") (CX:=fun _=>CX0) (sp:=fun w=>spLaw (K w.params)) hn (by decide) hdf ⟨rfl,by decide,by decide⟩ hY F (fun _ _ a ns hl _ hS=>⟨a,ns,rfl,hS,hl,fun _=>rfl⟩) fun _ _ _ _ _ z=>z
end K06
open PySem PySem.W PyProof.Rows
set_option maxRecDepth 100000 in
set_option maxHeartbeats 0 in
theorem PySem.Challenge.cw_trialfield_k06_whole_determinants_holds : PySem.Challenge.rw_trialfield_k06_whole_determinants.Holds := by
  w_on;o_law;k_head;(case hw=>w_witness2)
  k_fill
  refine K06.walk (l := PySem.Challenge.rw_trialfield_k06_whole_determinants) rfl rfl (fun w h Y => PySem.W.kIn_of Y) ?F
  case F=>
    intro w mg fa h KX G hmg
    refine' K06.all_mk KX G hmg ?aC_Stairs ?pg_Stairs ?hd_Stairs ?po_Stairs ?sa_Stairs ?mk_Stairs ?kc_Stairs ?n_Stairs_rows ?n_Stairs_leads ?n_Stairs_last ?a1 ?l1 ?c1 ?k1 ?a2 ?l2 ?c2 ?k2 ?a3 ?l3 ?c3 ?k3 ?a4 ?l4 ?c4 ?k4 ?a5 ?l5 ?c5 ?k5 ?a6 ?l6 ?c6 ?k6 ?a7 ?l7 ?c7 ?k7 ?a8 ?l8 ?c8 ?k8 ?a9 ?l9 ?c9 ?k9 ?a10 ?l10 ?c10 ?k10 ?a11 ?l11 ?c11 ?k11 ?a12 ?l12 ?c12 ?k12 ?a13 ?i13 ?l13 ?c13 ?k13 ?a14 ?i14 ?l14 ?c14 ?k14 ?a15 ?l15 ?c15 ?k15 ?a16 ?i16 ?l16 ?c16 ?k16 ?a17 ?i17 ?l17 ?c17 ?k17 ?a18 ?l18 ?c18 ?k18 ?a19 ?l19 ?c19 ?k19 ?a20 ?l20 ?c20 ?k20 ?a21 ?l21 ?c21 ?k21 ?a22 ?l22 ?c22 ?k22 ?a23 ?i23 ?l23 ?c23 ?k23 ?a24 ?l24 ?c24 ?k24 ?a25 ?l25 ?c25 ?k25 ?a26 ?l26 ?c26 ?k26 ?a27 ?l27 ?c27 ?k27 ?a28 ?l28 ?c28 ?k28 ?a29 ?l29 ?c29 ?k29 ?a30 ?l30 ?c30 ?k30 ?a31 ?l31 ?c31 ?k31 ?a32 ?l32 ?c32 ?k32 ?a_NOUGHT ?l_NOUGHT ?a_UNIT ?l_UNIT ?z0 ?z1 ?z2 ?z3 ?z4 ?z5 ?z6 ?z7
    (case aC_Stairs=>k_is)
    (case pg_Stairs=>k_is)
    (case hd_Stairs=>k_is)
    (case po_Stairs=>k_is)
    (case sa_Stairs=>k_is)
    (case mk_Stairs=>k_is)
    (case kc_Stairs=>k_is)
    (case n_Stairs_rows=>k_is)
    (case n_Stairs_leads=>k_is)
    (case n_Stairs_last=>k_is)
    (case a1=>k_is)
    (case l1=>k_is)
    (case c1=>k_is)
    (case k1=>k_is)
    (case a2=>k_is)
    (case l2=>k_is)
    (case c2=>k_is)
    (case k2=>k_is)
    (case a3=>k_is)
    (case l3=>k_is)
    (case c3=>k_is)
    (case k3=>k_is)
    (case a4=>k_is)
    (case l4=>k_is)
    (case c4=>k_is)
    (case k4=>k_is)
    (case a5=>k_is)
    (case l5=>k_is)
    (case c5=>k_is)
    (case k5=>k_is)
    (case a6=>k_is)
    (case l6=>k_is)
    (case c6=>k_is)
    (case k6=>k_is)
    (case a7=>k_is)
    (case l7=>k_is)
    (case c7=>k_is)
    (case k7=>k_is)
    (case a8=>k_is)
    (case l8=>k_is)
    (case c8=>k_is)
    (case k8=>k_is)
    (case a9=>k_is)
    (case l9=>k_is)
    (case c9=>k_is)
    (case k9=>k_is)
    (case a10=>k_is)
    (case l10=>k_is)
    (case c10=>k_is)
    (case k10=>k_is)
    (case a11=>k_is)
    (case l11=>k_is)
    (case c11=>k_is)
    (case k11=>k_is)
    (case a12=>k_is)
    (case l12=>k_is)
    (case c12=>k_is)
    (case k12=>k_is)
    (case a13=>k_is)
    (case i13=>k_is)
    (case l13=>k_is)
    (case c13=>k_is)
    (case k13=>k_is)
    (case a14=>k_is)
    (case i14=>k_is)
    (case l14=>k_is)
    (case c14=>k_is)
    (case k14=>k_is)
    (case a15=>k_is)
    (case l15=>k_is)
    (case c15=>k_is)
    (case k15=>k_is)
    (case a16=>k_is)
    (case i16=>k_is)
    (case l16=>k_is)
    (case c16=>k_is)
    (case k16=>k_is)
    (case a17=>k_is)
    (case i17=>k_is)
    (case l17=>k_is)
    (case c17=>k_is)
    (case k17=>k_is)
    (case a18=>k_is)
    (case l18=>k_is)
    (case c18=>k_is)
    (case k18=>k_is)
    (case a19=>k_is)
    (case l19=>k_is)
    (case c19=>k_is)
    (case k19=>k_is)
    (case a20=>k_is)
    (case l20=>k_is)
    (case c20=>k_is)
    (case k20=>k_is)
    (case a21=>k_is)
    (case l21=>k_is)
    (case c21=>k_is)
    (case k21=>k_is)
    (case a22=>k_is)
    (case l22=>k_is)
    (case c22=>k_is)
    (case k22=>k_is)
    (case a23=>k_is)
    (case i23=>k_is)
    (case l23=>k_is)
    (case c23=>k_is)
    (case k23=>k_is)
    (case a24=>k_is)
    (case l24=>k_is)
    (case c24=>k_is)
    (case k24=>k_is)
    (case a25=>k_is)
    (case l25=>k_is)
    (case c25=>k_is)
    (case k25=>k_is)
    (case a26=>k_is)
    (case l26=>k_is)
    (case c26=>k_is)
    (case k26=>k_is)
    (case a27=>k_is)
    (case l27=>k_is)
    (case c27=>k_is)
    (case k27=>k_is)
    (case a28=>k_is)
    (case l28=>k_is)
    (case c28=>k_is)
    (case k28=>k_is)
    (case a29=>k_is)
    (case l29=>k_is)
    (case c29=>k_is)
    (case k29=>k_is)
    (case a30=>k_is)
    (case l30=>k_is)
    (case c30=>k_is)
    (case k30=>k_is)
    (case a31=>k_is)
    (case l31=>k_is)
    (case c31=>k_is)
    (case k31=>k_is)
    (case a32=>k_is)
    (case l32=>k_is)
    (case c32=>k_is)
    (case k32=>k_is)
    (case a_NOUGHT=>k_is)
    (case l_NOUGHT=>k_is)
    (case a_UNIT=>k_is)
    (case l_UNIT=>k_is)
    (case z0=>k_is)
    (case z1=>k_is)
    (case z2=>k_is)
    (case z3=>k_is)
    (case z4=>k_is)
    (case z5=>k_is)
    (case z6=>k_is)
    (case z7=>k_is)
