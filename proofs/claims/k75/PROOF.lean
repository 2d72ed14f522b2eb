import PyProof.Rows.All
import Wide.All
import OpenK.AllK
import Wide.FinOn
import Lean
import PyProof.EqAt
import PyProof.EqKinds
import PyProof.TupleCall
import PySem.Challenge.RW_trialfield_k75_whole_single_things_of_ev
set_option Elab.async false
set_option linter.all false
set_option maxRecDepth 100000
set_option maxHeartbeats 4000000
namespace L2
open PySem PySem.Spec PyProof.Rows
abbrev Key:=Sum Int Str
def keyIs:Key->Value->Bool
 | .inl k,v=>Value.isInt k v
 | .inr x,v=>Value.isStrOf x v
def keyH(w:World):Key->Int
 | .inl k=>hashInt k
 | .inr x=>hashStr w x
theorem keyIs_shape:∀ {k:Key} {v:Value},keyIs k v=true->(∃i t,k=Sum.inl i/\v=Value.int i t)\/(∃x t,k=Sum.inr x/\v=Value.str x t)
 | .inl i,v,h=>by
  obtain ⟨t,e⟩:=Value.isInt_shape (k:=i) (v:=v) h
  exact .inl ⟨i,t,rfl,e⟩
 | .inr x,v,h=>by
  obtain ⟨t,e⟩:=Value.isStrOf_shape (x:=x) (v:=v) h;exact .inr ⟨x,t,rfl,e⟩
theorem key_ll(a b:Int):decide ((Sum.inl a:Key)=Sum.inl b)=(a==b):=by
 by_cases e:a=b
 . subst e;simp
 . have h:¬(Sum.inl a:Key)=Sum.inl b:=fun q=>e (Sum.inl.inj q);rw [decide_eq_false h];exact (beq_eq_false_iff_ne.mpr e).symm
theorem key_rr(a b:Str):decide ((Sum.inr a:Key)=Sum.inr b)=decide (a=b):=by
 by_cases e:a=b
 . subst e;simp
 . have h:¬(Sum.inr a:Key)=Sum.inr b:=fun q=>e (Sum.inr.inj q);rw [decide_eq_false h,decide_eq_false e]
theorem key_lr(a:Int)(b:Str):decide ((Sum.inl a:Key)=Sum.inr b)=false:=decide_eq_false (fun q=>nomatch q)
theorem key_rl(a:Str)(b:Int):decide ((Sum.inr a:Key)=Sum.inl b)=false:=decide_eq_false (fun q=>nomatch q)
def mixKind(prog:Program)(w:World):PySem.KeyKind prog w Key where
 is:=keyIs
 hash:=keyH w
 inj:=fun v a b ha hb=>by
  rcases keyIs_shape ha with ⟨i,t,rfl,rfl⟩ | ⟨x,t,rfl,rfl⟩
  . rcases keyIs_shape hb with ⟨j,u,rfl,e⟩ | ⟨y,u,rfl,e⟩
    . injection e with e1 _;rw [e1]
    . exact nomatch e
  . rcases keyIs_shape hb with ⟨j,u,rfl,e⟩ | ⟨y,u,rfl,e⟩
    . exact nomatch e
    . injection e with e1 _;rw [e1]
 byValue:=fun k v h=>by
  rcases keyIs_shape h with ⟨i,t,rfl,rfl⟩ | ⟨x,t,rfl,rfl⟩ <;> rfl
 pyHash:=fun hv h=>by
  rcases keyIs_shape hv with ⟨i,t,rfl,rfl⟩ | ⟨x,t,rfl,rfl⟩
  . exact wpAny_pyHash_int h
  . exact wpAny_pyHash_str h
 eqBool:=fun hu hv h=>by
  rcases keyIs_shape hu with ⟨i,t,rfl,rfl⟩ | ⟨x,t,rfl,rfl⟩
  . rcases keyIs_shape hv with ⟨j,u,rfl,rfl⟩ | ⟨y,u,rfl,rfl⟩
    . rw [key_ll] at h;exact wpAny_eqBool_int h
    . rw [key_lr] at h;exact SeqAt.EqAt.int_str i t y u _ _ _ _ h
  . rcases keyIs_shape hv with ⟨j,u,rfl,rfl⟩ | ⟨y,u,rfl,rfl⟩
    . rw [key_rl] at h;exact SeqAt.EqAt.str_int x t j u _ _ _ _ h
    . rw [key_rr] at h;exact wpAny_eqBool_str h
 «strs» := fun k x t v h => by
  rcases keyIs_shape h with ⟨i,u,rfl,e⟩ | ⟨y,u,rfl,e⟩
  . exact nomatch e
  . injection e with e1 _
    subst e1
    cases v <;> rfl
end L2
namespace L2
open PySem PySem.Spec PyProof.Rows
inductive V where
 | non | bl (b:Bool) | int (i:Int) | str (x:Str) | byt (b:Array UInt8) | flt (b:UInt64) | ref (a:Addr) | ty (n:String)
 deriving DecidableEq
def RelV:V->Value->Prop
 | .non,u=>u=Value.none
 | .bl b,u=>u=Value.bool b
 | .int i,u=>∃t,u=Value.int i t
 | .str x,u=>∃t,u=Value.str x t
 | .byt b,u=>∃t,u=Value.bytes b t
 | .flt b,u=>∃t,u=Value.float b t
 | .ref a,u=>u=Value.ref a
 | .ty n,u=>u=Value.type n
abbrev Vals:List V->List Value->Prop:=Paired RelV
theorem Vals.length{xs:List V}{us:List Value}(r:Vals xs us):xs.length=us.length:=Paired.length r
theorem Vals.get:∀ {xs:List V} {us:List Value} {i:Nat} {x:V},Vals xs us->xs[i]? = some x->∃u,us[i]? = some u/\RelV x u
 | _,_,_,_, .nil,e=>by simp at e
 | _,_,0,_, .cons r _,e=>by simp at e;subst e;exact ⟨_,rfl,r⟩
 | _,_,i+1,x, .cons _ t,e=>by
  obtain ⟨u,h1,h2⟩:=Vals.get (i:=i) (x:=x) t (by simpa using e);exact ⟨u,by simpa using h1,h2⟩
theorem Vals.set{x:V}{u:Value}(r:RelV x u):∀ {xs:List V} {us:List Value} (i:Nat),Vals xs us->Vals (xs.set i x) (us.set i u)
 | _,_,_, .nil=> .nil
 | _,_,0, .cons _ t=> .cons r t
 | _,_,i+1, .cons q t=> .cons q (Vals.set r i t)
theorem Vals.append:∀ {xs ys:List V} {us ws:List Value},Vals xs us->Vals ys ws->Vals (xs++ys) (us++ws)
 | _,_,_,_, .nil,s=>s
 | _,_,_,_, .cons r t,s=> .cons r (Vals.append t s)
theorem Vals.take:∀ {xs:List V} {us:List Value} (n:Nat),Vals xs us->Vals (xs.take n) (us.take n)
 | _,_,0,_=> .nil
 | _,_,_+1, .nil=> .nil
 | _,_,n+1, .cons r t=> .cons r (Vals.take n t)
theorem Vals.drop:∀ {xs:List V} {us:List Value} (n:Nat),Vals xs us->Vals (xs.drop n) (us.drop n)
 | _,_,0,r=>r
 | _,_,_+1, .nil=> .nil
 | _,_,n+1, .cons _ t=>Vals.drop n t
theorem Vals.none_of:∀ {xs:List V} {us:List Value} {i:Nat},Vals xs us->xs[i]? = none->us[i]? = none:=fun {xs us i} r e=>by
 have h1:=r.length;have h2:xs.length<=i:=List.getElem?_eq_none_iff.mp e;exact List.getElem?_eq_none_iff.mpr (by omega)
def RelO:Option V->Option Value->Prop
 | some v,some u=>RelV v u
 | none,none=>True
 | _,_=>False
def KV{κ:Type}:List (κ×V)->List (κ×Value)->Prop:=Paired fun (p:κ×V) (q:κ×Value)=>p.1=q.1/\RelV p.2 q.2
def kV:Key->V
 | .inl i=> .int i
 | .inr x=> .str x
inductive HO where
 | lst (xs:List V)
 | tup (xs:List V)
 | dK (kvs:List (Key×V)) | dT (kvs:List (List Key×V))
 | set (S:Int->Bool) (n:Nat)
 | ins (C dx:Addr) (fs:List (Str×V))
 | own (x:Addr)
 | xd (fs:List (Str×V))
 | met (f x:Addr)
 | rng (lo hi:Int)
 | frz (o:Obj) (u:HO)
 | tbl (ps:Array Value)
 | ext (φ:Heap->Prop)
abbrev Hp:=Addr->Option HO
def upd(H:Hp)(a:Addr)(o:HO):Hp:=fun b=>if b=a then some o else H b
theorem upd_same{H:Hp}{a:Addr}{o:HO}:upd H a o a=some o:=by unfold upd;rw [if_pos rfl]
theorem upd_ne{H:Hp}{a b:Addr}{o:HO}(h:b≠a):upd H a o b=H b:=by unfold upd;rw [if_neg h]
theorem ne_of_none{H:Hp}{a b:Addr}{o:HO}(h:H a=some o)(h':H b=none):a≠b:=by
 intro e;subst e;rw [h] at h';cases h'
section
variable (P:Program) (w:World)
def ObjOk(H:Hp)(h:Heap)(a:Addr):HO->Prop
 | .lst xs=>xs.length<=sizeLine/\∃(its:List Value) (n:Nat),Vals xs its/\h.get? a=some { cls:= .type "list",data:= .seq its.toArray n }
 | .tup xs=>xs.length<=sizeLine/\∃its:List Value,Vals xs its/\IsTup h a its.toArray
 | .dK kvs=>kvs.length<=sizeLine/\(a==sysModules)=false/\∃vs,KV kvs vs/\h.DictOf (mixKind P w) a vs
 | .dT kvs => kvs.length <= sizeLine /\ (a == sysModules) = false /\ ∃ xs : List (List Key × Addr × Value),
  Paired (fun (p:List Key×V) (q:List Key×Addr×Value)=>p.1=q.1/\H q.2.1=some (.tup (p.1.map kV))/\RelV p.2 q.2.2) kvs xs /\
  ∃o es ep,h.get? a=some o/\o.ExactDict/\o.data = .dict es ep/\es.toList=xs.map (entryOfKey (tupleKind (mixKind P w)))/\(xs.map (·.1)).Nodup
 | .set S n=>h.SetOf (intKind P w) a S n
 | .ins C dx fs => H dx = some (.own a) /\ fs.length <= 1000 /\ dx ≠ a /\ h.get? a = some (W.instObj C dx) /\
  ∃mA,h.Ns1 dx mA/\(∀f,RelO (fs.lookup f) (mA f))/\PySem.Within mA (fs.map (·.1))
 | .own _=>∃o,h.get? a=some o
 | .xd fs=>∃mA,h.Ns1 a mA/\∀f,RelO (fs.lookup f) (mA f)
 | .rng lo hi=>∃t u v,h.get? a=some { cls:= .type "range",data:= .fields #[.int lo t, .int hi u, .int 1 v] }
 | .frz o u=>h.get? a=some o/\ObjOk H h a u
 | .tbl ps=>h.get? a=some { cls:= .none,data:= .fields ps }
 | .met f x=>h.get? a=some (W.methodObj (.ref f) (.ref x))
 | .ext φ=>φ h/\(∃o,h.get? a=some o)/\∀h1 h2:Heap,φ h1->(∀o,h1.get? a=some o->h2.get? a=some o)->φ h2
def HOk(H:Hp)(h:Heap):Prop:=∀a o,H a=some o->ObjOk P w H h a o
end
section
variable {P:Program} {w:World} {H H':Hp} {h h':Heap} {a:Addr} {o:HO}
theorem ObjOk.lt(x:ObjOk P w H h a o):a<h.objs.size:=by
 cases o with
 | lst xs=>obtain ⟨_,_,_,_,e⟩:=x;exact Heap.lt_size e
 | tup xs=>obtain ⟨_,_,_,p⟩:=x;exact p.lt
 | dK kvs=>obtain ⟨_,_,_,_,o,_,_,e,_⟩:=x;exact Heap.lt_size e
 | dT kvs=>obtain ⟨_,_,_,_,o,_,_,e,_⟩:=x;exact Heap.lt_size e
 | set S n=>obtain ⟨o,_,_,_,e,_⟩:=x;exact Heap.lt_size e
 | ins C dx fs=>obtain ⟨_,_,_,e,_⟩:=x;exact Heap.lt_size e
 | own y=>obtain ⟨_,e⟩:=x;exact Heap.lt_size e
 | xd fs=>obtain ⟨_,⟨_,_,_,e,_⟩,_⟩:=x;exact Heap.lt_size e
 | rng lo hi=>obtain ⟨_,_,_,e⟩:=x;exact Heap.lt_size e
 | frz ob u=>obtain ⟨e,_⟩:=x;exact Heap.lt_size e
 | tbl ps=>exact Heap.lt_size (show h.get? a=some _ from x)
 | met f y=>exact Heap.lt_size (show h.get? a=some _ from x)
 | ext φ=>obtain ⟨_,⟨_,e⟩,_⟩:=x;exact Heap.lt_size e
theorem Paired.mapP{α β:Type}{F G:α->β->Prop}:∀ {l₁:List α} {l₂:List β},Paired F l₁ l₂->(∀a b,F a b->G a b)->Paired G l₁ l₂
 | _,_, .nil,_=> .nil
 | _,_, .cons r t,f=> .cons (f _ _ r) (Paired.mapP t f)
theorem ObjOk.stay (x : ObjOk P w H h a o) (k : ∀ b u, (b = a \/ H b = some (.own a)) -> h.get? b = some u -> h'.get? b = some u)
 (ho:∀b,H b=some (.own a)->H' b=some (.own a)) (ht:∀b xs,H b=some (.tup xs)->H' b=some (.tup xs)):ObjOk P w H' h' a o:=by
 induction o with
 | lst xs=>obtain ⟨z,its,n,r,e⟩:=x;exact ⟨z,its,n,r,k _ _ (.inl rfl) e⟩
 | tup xs=>obtain ⟨z,its,r,ob,e,c⟩:=x;exact ⟨z,its,r,ob,k _ _ (.inl rfl) e,c⟩
 | dK kvs=>obtain ⟨z,y,vs,r,ob,es,ep,e,c⟩:=x;exact ⟨z,y,vs,r,ob,es,ep,k _ _ (.inl rfl) e,c⟩
 | dT kvs=>
  obtain ⟨z,y,xs,r,ob,es,ep,e,c⟩:=x
  exact ⟨z,y,xs,Paired.mapP r fun p q z=>⟨z.1,ht _ _ z.2.1,z.2.2⟩,ob,es,ep,k _ _ (.inl rfl) e,c⟩
 | set S n=>obtain ⟨ob,es,ep,t,e,c⟩:=x;exact ⟨ob,es,ep,t,k _ _ (.inl rfl) e,c⟩
 | ins C dx fs=>
  obtain ⟨d,z,ne,e,mA,⟨od,es,ep,e2,c⟩,r⟩:=x
  exact ⟨ho _ d,z,ne,k _ _ (.inl rfl) e,mA,⟨od,es,ep,k _ _ (.inr d) e2,c⟩,r⟩
 | own y=>obtain ⟨ob,e⟩:=x;exact ⟨ob,k _ _ (.inl rfl) e⟩
 | xd fs=>obtain ⟨mA,⟨od,es,ep,e,c⟩,r⟩:=x;exact ⟨mA,⟨od,es,ep,k _ _ (.inl rfl) e,c⟩,r⟩
 | rng lo hi=>obtain ⟨t,u,v,e⟩:=x;exact ⟨t,u,v,k _ _ (.inl rfl) e⟩
 | frz ob u ih=>obtain ⟨e,q⟩:=x;exact ⟨k _ _ (.inl rfl) e,ih q⟩
 | tbl ps=>
  have e:h.get? a=some { cls:= .none,data:= .fields ps }:=x;show h'.get? a=some { cls:= .none,data:= .fields ps }
  exact k a _ (.inl rfl) e
 | met f y=>
  have e:h.get? a=some (W.methodObj (.ref f) (.ref y)):=x;show h'.get? a=some (W.methodObj (.ref f) (.ref y))
  exact k a _ (.inl rfl) e
 | ext φ=>obtain ⟨p,⟨o,e⟩,st⟩:=x;exact ⟨st _ _ p fun o q=>k _ _ (.inl rfl) q,⟨o,k _ _ (.inl rfl) e⟩,st⟩
theorem HOk.lt(x:HOk P w H h)(e:H a=some o):a<h.objs.size:=(x a o e).lt
theorem HOk.fresh(x:HOk P w H h)(e:h.objs.size<=a):H a=none:=by
 cases q:H a with
 | none=>rfl
 | some u=>exact absurd (Nat.lt_of_lt_of_le (x.lt q) e) (Nat.lt_irrefl _)
theorem HOk.kept(x:HOk P w H h)(k:∀b u,h.get? b=some u->h'.get? b=some u):HOk P w H h':=fun a o e=>
 (x a o e).stay (fun b u _ q=>k b u q) (fun _ q=>q) fun _ _ q=>q
theorem HOk.laid(x:HOk P w H h)(k:∀b u,h.get? b=some u->h'.get? b=some u)(hp:h.objs.size<=a)(new:ObjOk P w (upd H a o) h' a o):HOk P w (upd H a o) h':=fun b u e=>by
 have hn:=x.fresh hp
 by_cases hb:b=a
 . subst hb;rw [upd_same] at e;cases e;exact new
 . rw [upd_ne hb] at e
   exact (x b u e).stay (fun c v _ q=>k c v q) (fun c q=>by rw [upd_ne (ne_of_none q hn)];exact q) fun c xs q=>by rw [upd_ne (ne_of_none q hn)];exact q
end
def Rd(H:Hp)(a:Addr)(u:HO):Prop:=H a=some u\/∃o,H a=some (.frz o u)
theorem Rd.of{H:Hp}{a:Addr}{u:HO}(h:H a=some u):Rd H a u:= .inl h
theorem Rd.ok{P:Program}{w:World}{H:Hp}{h:Heap}{a:Addr}{u:HO}(r:Rd H a u)(x:HOk P w H h):ObjOk P w H h a u:=by
 rcases r with r | ⟨o,r⟩
 . exact x a u r
 . obtain ⟨_,q⟩:=x a _ r;exact q
def Mut:Option HO->Prop
 | some (.lst _)=>True
 | some (.dK _)=>True
 | some (.dT _)=>True
 | some (.set _ _)=>True
 | some (.ins _ _ _)=>True
 | some (.ext _)=>True
 | _=>False
section
variable {P:Program} {w:World} {H:Hp} {h h':Heap} {x e:Addr} {o':HO}
theorem HOk.write (ok : HOk P w H h) (mu : Mut (H x)) (he : e = x \/ H e = some (.own x)) (k : ∀ b u, b ≠ e -> h.get? b = some u -> h'.get? b = some u) (heo : ∃ u, h'.get? e = some u)
 (new:ObjOk P w (upd H x o') h' x o'):HOk P w (upd H x o') h':=fun b u q=>by
 have nown:∀c y,H c=some (.own y)->c≠x:=fun c y r z=>by subst z;rw [r] at mu;exact mu
 have ntup:∀c xs,H c=some (.tup xs)->c≠x:=fun c xs r z=>by subst z;rw [r] at mu;exact mu
 by_cases hb:b=x
 . subst hb;rw [upd_same] at q;cases q;exact new
 . rw [upd_ne hb] at q
   by_cases hbe:b=e
   . have q' : H b = some (.own x) := by
      rcases he with z | z
      . exact absurd (hbe.trans z) hb
      . rw [hbe];exact z
     rw [q] at q';cases q'
     obtain ⟨v,hv⟩:=heo;exact ⟨v,by rw [hbe];exact hv⟩
   . refine (ok b u q).stay (fun c v hc r=>k c v ?_ r) (fun c r=>by rw [upd_ne (nown c b r)];exact r) fun c xs r=>by rw [upd_ne (ntup c xs r)];exact r
     rcases hc with rfl | hc
     . exact hbe
     . rintro rfl;rcases he with z | z
       . exact nown c b hc z
       . rw [hc] at z;cases z;exact hb rfl
end
structure Un (fs ex:List Addr) (H H':Hp) (h h':Heap):Prop where
 keep:∀b o,h.get? b=some o->H b=none->b ∉ fs->b ∉ ex->h'.get? b=some o
 slot:∀b o,h.get? b=some o->H b=none->b ∈ fs->b ∉ ex->∃sl,h'.get? b=some { o with slots:=sl }
 free:∀b o,h.get? b=some o->H b=none->b ∉ ex->H' b=none
 there:∀b o,h.get? b=some o->b ∉ ex->∃o',h'.get? b=some o'
 tups:∀b xs,H b=some (.tup xs)->H' b=some (.tup xs)
 frzs:∀b o u,H b=some (.frz o u)->H' b=some (.frz o u)
 tbls:∀b ps,H b=some (.tbl ps)->∃more,H' b=some (.tbl (ps++more))
section
variable {fs fs' ex ex':List Addr} {H H1 H2:Hp} {h h1 h2 h':Heap} {a x e:Addr} {o:HO}
theorem Un.any(u:Un fs ex H H1 h h1){b:Addr}{ob:Obj}(q:h.get? b=some ob)(n:H b=none)(hx:b ∉ ex):∃sl,h1.get? b=some { ob with slots:=sl }:=by
 by_cases hb:b ∈ fs
 . exact u.slot b ob q n hb hx
 . exact ⟨ob.slots,u.keep b ob q n hb hx⟩
theorem Un.trans(a:Un fs ex H H1 h h1)(b:Un fs ex H1 H2 h1 h2):Un fs ex H H2 h h2 where
 keep:=fun c ob q n hc hx=>b.keep c ob (a.keep c ob q n hc hx) (a.free c ob q n hx) hc hx
 slot:=fun c ob q n hc hx=>by
  obtain ⟨sl,e1⟩:=a.slot c ob q n hc hx;obtain ⟨sl',e2⟩:=b.slot c _ e1 (a.free c ob q n hx) hc hx;exact ⟨sl',e2⟩
 free:=fun c ob q n hx=>by
  obtain ⟨o',e1⟩:=a.there c ob q hx;exact b.free c o' e1 (a.free c ob q n hx) hx
 there:=fun c ob q hx=>by
  obtain ⟨o',e1⟩:=a.there c ob q hx;exact b.there c o' e1 hx
 tups:=fun c xs q=>b.tups c xs (a.tups c xs q)
 frzs:=fun c ob xs q=>b.frzs c ob xs (a.frzs c ob xs q)
 tbls:=fun c ps q=>by
  obtain ⟨m1,e1⟩:=a.tbls c ps q;obtain ⟨m2,e2⟩:=b.tbls c _ e1;exact ⟨m1++m2,by rw [e2,Array.append_assoc]⟩
theorem Un.kept(k:∀b u,h.get? b=some u->h'.get? b=some u):Un fs ex H H h h' :=
 ⟨fun b ob q _ _ _=>k b ob q,fun b ob q _ _ _=>⟨ob.slots,k b ob q⟩,fun _ _ _ n _=>n,fun b ob q _=>⟨ob,k b ob q⟩,fun _ _ q=>q,fun _ _ _ q=>q,fun _ ps q=>⟨#[],by rw [q];simp⟩⟩
theorem Un.refl:Un fs ex H H h h:=Un.kept fun _ _ q=>q
theorem Un.laid(k:∀b u,h.get? b=some u->h'.get? b=some u)(hp:h.objs.size<=a)(hn:H a=none):Un fs ex H (upd H a o) h h' where
 keep:=fun b u q _ _ _=>k b u q
 slot:=fun b u q _ _ _=>⟨u.slots,k b u q⟩
 free:=fun b u q n _=>by rw [upd_ne (Nat.ne_of_lt (Nat.lt_of_lt_of_le (Heap.lt_size q) hp))];exact n
 there:=fun b u q _=>⟨u,k b u q⟩
 tups:=fun b xs q=>by rw [upd_ne (ne_of_none q hn)];exact q
 frzs:=fun b u xs q=>by rw [upd_ne (ne_of_none q hn)];exact q
 tbls:=fun b ps q=>⟨#[],by rw [upd_ne (ne_of_none q hn),q];simp⟩
theorem Un.write(mu:Mut (H x))(he:e=x\/H e=some (.own x))(k:∀b u,b≠e->h.get? b=some u->h'.get? b=some u)(heo:∃u,h'.get? e=some u):Un fs ex H (upd H x o) h h':=by
 have hx:∀b,H b=none->b≠x:=fun b n z=>by subst z;rw [n] at mu;exact mu
 have hb:∀b,H b=none->b≠e:=fun b n z=>by
  subst z;rcases he with r | r
  . exact hx b n r
  . rw [n] at r;cases r
 have hm:∀b u,H b=some u->¬Mut (some u)->b≠x:=fun b u q nm z=>by subst z;rw [q] at mu;exact nm mu
 refine ⟨fun b u q n _ _=>k b u (hb b n) q,fun b u q n _ _=>⟨u.slots,k b u (hb b n) q⟩,fun b u q n _=>by rw [upd_ne (hx b n)];exact n,fun b u q _=> ?_,
  fun b xs q=>by rw [upd_ne (hm b _ q fun z=>z)];exact q,fun b u xs q=>by rw [upd_ne (hm b _ q fun z=>z)];exact q,fun b ps q=>⟨#[],by rw [upd_ne (hm b _ q fun z=>z),q];simp⟩⟩
 by_cases hbe:b=e
 . subst hbe;exact heo
 . exact ⟨u,k b u hbe q⟩
theorem Un.mono(u:Un fs ex H H1 h h1)(hs:∀b ∈ fs,b ∈ fs')(hx:∀b ∈ ex,b ∈ ex'):Un fs' ex' H H1 h h1:=
 ⟨fun b ob q n hb he=>u.keep b ob q n (fun z=>hb (hs b z)) fun z=>he (hx b z),fun _ _ q n _ he=>u.any q n fun z=>he (hx _ z),fun b ob q n he=>u.free b ob q n fun z=>he (hx b z),fun b ob q he=>u.there b ob q fun z=>he (hx b z),u.tups,u.frzs,u.tbls⟩
end
def trk(h:Heap)(H:Hp):List Addr:=(List.range h.objs.size).filter fun a=>(H a).isSome
def hidT(h:Heap)(H:Hp):Heap:=W.hideAll h (trk h H)
theorem hidT_size(h:Heap)(H:Hp):(hidT h H).objs.size=h.objs.size:=W.hideAll_size _ _
theorem hidT_get{h:Heap}{H:Hp}{b:Addr}{o:Obj}(e:h.get? b=some o)(n:H b=none):(hidT h H).get? b=some o:=
 W.hideAll_get _ e fun hm=>by
  have q:(H b).isSome=true:=(List.mem_filter.mp hm).2;rw [n] at q;simp at q
theorem of_hidT{h:Heap}{H:Hp}{b:Addr}{o:Obj}(e:(hidT h H).get? b=some o):h.get? b=some o/\H b=none:=by
 have e':h.get? b=some o:=W.of_hideAll (trk h H) e;refine ⟨e',?_⟩
 cases q:H b with
 | none=>rfl
 | some x=>
  have hm:b ∈ trk h H:=List.mem_filter.mpr ⟨List.mem_range.mpr (Heap.lt_size e'),by simp [q]⟩;have z:(hidT h H).get? b=none:=W.hideAll_none (trk h H) hm;rw [z] at e;cases e
def allNews(g h:Heap)(L:Addr):List (Addr×Obj):=(List.range h.objs.size).filterMap fun a=>if a=L\/(g.get? a).isSome=true then none else (h.get? a).map fun o=>(a,o)
def rest(g h:Heap)(L d:Addr):List (Addr×Obj):=(allNews g h L).filter fun p=>decide (p.1≠d)
end L2
namespace L2
open PySem PySem.Spec PyProof.Rows
structure Mod (K:W.Frag) (mg:Str->Option Value) (base:Heap):Prop where
 kin:K.In base
 glob:base.Ns mainGlobals mg
 blt:∃mb,base.Ns builtinsNs mb/\∀x:Str,x ≠ "__name__" -> mb x=bootBuiltins x
 nolimit:base.NoLimit
structure Cx where
 prog:Program
 w:World
 K:W.Frag
 mg:Str->Option Value
 base:Heap
 A:Around
 N:List Str
 s₀:Shared
 H₀:Hp
 env:Env
 outer:List Env
 stack:List Env
 ex:List Addr
 fn:Str->Bool
 calm:Bool
 pn:List (Addr×Obj)
 xe:Value->Shared->Prop
def frs(l:List Env):List Addr:=l.filterMap (·.frame)
abbrev Cx.fs (X:Cx):List Addr:=frs X.outer
def Vis(sc:Scope)(x:Str):Prop:=sc.names.lookup x=some .local\/sc.names.lookup x=some .cell\/sc.names.lookup x=some .free
def Loc(sc:Scope)(x:Str):Prop:=sc.names.lookup x=some .local\/sc.names.lookup x=some .cell
def Look(env:Env)(h:Heap)(m:Str->Option Value)(x:Str)(u:Value):Prop:=
 (env.kindOf x=some .local/\m x=some u)\/((env.kindOf x=some .cell\/env.kindOf x=some .free)/\∃c,env.cells.lookup x=some c/\h.IsCell c (some u))
structure Cx.Ok (X:Cx):Prop where
 mod:Mod X.K X.mg X.base
 kind:X.env.scope.kind = .function
 glob:X.env.globals=mainGlobals
 blt:X.env.builtins=builtinsNs
 above:X.s₀.heap.objs.size<=X.env.locals
 inj:∀x y c,X.env.cells.lookup x=some c->X.env.cells.lookup y=some c->x=y
 has:∀x,(X.env.kindOf x=some .cell\/X.env.kindOf x=some .free)->∃c,X.env.cells.lookup x=some c
 cab:∀x c,X.fn x=true->X.env.cells.lookup x=some c->X.s₀.heap.objs.size<=c
 hd:X.calm=true->X.A.handled=none
 frames:X.A.frames=some X.stack
 stk:X.stack=X.outer\/(X.stack=X.env::X.outer/\X.env.frame=some X.env.locals)
 exf:∀b ∈ X.ex,b≠X.env.locals/\∀x c,X.env.cells.lookup x=some c->c≠b
 bs:∀b o,X.base.get? b=some o->X.s₀.heap.get? b=some o/\X.H₀ b=none
 bsz:X.base.objs.size<=X.s₀.heap.objs.size
 noex:∀b o,X.base.get? b=some o->b ∉ X.ex
 exfs:∀b ∈ X.ex,b ∉ X.fs
 funs:X.s₀.heap.FunFrames X.base X.outer
 frf:∀b ∈ X.fs,X.H₀ b=none
structure Inv (X:Cx) (pins:List (Addr×Obj)) (σ:List (Option V)) (H:Hp) (s:Shared):Prop where
 ok:X.Ok
 os:s.os=X.s₀.os
 bare:AllBare s.gens
 base:Un X.fs X.ex X.H₀ H X.s₀.heap s.heap
 loc:∃m,s.heap.Ns X.env.locals m/\∀(i:Nat) (x:Str) (v:V),X.N[i]? = some x->σ[i]? = some (some v)->Vis X.env.scope x->∃u,RelV v u/\Look X.env s.heap m x u
 cell:∀x c,X.env.cells.lookup x=some c->∃v,s.heap.IsCell c v
 free:H X.env.locals=none
 freeC:∀x c,X.env.cells.lookup x=some c->H c=none
 pin:∀p ∈ X.pn++pins,s.heap.get? p.1=some p.2/\H p.1=none/\p.1≠X.env.locals/\p.1 ∉ X.fs/\∀v,p.2.data ≠ .cell v
 hok:HOk X.prog X.w H s.heap
 len:σ.length=X.N.length
section
variable {X:Cx} {pins:List (Addr×Obj)} {σ:List (Option V)} {H H':Hp} {s:Shared} {h':Heap}
theorem Cx.Ok.nofr(ok:X.Ok){b:Addr}{o:Obj}(e:X.base.get? b=some o):b ∉ X.fs:=fun hb=>by
 have:=(ok.funs.mem hb).1;rw [e] at this;cases this
theorem Inv.bs(I:Inv X pins σ H s):∀b o,X.base.get? b=some o->s.heap.get? b=some o/\H b=none:=fun b o e=>
 ⟨I.base.keep b o (I.ok.bs b o e).1 (I.ok.bs b o e).2 (I.ok.nofr e) (I.ok.noex b o e),I.base.free b o (I.ok.bs b o e).1 (I.ok.bs b o e).2 (I.ok.noex b o e)⟩
theorem Inv.bk(I:Inv X pins σ H s):∀b o,X.base.get? b=some o->s.heap.get? b=some o:=fun b o e=>(I.bs b o e).1
theorem Inv.mod(I:Inv X pins σ H s):Mod X.K X.mg X.base:=I.ok.mod
theorem Inv.kIn(I:Inv X pins σ H s):X.K.In s.heap:=I.ok.mod.kin.keeps I.bk
theorem Inv.nolimit(I:Inv X pins σ H s):s.heap.NoLimit:=I.ok.mod.nolimit.keeps I.bk
theorem Inv.fr(I:Inv X pins σ H s):∃m,Fr X.base X.env.locals s.heap m:=
 let ⟨m,hn,_⟩:=I.loc
 ⟨m,hn,I.bk,Nat.le_trans I.ok.bsz I.ok.above⟩
theorem Inv.lt(I:Inv X pins σ H s):X.env.locals<s.heap.objs.size:=let ⟨_,hn,_⟩:=I.loc;hn.lt
theorem Inv.sz(I:Inv X pins σ H s):X.s₀.heap.objs.size<=s.heap.objs.size:=Nat.le_trans I.ok.above (Nat.le_of_lt I.lt)
theorem Inv.nofs(I:Inv X pins σ H s){a:Addr}(h:s.heap.objs.size<=a):a ∉ X.fs:=fun hb=>by
 obtain ⟨_,o,ho,_⟩:=I.ok.funs.mem hb;exact absurd (Nat.lt_of_lt_of_le (Heap.lt_size ho) (Nat.le_trans I.sz h)) (Nat.lt_irrefl _)
theorem Inv.cne(I:Inv X pins σ H s):∀x c,X.env.cells.lookup x=some c->c≠X.env.locals:=fun x c e z=>by
 obtain ⟨v,o,ho,hd⟩:=I.cell x c e;obtain ⟨m,⟨o',es,ep,ho',hd',_⟩,_⟩:=I.loc;rw [z,ho'] at ho;cases ho;rw [hd'] at hd;cases hd
theorem Inv.funs(I:Inv X pins σ H s):s.heap.FunFrames X.base X.outer:=by
 have all:∀(l:List Env),(∀b ∈ frs l,b ∈ X.fs)->X.s₀.heap.FunFrames X.base l->s.heap.FunFrames X.base l:=by
  intro l
  induction l with
  | nil=>intro _ _;trivial
  | cons env r ih=>
   intro hs hl;obtain ⟨hk,⟨L,o,hf,hn,ho,hd⟩,hr⟩:=hl;have hL:L ∈ X.fs:=hs L (by unfold frs;rw [List.filterMap_cons,hf];exact List.mem_cons_self);obtain ⟨sl,e⟩:=I.base.slot L o ho (I.ok.frf L hL) hL fun z=>I.ok.exfs L z hL;exact ⟨hk,⟨L,_,hf,hn,e,hd⟩,ih (fun b hb=>hs b (by unfold frs;rw [List.filterMap_cons,hf];exact List.mem_cons_of_mem _ hb)) hr⟩
 exact all X.outer (fun _ hb=>hb) I.ok.funs
theorem Inv.stack(I:Inv X pins σ H s):s.heap.FunFrames X.base X.stack:=by
 rcases I.ok.stk with e | ⟨e,hf⟩
 . rw [e];exact I.funs
 . rw [e];obtain ⟨m,hn,_⟩:=I.loc;refine .cons (by rw [I.ok.kind];decide) hf hn ?_ I.funs;exact Heap.get?_none_of_le (Nat.le_trans I.ok.bsz I.ok.above)
theorem Inv.stkSub(I:Inv X pins σ H s):∀b ∈ frs X.stack,b ∈ X.env.locals::X.fs:=fun b hb=>by
 rcases I.ok.stk with e | ⟨e,hf⟩
 . rw [e] at hb;exact List.mem_cons_of_mem _ hb
 . rw [e] at hb
   unfold frs at hb
   rw [List.filterMap_cons,hf] at hb
   exact hb
theorem Inv.stkFree(I:Inv X pins σ H s):∀b ∈ frs X.stack,H b=none:=fun b hb=>by
 rcases List.mem_cons.mp (I.stkSub b hb) with e | hb
 . rw [e];exact I.free
 . obtain ⟨_,o,ho,_⟩:=I.ok.funs.mem hb;exact I.base.free b o ho (I.ok.frf b hb) fun z=>I.ok.exfs b z hb
theorem Inv.step {g' : Array GenState} {t' : Nat} {d' : Drawn} {ch : List Addr} (I : Inv X pins σ H s)
 (hch:∀b ∈ ch,(b ∈ X.ex\/X.s₀.heap.objs.size<=b)/\b≠X.env.locals/\(∀x c,X.env.cells.lookup x=some c->c≠b)/\∀p ∈ X.pn++pins,p.1≠b)
 (keep:∀b o,b≠X.env.locals->b ∉ X.fs->b ∉ ch->s.heap.get? b=some o->H b=none->h'.get? b=some o)
 (slot:∀b o,b≠X.env.locals->b ∈ X.fs->b ∉ ch->s.heap.get? b=some o->H b=none->∃sl,h'.get? b=some { o with slots:=sl }) (free:∀b o,b ∉ ch->s.heap.get? b=some o->H b=none->H' b=none)
 (there:∀b o,b ∉ ch->s.heap.get? b=some o->∃o',h'.get? b=some o')
 (tups:∀b xs,H b=some (.tup xs)->H' b=some (.tup xs)) (frzs:∀b o u,H b=some (.frz o u)->H' b=some (.frz o u)) (tbls:∀b ps,H b=some (.tbl ps)->∃more,H' b=some (.tbl (ps++more)))
 (ns:∀m,s.heap.Ns X.env.locals m->h'.Ns X.env.locals m) (hok:HOk X.prog X.w H' h') (hg:AllBare g') :
 Inv X pins σ H' { s with heap:=h',gens:=g',drawn:=d',toks:=t' }:=by
 have neL:∀b o,X.s₀.heap.get? b=some o->b≠X.env.locals:=fun b o e=>Nat.ne_of_lt (Nat.lt_of_lt_of_le (Heap.lt_size e) I.ok.above)
 have neC:∀b o,X.s₀.heap.get? b=some o->b ∉ X.ex->b ∉ ch:=fun b o e hx hb=>by
  rcases (hch b hb).1 with z | z
  . exact hx z
  . exact absurd (Nat.lt_of_lt_of_le (Heap.lt_size e) z) (Nat.lt_irrefl _)
 have cellK:∀x c,X.env.cells.lookup x=some c->∀v,s.heap.IsCell c v->h'.IsCell c v:=fun x c e v ⟨o,ho,hd⟩=>by
  have nch:c ∉ ch:=fun z=>(hch c z).2.2.1 x c e rfl
  by_cases hc:c ∈ X.fs
  . obtain ⟨sl,q⟩:=slot c o (I.cne x c e) hc nch ho (I.freeC x c e);exact ⟨_,q,hd⟩
  . exact ⟨o,keep c o (I.cne x c e) hc nch ho (I.freeC x c e),hd⟩
 refine ⟨I.ok,I.os,hg,⟨fun b o e n hb hx=> ?_,fun b o e n hb hx=> ?_,fun b o e n hx=> ?_,fun b o e hx=> ?_,fun b xs e=>tups b xs (I.base.tups b xs e),fun b o xs e=>frzs b o xs (I.base.frzs b o xs e),fun b ps e=> ?_⟩,?_,fun x c e=> ?_,?_,fun x c e=> ?_,fun p hp=> ?_,hok,I.len⟩
 . exact keep b o (neL b o e) hb (neC b o e hx) (I.base.keep b o e n hb hx) (I.base.free b o e n hx)
 . obtain ⟨sl,e1⟩:=I.base.slot b o e n hb hx;obtain ⟨sl',e2⟩:=slot b _ (neL b o e) hb (neC b o e hx) e1 (I.base.free b o e n hx);exact ⟨sl',e2⟩
 . obtain ⟨o',e1⟩:=I.base.there b o e hx;exact free b o' (neC b o e hx) e1 (I.base.free b o e n hx)
 . obtain ⟨o',e1⟩:=I.base.there b o e hx;exact there b o' (neC b o e hx) e1
 . obtain ⟨m1,e1⟩:=I.base.tbls b ps e;obtain ⟨m2,e2⟩:=tbls b _ e1;exact ⟨m1++m2,by rw [e2,Array.append_assoc]⟩
 . obtain ⟨m,hn,hl⟩:=I.loc;refine ⟨m,ns m hn,fun i x v e1 e2 e3=> ?_⟩;obtain ⟨u,r,l⟩:=hl i x v e1 e2 e3;refine ⟨u,r,?_⟩;rcases l with l | ⟨k,c,e,z⟩
   . exact .inl l
   . exact .inr ⟨k,c,e,cellK x c e _ z⟩
 . obtain ⟨v,z⟩:=I.cell x c e;exact ⟨v,cellK x c e v z⟩
 . obtain ⟨m,⟨o,_,_,ho,_⟩,_⟩:=I.loc;exact free _ o (fun z=>(hch _ z).2.1 rfl) ho I.free
 . obtain ⟨v,o,ho,hd⟩:=I.cell x c e;exact free c o (fun z=>(hch c z).2.2.1 x c e rfl) ho (I.freeC x c e)
 . obtain ⟨e,n,ne,nf,d⟩:=I.pin p hp;have nch:p.1 ∉ ch:=fun z=>(hch p.1 z).2.2.2 p hp rfl;exact ⟨keep p.1 p.2 ne nf nch e n,free p.1 p.2 nch e n,ne,nf,d⟩
theorem Inv.un{t':Nat}(I:Inv X pins σ H s)(u:Un X.fs [] H H' s.heap h')(hok:HOk X.prog X.w H' h'):Inv X pins σ H' { s with heap:=h',toks:=t' }:=by
 obtain ⟨m,⟨o,es,ep,ho,r⟩,_⟩:=id I.loc;obtain ⟨sl,hL⟩:=u.any ho I.free (by simp)
 exact I.step (g':=s.gens) (d':=s.drawn) (ch:= []) (fun _ z=>nomatch z) (fun b o _ hb _ e n=>u.keep b o e n hb (by simp)) (fun b o _ hb _ e n=>u.slot b o e n hb (by simp)) (fun b o _ e n=>u.free b o e n (by simp)) (fun b o _ e=>u.there b o e (by simp)) u.tups u.frzs u.tbls (fun m' hm=>by
  obtain ⟨o',es',ep',ho',r'⟩:=hm;rw [ho] at ho';cases ho'
  exact ⟨_,es',ep',hL,r'⟩) hok I.bare
theorem Inv.call {g' : Array GenState} {t' : Nat} {d' : Drawn} {ch : List Addr} (I : Inv X pins σ H s) (u : Un (frs X.stack) ch H H' s.heap h') (hok : HOk X.prog X.w H' h') (hg : AllBare g')
 (hch:∀b ∈ ch,(b ∈ X.ex\/X.s₀.heap.objs.size<=b)/\b≠X.env.locals/\(∀x c,X.env.cells.lookup x=some c->c≠b)/\∀p ∈ X.pn++pins,p.1≠b) :
 Inv X pins σ H' { s with heap:=h',gens:=g',drawn:=d',toks:=t' }:=by
 obtain ⟨m,⟨o,es,ep,ho,r⟩,_⟩:=id I.loc;obtain ⟨sl,hL⟩:=u.any ho I.free fun z=>(hch _ z).2.1 rfl
 exact I.step (ch:=ch) hch (fun b o hL hb hc e n=>u.keep b o e n (fun z=>(List.mem_cons.mp (I.stkSub b z)).elim hL hb) hc) (fun b o _ _ hc e n=>u.any e n hc) (fun b o hc e n=>u.free b o e n hc) (fun b o hc e=>u.there b o e hc) u.tups u.frzs u.tbls (fun m' hm=>by
  obtain ⟨o',es',ep',ho',r'⟩:=hm;rw [ho] at ho';cases ho'
  exact ⟨_,es',ep',hL,r'⟩) hok hg
theorem Inv.turned {t' : Nat} {it : Addr} (I : Inv X pins σ H s) (k : ∀ b o, b ≠ it -> s.heap.get? b = some o -> h'.get? b = some o) (hn : H it = none) (hL : it ≠ X.env.locals)
 (h1:it ∈ X.ex\/X.s₀.heap.objs.size<=it) (h2:∀x c,X.env.cells.lookup x=some c->c≠it) (h3:∀p ∈ X.pn++pins,p.1≠it):Inv X pins σ H { s with heap:=h',toks:=t' }:=by
 have nit:∀b u,H b=some u->b≠it:=fun b u e z=>by rw [z,hn] at e;cases e
 refine I.step (g':=s.gens) (d':=s.drawn) (ch:= [it]) (fun b hb=> ?_) (fun b o _ _ hc e _=>k b o (fun z=>hc (by simp [z])) e) (fun b o _ _ hc e _=>⟨o.slots,k b o (fun z=>hc (by simp [z])) e⟩) (fun _ _ _ _ n=>n)
  (fun b o hc e=>⟨o,k b o (fun z=>hc (by simp [z])) e⟩) (fun _ _ e=>e) (fun _ _ _ e=>e) (fun b ps e=>⟨#[],by rw [e];simp⟩) (fun m hm=> ?_) (fun b u e=> ?_) I.bare
 . have e:b=it:=by simpa using hb
   subst e;exact ⟨h1,hL,h2,h3⟩
 . obtain ⟨o,es,ep,ho,r⟩:=hm;exact ⟨o,es,ep,k _ o (Ne.symm hL) ho,r⟩
 . refine (I.hok b u e).stay (fun c v hc q=>k c v ?_ q) (fun _ q=>q) fun _ _ q=>q;rcases hc with z | z
   . rw [z];exact nit b u e
   . exact nit c _ z
theorem Inv.tok(I:Inv X pins σ H s)(t:Nat):Inv X pins σ H { s with toks:=t }:=I.un (h':=s.heap) (t':=t) Un.refl I.hok
theorem Inv.kept{t':Nat}(I:Inv X pins σ H s)(k:∀b u,s.heap.get? b=some u->h'.get? b=some u):Inv X pins σ H { s with heap:=h',toks:=t' }:=I.un (Un.kept k) (I.hok.kept k)
theorem Inv.laid {a : Addr} {o : HO} {t' : Nat} (I : Inv X pins σ H s) (k : ∀ b u, s.heap.get? b = some u -> h'.get? b = some u) (hp : s.heap.objs.size <= a) (new : ObjOk X.prog X.w (upd H a o) h' a o) :
 Inv X pins σ (upd H a o) { s with heap:=h',toks:=t' }:=I.un (Un.laid k hp (I.hok.fresh hp)) (I.hok.laid k hp new)
theorem Inv.write {x e : Addr} {o : HO} {t' : Nat} (I : Inv X pins σ H s) (mu : Mut (H x)) (he : e = x \/ H e = some (.own x)) (k : ∀ b u, b ≠ e -> s.heap.get? b = some u -> h'.get? b = some u) (heo : ∃ u, h'.get? e = some u)
 (new:ObjOk X.prog X.w (upd H x o) h' x o):Inv X pins σ (upd H x o) { s with heap:=h',toks:=t' }:=I.un (Un.write mu he k heo) (I.hok.write mu he k heo new)
theorem Inv.weak{σ':List (Option V)}(I:Inv X pins σ H s)(hl:σ'.length=σ.length)(w:∀(i:Nat) v,σ'[i]? = some (some v)->σ[i]? = some (some v)):Inv X pins σ' H s:=
 ⟨I.ok,I.os,I.bare,I.base,let ⟨m,hn,hl'⟩:=I.loc;⟨m,hn,fun i x v e1 e2 e3=>hl' i x v e1 (w i v e2) e3⟩,I.cell,I.free,I.freeC,I.pin,I.hok,hl.trans I.len⟩
theorem Inv.pins_of{pins':List (Addr×Obj)}(I:Inv X pins σ H s)(h:∀p ∈ pins',s.heap.get? p.1=some p.2/\H p.1=none/\p.1≠X.env.locals/\p.1 ∉ X.fs/\∀v,p.2.data ≠ .cell v):Inv X pins' σ H s:=
 ⟨I.ok,I.os,I.bare,I.base,I.loc,I.cell,I.free,I.freeC,fun p hp=>(List.mem_append.mp hp).elim (fun z=>I.pin p (List.mem_append_left _ z)) (h p),I.hok,I.len⟩
theorem nodup_ix{N:List Str}(hN:N.Nodup){i j:Nat}{x:Str}(a:N[i]? = some x)(b:N[j]? = some x):i=j:=by
 obtain ⟨h1,e1⟩:=List.getElem?_eq_some_iff.mp a;obtain ⟨h2,e2⟩:=List.getElem?_eq_some_iff.mp b;exact (List.getElem_inj hN).mp (e1.trans e2.symm)
theorem store_ok2 {M : Model} {A : Around} {E : Value -> Shared -> Prop} {i : Nat} {x : Str} {v : V} {u : Value} {Q : Unit -> Shared -> Prop} (I : Inv X pins σ H s) (hN : X.N.Nodup) (hi : X.N[i]? = some x) (hx : Loc X.env.scope x) (r : RelV v u)
 (h:∀s',Inv X pins (σ.set i (some v)) H s'->(∃a,Heap.SameBut a s.heap s'.heap/\(a=X.env.locals\/X.env.cells.lookup x=some a))->Q () s') (hf:X.fn x=true\/X.env.scope.names.lookup x=some .local:=by first | exact .inl rfl | exact .inr rfl | assumption):wpAny M A (storeName X.env x u) Q E s:=by
 obtain ⟨m,hn,hl⟩:=id I.loc;have hcls:(X.env.scope.kind == .class || (X.env.scope.kind == .module && X.env.locals != X.env.globals))=false:=by rw [I.ok.kind];rfl
 have hiσ:i<σ.length:=by rw [I.len];exact (List.getElem?_eq_some_iff.mp hi).1
 have cne:=I.cne
 have tracked:∀ {a:Addr} {h':Heap},(∃o,s.heap.get? a=some o/\H a=none)->Heap.SameBut a s.heap h'->HOk X.prog X.w H h':=fun {a h'} ha hs b ob e=>by
  obtain ⟨_,_,hfree⟩:=ha;refine (I.hok b ob e).stay (fun c w' hc q=>(hs.2 c ?_).trans q) (fun _ q=>q) fun _ _ q=>q;rintro rfl;rcases hc with rfl | hc
  . rw [hfree] at e;cases e
  . rw [hfree] at hc;cases hc
 rcases hx with hk | hk
 . refine wpAny_storeName_local hk hn (fun h' hn' hs=> ?_) hcls;obtain ⟨oL,_,_,hoL,_⟩:=id hn;refine h _ ⟨I.ok,I.os,I.bare,⟨fun b o e n hb hx=> ?_,fun b o e n hb hx=> ?_,I.base.free,fun b o e hx=> ?_,I.base.tups,I.base.frzs,I.base.tbls⟩,⟨_,hn',fun j y v' e1 e2 e3=> ?_⟩,fun y c e=> ?_,I.free,I.freeC,fun p hp=> ?_,tracked ⟨oL,hoL,I.free⟩ hs,by simpa using I.len⟩ ⟨_,hs, .inl rfl⟩
   . exact (hs.2 b (Nat.ne_of_lt (Nat.lt_of_lt_of_le (Heap.lt_size e) I.ok.above))).trans (I.base.keep b o e n hb hx)
   . obtain ⟨sl,e1⟩:=I.base.slot b o e n hb hx;exact ⟨sl,(hs.2 b (Nat.ne_of_lt (Nat.lt_of_lt_of_le (Heap.lt_size e) I.ok.above))).trans e1⟩
   . obtain ⟨o',e1⟩:=I.base.there b o e hx;exact ⟨o',(hs.2 b (Nat.ne_of_lt (Nat.lt_of_lt_of_le (Heap.lt_size e) I.ok.above))).trans e1⟩
   . by_cases hj:j=i
     . subst hj;rw [hi] at e1;cases e1
       rw [List.getElem?_set_self hiσ] at e2
       cases e2
       exact ⟨u,r, .inl ⟨hk,by simp⟩⟩
     . rw [List.getElem?_set_ne (Ne.symm hj)] at e2
       obtain ⟨u',r',q⟩:=hl j y v' e1 e2 e3;refine ⟨u',r',?_⟩;rcases q with ⟨k,e⟩ | ⟨k,c,e,z⟩
       . refine .inl ⟨k,?_⟩;have:y≠x:=fun e=>hj (nodup_ix hN e1 (e ▸ hi));simp [this,e]
       . exact .inr ⟨k,c,e,z.sameBut hs (cne y c e)⟩
   . obtain ⟨w',z⟩:=I.cell y c e;exact ⟨w',z.sameBut hs (cne y c e)⟩
   . obtain ⟨e,n,ne,nf,d⟩:=I.pin p hp;exact ⟨(hs.2 p.1 ne).trans e,n,ne,nf,d⟩
 . have hfn : X.fn x = true := by
    rcases hf with z | z
    . exact z
    . rw [z] at hk;cases hk
   obtain ⟨c,hc⟩:=I.ok.has x (.inl hk);obtain ⟨w',z⟩:=I.cell x c hc;refine wpAny_storeName_cell I.ok.kind hk hc z (fun h' hc' hs=> ?_);obtain ⟨oc,hoc,hocd⟩:=id z;refine h { s with heap:=h' } ⟨I.ok,I.os,I.bare,⟨fun b o e n hb hx=> ?_,fun b o e n hb hx=> ?_,I.base.free,fun b o e hx=> ?_,I.base.tups,I.base.frzs,I.base.tbls⟩,⟨m,hn.sameBut hs (Ne.symm (cne x c hc)),fun j y v' e1 e2 e3=> ?_⟩,fun y c' e=> ?_,I.free,I.freeC,fun p hp=> ?_,tracked ⟨oc,hoc,I.freeC x c hc⟩ hs,by simpa using I.len⟩ ⟨c,hs, .inr hc⟩
   . exact (hs.2 b (Nat.ne_of_lt (Nat.lt_of_lt_of_le (Heap.lt_size e) (I.ok.cab x c hfn hc)))).trans (I.base.keep b o e n hb hx)
   . obtain ⟨sl,e1⟩:=I.base.slot b o e n hb hx;exact ⟨sl,(hs.2 b (Nat.ne_of_lt (Nat.lt_of_lt_of_le (Heap.lt_size e) (I.ok.cab x c hfn hc)))).trans e1⟩
   . obtain ⟨o',e1⟩:=I.base.there b o e hx;exact ⟨o',(hs.2 b (Nat.ne_of_lt (Nat.lt_of_lt_of_le (Heap.lt_size e) (I.ok.cab x c hfn hc)))).trans e1⟩
   . by_cases hj:j=i
     . subst hj;rw [hi] at e1;cases e1
       rw [List.getElem?_set_self hiσ] at e2
       cases e2
       exact ⟨u,r, .inr ⟨.inl hk,c,hc,hc'⟩⟩
     . rw [List.getElem?_set_ne (Ne.symm hj)] at e2
       obtain ⟨u',r',q⟩:=hl j y v' e1 e2 e3;refine ⟨u',r',?_⟩;rcases q with q | ⟨k,c',e,z'⟩
       . exact .inl q
       . refine .inr ⟨k,c',e,z'.sameBut hs ?_⟩;rintro rfl;exact hj (nodup_ix hN e1 (I.ok.inj _ _ _ e hc ▸ hi))
   . by_cases hcc:c'=c
     . subst hcc;exact ⟨_,hc'⟩
     . obtain ⟨w2,z2⟩:=I.cell y c' e;exact ⟨w2,z2.sameBut hs hcc⟩
   . obtain ⟨e,n,ne,nf,d⟩:=I.pin p hp;refine ⟨(hs.2 p.1 ?_).trans e,n,ne,nf,d⟩;intro q;rw [q,hoc] at e
     have q':oc=p.2:=Option.some.inj e;exact d w' (by rw [<-q'];exact hocd)
theorem store_ok {M : Model} {A : Around} {E : Value -> Shared -> Prop} {i : Nat} {x : Str} {v : V} {u : Value} {Q : Unit -> Shared -> Prop} (I : Inv X pins σ H s) (hN : X.N.Nodup) (hi : X.N[i]? = some x) (hx : Loc X.env.scope x) (r : RelV v u)
 (h:∀s',Inv X pins (σ.set i (some v)) H s'->Q () s') (hf:X.fn x=true\/X.env.scope.names.lookup x=some .local:=by first | exact .inl rfl | exact .inr rfl | assumption):wpAny M A (storeName X.env x u) Q E s:=
 store_ok2 I hN hi hx r (fun s' I' _=>h s' I') hf
theorem Inv.call' {s' : Shared} {ch : List Addr} (I : Inv X pins σ H s) (ho : s'.os = s.os) (u : Un (frs X.stack) ch H H' s.heap s'.heap) (hok : HOk X.prog X.w H' s'.heap) (hg : AllBare s'.gens)
 (hch:∀b ∈ ch,(b ∈ X.ex\/X.s₀.heap.objs.size<=b)/\b≠X.env.locals/\(∀x c,X.env.cells.lookup x=some c->c≠b)/\∀p ∈ X.pn++pins,p.1≠b):Inv X pins σ H' s':=by
 obtain ⟨h',g',d',t',o'⟩:=s';have e:o'=s.os:=ho;subst e;exact I.call (g':=g') (t':=t') (d':=d') u hok hg hch
end
abbrev XK:=Value->Option Addr->Hp->Prop
abbrev St:=List (Option V)
abbrev VK:=V->Hp->Prop
abbrev TE:=St->Hp->VK->Prop
abbrev TT:=St->Hp->(Bool->Hp->Prop)->Prop
abbrev TA:=St->Hp->(List V->Hp->Prop)->Prop
structure Ends where
 nx:St->Hp->Prop
 rt:VK
 bk:St->Hp->Prop:=fun _ _=>False
 ct:St->Hp->Prop:=fun _ _=>False
abbrev TS:=Ends->St->Hp->Prop
def EP(X:Cx)(pins:List (Addr×Obj))(σ:St)(Q:VK)(u:Value)(s':Shared):Prop:=∃v H',Inv X pins σ H' s'/\RelV v u/\Q v H'
def TP(X:Cx)(pins:List (Addr×Obj))(σ:St)(Q:Bool->Hp->Prop)(b:Bool)(s':Shared):Prop:=∃H',Inv X pins σ H' s'/\Q b H'
def AP(X:Cx)(pins:List (Addr×Obj))(σ:St)(Q:List V->Hp->Prop)(us:List Value)(s':Shared):Prop:=∃vs H',Inv X pins σ H' s'/\Vals vs us/\Q vs H'
def SP(X:Cx)(pins:List (Addr×Obj))(D:Ends)(f:Flow)(s':Shared):Prop:=
 match f with
 | .next=>∃σ' H',Inv X pins σ' H' s'/\D.nx σ' H'
 | .brk=>∃σ' H',Inv X pins σ' H' s'/\D.bk σ' H'
 | .cont=>∃σ' H',Inv X pins σ' H' s'/\D.ct σ' H'
 | .ret u=>∃v σ' H',Inv X pins σ' H' s'/\RelV v u/\D.rt v H'
def PE(X:Cx)(e:Expr)(t:TE):Prop:=
 ∀(pins:List (Addr×Obj)) (s:Shared) (σ:St) (H:Hp) (Q:VK),Inv X pins σ H s->t σ H Q->wpAny (model X.prog X.w) X.A (eval e X.env) (EP X pins σ Q) X.xe s
def PT(X:Cx)(e:Expr)(t:TT):Prop:=
 ∀(pins:List (Addr×Obj)) (s:Shared) (σ:St) (H:Hp) (Q:Bool->Hp->Prop),Inv X pins σ H s->t σ H Q->wpAny (model X.prog X.w) X.A (isTrue e X.env (eval e X.env)) (TP X pins σ Q) X.xe s
def PW(X:Cx)(e:Expr)(t:TT):Prop:=
 ∀(whole:Sem Value) (pins:List (Addr×Obj)) (s:Shared) (σ:St) (H:Hp) (Q:Bool->Hp->Prop),Inv X pins σ H s->t σ H Q->wpAny (model X.prog X.w) X.A (isTrue e X.env whole) (TP X pins σ Q) X.xe s
theorem PW.pt{X:Cx}{e:Expr}{t:TT}(h:PW X e t):PT X e t:=h _
def PA(X:Cx)(es:List Expr)(t:TA):Prop:=
 ∀(pos:Pos) (pins:List (Addr×Obj)) (s:Shared) (σ:St) (H:Hp) (Q:List V->Hp->Prop),Inv X pins σ H s->t σ H Q->wpAny (model X.prog X.w) X.A (spliced (backTo pos (starEach es X.env))) (AP X pins σ Q) X.xe s
def PS(X:Cx)(st:Stmt)(t:TS):Prop:=
 ∀(pins:List (Addr×Obj)) (s:Shared) (σ:St) (H:Hp) (D:Ends),Inv X pins σ H s->t D σ H->wpAny (model X.prog X.w) X.A (exec st X.env) (SP X pins D) X.xe s
def PSs(X:Cx)(st:List Stmt)(t:TS):Prop:=
 ∀(pins:List (Addr×Obj)) (s:Shared) (σ:St) (H:Hp) (D:Ends),Inv X pins σ H s->t D σ H->wpAny (model X.prog X.w) X.A (execs st X.env) (SP X pins D) X.xe s
theorem thn{α:Type}{t:Sem α}{Q Q':α->Shared->Prop}{M:Model}{A:Around}{E:Value->Shared->Prop}{s:Shared}(h:wpAny M A t Q E s)(hQ:∀a s,Q a s->Q' a s):wpAny M A t Q' E s:=wpAny_mono h hQ fun _ _ x=>x
end L2
namespace L2
open PySem PySem.Spec PyProof.Rows
section
variable {X:Cx}
def tVar(i:Nat):TE:=fun σ H Q=>∃v,σ[i]? = some (some v)/\Q v H
def tC(v:V):TE:=fun _ H Q=>Q v H
theorem pe_var {i:Nat} {x:Str} {pos:Pos} (hN:X.N[i]? = some x) (hv:Vis X.env.scope x) (hd:(x==("__debug__" : Str))=false:=by decide) (hcd:(x==("__classdict__" : Str))=false:=by decide):PE X (.Name x pos) (tVar i):=by
 intro pins s σ H Q I h;obtain ⟨v,e,h⟩:=h;obtain ⟨m,hn,hl⟩:=I.loc;obtain ⟨u,r,l⟩:=hl i x v hN e hv;have fin:EP X pins σ Q u s:=⟨v,H,I,r,h⟩;rcases l with ⟨hk,hm⟩ | ⟨hk,c,hc,hcell⟩
 . exact wpAny_Name (wpAny_loadName_local I.ok.kind hk hn hm fin) hd
 . rcases hk with hk | hk
   . exact wpAny_Name (wpAny_loadName_cell I.ok.kind hk hc hcell fin) hd
   . exact wpAny_Name (wpAny_loadName_free I.ok.kind hk hc hcell fin hcd) hd
theorem pe_int{i j pos}:PE X (.Constant (.int i) j pos) (tC (.int i)):=fun _ _ _ H _ I h=>wpAny_Constant_int ⟨.int i,H,I.tok _,⟨_,rfl⟩,h⟩
theorem pe_bl{b j pos}:PE X (.Constant (.bool b) j pos) (tC (.bl b)):=fun _ _ _ H _ I h=>Constant_bool ⟨.bl b,H,I,rfl,h⟩
theorem pe_non{j pos}:PE X (.Constant .none j pos) (tC .non):=fun _ _ _ H _ I h=>Constant_none ⟨.non,H,I,rfl,h⟩
theorem pe_str{x j pos}:PE X (.Constant (.str x) j pos) (tC (.str x)):=fun _ _ _ H _ I h=>Calls.Constant_str ⟨.str x,H,I.tok _,⟨_,rfl⟩,h⟩
def Gl(X:Cx)(x:Str):Prop:=X.env.kindOf x=some .globalImplicit
theorem ld_glob {E : Value -> Shared -> Prop} {pins : List (Addr × Obj)} {s : Shared} {σ : St} {H : Hp} {x : Str} {u : Value} {pos : Pos} {Q : Value -> Shared -> Prop} (I : Inv X pins σ H s) (hg : Gl X x) (hm : X.mg x = some u) (h : Q u s)
 (hd:(x==("__debug__" : Str))=false:=by decide):wpAny (model X.prog X.w) X.A (eval (.Name x pos) X.env) Q E s:=
 Calls.Name_function_global I.ok.kind hg (Calls.loadGlobal_global (by rw [I.ok.glob];exact I.mod.glob.keeps I.bk) hm h) hd
theorem ld_blt {E : Value -> Shared -> Prop} {pins : List (Addr × Obj)} {s : Shared} {σ : St} {H : Hp} {x : Str} {u : Value} {pos : Pos} {Q : Value -> Shared -> Prop} (I : Inv X pins σ H s) (hg : Gl X x) (hm : X.mg x = none) (hv : bootBuiltins x = some u) (h : Q u s)
 (hn:x ≠ "__name__" :=by decide) (hd:(x==("__debug__" : Str))=false:=by decide):wpAny (model X.prog X.w) X.A (eval (.Name x pos) X.env) Q E s:=by
 obtain ⟨mb,h1,h2⟩:=I.mod.blt;exact Calls.Name_function_global I.ok.kind hg (Calls.loadGlobal_builtin (by rw [I.ok.glob];exact I.mod.glob.keeps I.bk) hm (by rw [I.ok.blt];exact h1.keeps I.bk) ((h2 x hn).trans hv) h) hd
theorem pe_glob {x:Str} {v:V} {u:Value} {pos:Pos} (hg:Gl X x) (hm:X.mg x=some u) (r:RelV v u) (hd:(x==("__debug__" : Str))=false:=by decide):PE X (.Name x pos) (tC v) :=
 fun _ _ _ H _ I h=>ld_glob I hg hm ⟨v,H,I,r,h⟩ hd
variable {a b:Expr} {ta tb:TE} {pos:Pos}
def tB(t:TE):TT:=fun σ H Q=>t σ H fun x H1=>∃c,x = .bl c/\Q c H1
theorem pt_val{e:Expr}{t:TE}(h:PE X e t)(he:∀whole,isTrue e X.env whole=(do let v <-whole;standAt e.pos;holding [v] (truthy v)):=by intro _;rfl):PT X e (tB t):=by
 intro pins s σ H Q I hw;refine isTrue_plain (thn (h pins s σ H _ I hw) fun v s1 ⟨x,H1,I1,r1,q1⟩ => ?_) (he _);obtain ⟨d,rfl,q⟩:=q1
 cases r1
 exact wpAny_truthy_bool ⟨H1,I1,q⟩
variable {tA tB':TT} {rest:List Expr}
def tOr(t u:TT):TT:=fun σ H Q=>t σ H fun c H1=>if c=true then Q true H1 else u σ H1 Q
def tNot(t:TT):TT:=fun σ H Q=>t σ H fun c H1=>Q (!c) H1
theorem pw_or1(ha:PT X a tA):PW X (.BoolOp .Or [a] pos) tA:=by
 intro wh pins s σ H Q I h;refine isTrue_or (thn (ha pins s σ H Q I h) fun c s1 e=> ?_)
 cases c with
 | false=>exact isTrue_or_nil e
 | true=>exact e
theorem pw_or(ha:PT X a tA)(hb:PW X (.BoolOp .Or (b::rest) pos) tB'):PW X (.BoolOp .Or (a::b::rest) pos) (tOr tA tB'):=by
 intro wh pins s σ H Q I h;refine isTrue_or (thn (ha pins s σ H _ I h) fun c s1 ⟨H1,I1,q1⟩ => ?_)
 cases c with
 | true=>exact ⟨H1,I1,q1⟩
 | false=>exact hb wh pins s1 σ H1 Q I1 q1
theorem pt_not(ha:PT X a tA):PT X (.UnaryOp .Not a pos) (tNot tA):=by
 intro pins s σ H Q I h;exact isTrue_not (ha pins s σ H (fun c H1=>Q (!c) H1) I h)
def tIf(t:TT)(ta tb:TE):TE:=fun σ H Q=>t σ H fun c H1=>if c=true then ta σ H1 Q else tb σ H1 Q
theorem pe_ifExp{c:Expr}(hc:PT X c tA)(ha:PE X a ta)(hb:PE X b tb):PE X (.IfExp c a b pos) (tIf tA ta tb):=by
 intro pins s σ H Q I h;refine wpAny_IfExp (thn (hc pins s σ H _ I h) fun d s1 ⟨H1,I1,q1⟩ => ?_)
 cases d with
 | true=>exact ha pins s1 σ H1 Q I1 q1
 | false=>exact hb pins s1 σ H1 Q I1 q1
end
end L2
namespace L2
open PySem PySem.Spec PyProof.Rows
def SqL(K:W.Frag)(H:Hp)(a:Addr)(xs:List V):Prop:=
 Rd H a (.lst xs) \/
  ∃(o:Obj) (its:Array Value) (n:Nat),K.lookup a=some o/\o.cls = .type "list" /\ o.dict=none/\o.data = .seq its n/\its.size<=sizeLine/\Vals xs its.toList
def SqT(K:W.Frag)(H:Hp)(a:Addr)(xs:List V):Prop:=
 Rd H a (.tup xs) \/
  ∃(o:Obj) (its:Array Value) (n:Nat),K.lookup a=some o/\o.cls = .type "tuple" /\ o.data = .seq its n/\its.size<=sizeLine/\Vals xs its.toList
def absV:Value->Option V
 | .none=>some .non
 | .bool b=>some (.bl b)
 | .int i _=>some (.int i)
 | .str x _=>some (.str x)
 | .bytes b _=>some (.byt b)
 | .float b _=>some (.flt b)
 | .ref a=>some (.ref a)
 | .type n=>some (.ty n)
 | _=>none
theorem RelV.abs{x:V}{u:Value}(r:RelV x u):absV u=some x:=by
 cases x with
 | non=>cases r;rfl
 | bl _=>cases r;rfl
 | int _=>obtain ⟨t,rfl⟩:=r;rfl
 | str _=>obtain ⟨t,rfl⟩:=r;rfl
 | byt _=>obtain ⟨t,rfl⟩:=r;rfl
 | flt _=>obtain ⟨t,rfl⟩:=r;rfl
 | ref _=>cases r;rfl
 | ty _=>cases r;rfl
theorem RelV.inj{x y:V}{u:Value}(r:RelV x u)(q:RelV y u):x=y:=Option.some.inj (r.abs.symm.trans q.abs)
theorem Vals.inj:∀ {xs ys:List V} {us:List Value},Vals xs us->Vals ys us->xs=ys
 | _,_,_, .nil, .nil=>rfl
 | _,_,_, .cons r t, .cons r' t'=>by rw [r.inj r',Vals.inj t t']
section
variable {X:Cx} {pins:List (Addr×Obj)} {σ:St} {H:Hp} {s:Shared} {a:Addr} {xs ys:List V}
theorem SqL.of{K:W.Frag}(h:H a=some (.lst xs)):SqL K H a xs:= .inl (.inl h)
theorem SqT.of{K:W.Frag}(h:H a=some (.tup xs)):SqT K H a xs:= .inl (.inl h)
theorem Inv.list(I:Inv X pins σ H s)(h:SqL X.K H a xs):∃its:List Value,Vals xs its/\PlainL s.heap a its.toArray/\xs.length<=sizeLine:=by
 rcases h with h | ⟨o,its,n,hk,hc,hd,hs,hz,r⟩
 . obtain ⟨z,its,n,r,e⟩:=h.ok I.hok;exact ⟨its,r,⟨_,n,e,rfl,rfl,rfl⟩,z⟩
 . refine ⟨its.toList,r,⟨o,n,I.kIn a o hk,hc,hd,by simpa using hs⟩,?_⟩;have e:=r.length;simp only [Array.length_toList] at e
   omega
theorem Inv.tuple(I:Inv X pins σ H s)(h:SqT X.K H a xs):∃its:List Value,Vals xs its/\IsTup s.heap a its.toArray/\xs.length<=sizeLine:=by
 rcases h with h | ⟨o,its,n,hk,hc,hs,hz,r⟩
 . obtain ⟨z,its,r,p⟩:=h.ok I.hok;exact ⟨its,r,p,z⟩
 . refine ⟨its.toList,r,⟨o,I.kIn a o hk,hc,n,by simpa using hs⟩,?_⟩;have e:=r.length;simp only [Array.length_toList] at e
   omega
theorem Inv.list_inj(I:Inv X pins σ H s)(h:SqL X.K H a xs)(h':SqL X.K H a ys):xs=ys:=by
 obtain ⟨its,r,⟨o,n,e,_,_,d⟩,_⟩:=I.list h;obtain ⟨its',r',⟨o',n',e',_,_,d'⟩,_⟩:=I.list h';rw [e] at e';cases e'
 rw [d] at d'
 injection d' with d1 _
 have:its=its':=by simpa using congrArg Array.toList d1
 subst this;exact r.inj r'
theorem Inv.tuple_inj(I:Inv X pins σ H s)(h:SqT X.K H a xs)(h':SqT X.K H a ys):xs=ys:=by
 obtain ⟨its,r,⟨o,e,_,n,d⟩,_⟩:=I.tuple h;obtain ⟨its',r',⟨o',e',_,n',d'⟩,_⟩:=I.tuple h';rw [e] at e';cases e'
 rw [d] at d'
 injection d' with d1 _
 have:its=its':=by simpa using congrArg Array.toList d1
 subst this;exact r.inj r'
end
abbrev Cx.wish (X:Cx) (E:Value->Shared->Prop):Cx:={ X with xe:=E }
abbrev Cx.nox (X:Cx):Cx:=X.wish fun _ _=>False
theorem Cx.Ok.wish{X:Cx}(ok:X.Ok)(E:Value->Shared->Prop):(X.wish E).Ok:=
 ⟨ok.mod,ok.kind,ok.glob,ok.blt,ok.above,ok.inj,ok.has,ok.cab,ok.hd,ok.frames,ok.stk,ok.exf,ok.bs,ok.bsz,ok.noex,ok.exfs,ok.funs,ok.frf⟩
theorem Cx.Ok.unwish{X:Cx}{E:Value->Shared->Prop}(ok:(X.wish E).Ok):X.Ok:=
 ⟨ok.mod,ok.kind,ok.glob,ok.blt,ok.above,ok.inj,ok.has,ok.cab,ok.hd,ok.frames,ok.stk,ok.exf,ok.bs,ok.bsz,ok.noex,ok.exfs,ok.funs,ok.frf⟩
section
variable {X:Cx} {pins:List (Addr×Obj)} {σ:St} {H:Hp} {s:Shared} {E:Value->Shared->Prop}
theorem Inv.wish(I:Inv X pins σ H s)(E:Value->Shared->Prop):Inv (X.wish E) pins σ H s:=⟨I.ok.wish E,I.os,I.bare,I.base,I.loc,I.cell,I.free,I.freeC,I.pin,I.hok,I.len⟩
theorem Inv.unwish(I:Inv (X.wish E) pins σ H s):Inv X pins σ H s:=⟨I.ok.unwish,I.os,I.bare,I.base,I.loc,I.cell,I.free,I.freeC,I.pin,I.hok,I.len⟩
theorem SP.unwish{D:Ends}{f:Flow}{s':Shared}(h:SP (X.wish E) pins D f s'):SP X pins D f s':=by
 cases f with
 | next=>obtain ⟨σ',H',I,q⟩:=h;exact ⟨σ',H',I.unwish,q⟩
 | brk=>obtain ⟨σ',H',I,q⟩:=h;exact ⟨σ',H',I.unwish,q⟩
 | cont=>obtain ⟨σ',H',I,q⟩:=h;exact ⟨σ',H',I.unwish,q⟩
 | ret u=>obtain ⟨v,σ',H',I,r,q⟩:=h;exact ⟨v,σ',H',I.unwish,r,q⟩
theorem PE.nox{e:Expr}{t:TE}(h:PE X.nox e t):PE X e t:=fun pins s σ H Q I hw=>
 wpAny_mono (h pins s σ H Q (I.wish _) hw) (fun _ _ ⟨v,H',I',r,q⟩=>⟨v,H',I'.unwish,r,q⟩) fun _ _ z=>False.elim z
theorem PT.nox{e:Expr}{t:TT}(h:PT X.nox e t):PT X e t:=fun pins s σ H Q I hw=>
 wpAny_mono (h pins s σ H Q (I.wish _) hw) (fun _ _ ⟨H',I',q⟩=>⟨H',I'.unwish,q⟩) fun _ _ z=>False.elim z
theorem PSs.nox{st:List Stmt}{t:TS}(h:PSs X.nox st t):PSs X st t:=fun pins s σ H D I hw=>
 wpAny_mono (h pins s σ H D (I.wish _) hw) (fun _ _ q=>q.unwish) fun _ _ z=>False.elim z
end
section
variable {X:Cx} {st:Stmt} {rest:List Stmt} {t u:TS} {e:Expr} {te:TE} {pos:Pos}
def tNext:TS:=fun D σ H=>D.nx σ H
def tSeq(t u:TS):TS:=fun D σ H=>t { D with nx:=u D } σ H
theorem pss_nil:PSs X [] tNext:=fun _ _ σ H _ I h=>wpAny_execs_nil ⟨σ,H,I,h⟩
theorem pss_cons(h1:PS X st t)(h2:PSs X rest u):PSs X (st::rest) (tSeq t u):=by
 intro pins s σ H D I h;refine wpAny_execs_cons (thn (h1 pins s σ H { D with nx:=u D } I h) fun f s1 q=> ?_)
 cases f with
 | next=>
  obtain ⟨σ',H',I',q⟩:=q
  exact h2 pins s1 σ' H' D I' q
 | ret v=>exact q
 | brk=>exact q
 | cont=>exact q
theorem pss_one(h1:PS X st t):PSs X [st] t:=by
 intro pins s σ H D I h;refine wpAny_execs_cons (thn (h1 pins s σ H D I h) fun f s1 q=> ?_)
 cases f with
 | next=>exact wpAny_execs_nil q
 | ret v=>exact q
 | brk=>exact q
 | cont=>exact q
theorem Inv.quiet{pins:List (Addr×Obj)}{σ:St}{H:Hp}{s:Shared}(I:Inv X pins σ H s):interactive X.env=false:=by simp [interactive,I.ok.kind]
def tDrop(te:TE):TS:=fun D σ H=>te σ H fun _ H1=>D.nx σ H1
theorem ps_expr(he:PE X e te)(hs:swapsWith e none pos.line X.env=pure false:=by rfl):PS X (.Expr e pos) (tDrop te):=by
 intro pins s σ H D I h;exact wpAny_Expr_any (thn (he pins s σ H _ I h) fun v s1 ⟨x,H1,I1,r1,q1⟩=>⟨σ,H1,I1,q1⟩) I.quiet hs
def tRet(te:TE):TS:=fun D σ H=>te σ H D.rt
theorem ps_ret(he:PE X e te):PS X (.Return (some e) pos) (tRet te):=by
 intro pins s σ H D I h;exact wpAny_Return_some (thn (he pins s σ H _ I h) fun v s1 ⟨x,H1,I1,r1,q1⟩=>⟨x,σ,H1,I1,r1,q1⟩)
def tRetN:TS:=fun D _ H=>D.rt .non H
theorem ps_retN:PS X (.Return none pos) tRetN:=fun _ _ σ H _ I h=>wpAny_Return_none ⟨.non,σ,H,I,rfl,h⟩
def tIfS(c:TT)(t u:TS):TS:=fun D σ H=>c σ H fun b H1=>if b=true then t D σ H1 else u D σ H1
theorem ps_if{c:Expr}{a b:List Stmt}{tc:TT}(hc:PT X c tc)(ha:PSs X a t)(hb:PSs X b u):PS X (.If c a b pos) (tIfS tc t u):=by
 intro pins s σ H D I h;refine wpAny_If (thn (hc pins s σ H _ I h) fun d s1 ⟨H1,I1,q1⟩ => ?_)
 cases d with
 | true=>exact ha pins s1 σ H1 D I1 q1
 | false=>exact hb pins s1 σ H1 D I1 q1
end
abbrev TG:=V->St->Hp->(St->Hp->Prop)->Prop
abbrev TGs:=List V->St->Hp->(St->Hp->Prop)->Prop
def PG(X:Cx)(target:Expr)(t:TG):Prop:=
 ∀(pins:List (Addr×Obj)) (s:Shared) (σ:St) (H:Hp) (v:V) (u:Value) (Q:St->Hp->Prop),Inv X pins σ H s->RelV v u->t v σ H Q ->
   wpAny (model X.prog X.w) X.A (assign target X.env u) (fun _ s'=>∃σ' H',Inv X pins σ' H' s'/\Q σ' H') X.xe s
def PGs(X:Cx)(ts:List Expr)(t:TGs):Prop:=
 ∀(pins:List (Addr×Obj)) (s:Shared) (σ:St) (H:Hp) (vs:List V) (us:List Value) (Q:St->Hp->Prop),Inv X pins σ H s->Vals vs us->t vs σ H Q ->
   wpAny (model X.prog X.w) X.A (assignInOrder ((assignEach ts X.env).map (·.2)) us) (fun _ s'=>∃σ' H',Inv X pins σ' H' s'/\Q σ' H') X.xe s
abbrev TSet:=V->V->V->Hp->(Hp->Prop)->Prop
def PSet(X:Cx)(t:TSet):Prop:=
 ∀(pins:List (Addr×Obj)) (s:Shared) (σ:St) (H:Hp) (o i v:V) (ov iv u:Value) (Q:Hp->Prop),Inv X pins σ H s->RelV o ov->RelV i iv->RelV v u->t o i v H Q ->
   wpAny (model X.prog X.w) X.A (setItem ov iv u) (fun _ s'=>∃H',Inv X pins σ H' s'/\Q H') X.xe s
section
variable {X:Cx} {pos:Pos}
def gName(i:Nat):TG:=fun v σ H Q=>Q (σ.set i (some v)) H
theorem pg_name{i:Nat}{x:Str}(hN:X.N.Nodup)(hi:X.N[i]? = some x)(hx:Loc X.env.scope x)(hf:X.fn x=true\/X.env.scope.names.lookup x=some .local:=by first | exact .inl rfl | exact .inr rfl | assumption):PG X (.Name x pos) (gName i):=by
 intro pins s σ H v u Q I r h;exact wpAny_assign_Name (store_ok I hN hi hx r (fun s' I'=>⟨_,H,I',h⟩) hf)
def gNil:TGs:=fun vs σ H Q=>vs = []/\Q σ H
def gCons(t:TG)(u:TGs):TGs:=fun vs σ H Q=>∃v r,vs=v::r/\t v σ H fun σ' H'=>u r σ' H' Q
theorem pgs_nil:PGs X [] gNil:=by
 intro pins s σ H vs us Q I r h;obtain ⟨e,h⟩:=h;subst e
 cases r
 exact assignInOrder_nil ⟨σ,H,I,h⟩
theorem pgs_cons {e : Expr} {es : List Expr} {t : TG} {u : TGs} (h1 : PG X e t) (h2 : PGs X es u)
 (hs:(assignEach (e::es) X.env).map (·.2)=assign e X.env::(assignEach es X.env).map (·.2):=by rfl):PGs X (e::es) (gCons t u):=by
 intro pins s σ H vs us Q I r h;obtain ⟨v,vr,e1,h⟩:=h;subst e1
 cases r with
 | cons r rr=>
  rw [hs];refine assignInOrder_cons (thn (h1 pins s σ H _ _ _ I r h) fun _ s1 ⟨σ1,H1,I1,q1⟩ => ?_);exact h2 pins s1 σ1 H1 _ _ Q I1 rr q1
def gTup(K:W.Frag)(n:Nat)(t:TGs):TG:=fun v σ H Q=>∃a xs,v = .ref a/\SqT K H a xs/\xs.length=n/\t xs σ H Q
theorem pg_tup {es : List Expr} {k : Nat} {t : TGs} {n : Nat} (hc : X.calm = true) (h : PGs X es t)
 (hn:(assignEach es X.env).length=n:=by rfl) (hst:(assignEach es X.env).findIdx? (·.1)=none:=by rfl):PG X (.Tuple es k pos) (gTup X.K n t):=by
 intro pins s σ H v u Q I r hw;obtain ⟨a,xs,e1,hq,hl,hw⟩:=hw;subst e1
 cases r
 obtain ⟨its,rv,ht,hz⟩:=I.tuple hq;refine assign_Tuple_tuple (I.ok.hd hc) ht (by simp [hn, <-hl,rv.length]) hst fun h' hx=> ?_;have I1:Inv X pins σ H { s with heap:=h' }:=I.kept (t':=s.toks) fun b o e=>hx b o (Nat.ne_of_lt (Heap.lt_size e)) e;exact h pins _ σ H xs _ Q I1 (by simpa using rv) hw
def gSub(to ti:TE)(t:TSet):TG:=fun v σ H Q=>to σ H fun o H1=>ti σ H1 fun i H2=>t o i v H2 fun H3=>Q σ H3
theorem pg_sub {o i : Expr} {to ti : TE} {t : TSet} (ho : PE X o to) (hi : PE X i ti) (hs : PSet X t)
 (ha:∀v,assign (.Subscript o i pos) X.env v=(do
  let ov <-holding [v] (eval o X.env)
  let iv <-holding [v,ov] (eval i X.env)
  standAt pos
  holding [v,ov,iv] (setItem ov iv v)
  release [v,ov,iv] []):=by intro _;rfl):PG X (.Subscript o i pos) (gSub to ti t):=by
 intro pins s σ H v u Q I r h;rw [ha];refine wpAny_bind (wpAny_holding (thn (ho pins s σ H _ I h) fun ov s1 ⟨x,H1,I1,r1,q1⟩ => ?_));refine wpAny_bind (wpAny_holding (thn (hi pins s1 σ H1 _ I1 q1) fun iv s2 ⟨y,H2,I2,r2,q2⟩ => ?_));refine wpAny_bind (wpAny_standAt (wpAny_bind (wpAny_holding (thn (hs pins s2 σ H2 x y v ov iv u _ I2 r1 r2 r q2) fun _ s3 ⟨H3,I3,q3⟩ => ?_))));exact wpAny_release ⟨σ,H3,I3,q3⟩
def tAsg(te:TE)(g:TG):TS:=fun D σ H=>te σ H fun x H1=>g x σ H1 D.nx
theorem ps_asg {tg e : Expr} {te : TE} {g : TG} (he : PE X e te) (hg : PG X tg g) (hs : swapsWithSole [tg] e pos.line X.env = pure false := by rfl) (hw : swappedStores [tg] e X.env = pure none := by rfl)
 (h1:(assignEach [tg] X.env).map (·.2) = [assign tg X.env]:=by rfl):PS X (.Assign [tg] e pos) (tAsg te g):=by
 intro pins s σ H D I h;refine wpAny_Assign_stores (thn (he pins s σ H _ I h) fun v s1 ⟨x,H1,I1,r1,q1⟩ => ?_) hs hw;rw [h1];exact thn (hg pins s1 σ H1 x v _ I1 r1 q1) fun _ s2 q=>q
theorem ps_set {i : Nat} {x : Str} {e : Expr} {te : TE} {pos' : Pos} (hN : X.N.Nodup) (hi : X.N[i]? = some x) (hx : Loc X.env.scope x) (he : PE X e te) (hs : swapsWith e (some (.Name x pos')) pos.line X.env = pure false := by rfl) (hf : X.fn x = true \/ X.env.scope.names.lookup x = some .local := by first | exact .inl rfl | exact .inr rfl | assumption) :
 PS X (.Assign [.Name x pos'] e pos) (tAsg te (gName i)):=by
 intro pins s σ H D I h;refine wpAny_Assign_Name (thn (he pins s σ H _ I h) fun v s1 ⟨y,H1,I1,r1,q1⟩ => ?_) hs;exact store_ok I1 hN hi hx r1 (fun s2 I2=>⟨_,H1,I2,q1⟩) hf
def tPar(i j:Nat)(ta:TA):TS:=fun D σ H=>ta σ H fun vs H1=>∃v w,vs = [v,w]/\D.nx ((σ.set i (some v)).set j (some w)) H1
theorem ps_par {i j : Nat} {x y : Str} {a b : Expr} {ta : TA} {px py pt : Pos} {kt k2 pt2} (hc : X.calm = true) (hN : X.N.Nodup) (hi : X.N[i]? = some x) (hj : X.N[j]? = some y) (hij : i ≠ j)
 (hx:X.env.scope.names.lookup x=some .local) (hy:X.env.scope.names.lookup y=some .local) (ha:PA X [a,b] ta)
 (hw:swappedStores [.Tuple [.Name x px, .Name y py] kt pt] (.Tuple [a,b] k2 pt2) X.env=pure (some [x,y]))
 (hs:swapsWithSole [.Tuple [.Name x px, .Name y py] kt pt] (.Tuple [a,b] k2 pt2) pos.line X.env=pure false:=by rfl) :
 PS X (.Assign [.Tuple [.Name x px, .Name y py] kt pt] (.Tuple [a,b] k2 pt2) pos) (tPar i j ta):=by
 intro pins s σ H D I h;rw [exec_Assign_arm];refine wpAny_bind (wpAny_standAt ?_);rw [hs];refine wpAny_bind (wpAny_pure ?_);rw [if_neg (by decide)];refine wpAny_bind (Tuple_ (thn (ha _ pins s σ H _ I h) fun us s1 ⟨vs,H1,I1,r1,q1⟩ => ?_));obtain ⟨v,w,e1,q1⟩:=q1;subst e1
 obtain ⟨u1,u2,rfl,rv,rw'⟩:∃u1 u2,us = [u1,u2]/\RelV v u1/\RelV w u2:=by
  cases r1 with
  | cons p q=>
   cases q with
   | cons p' q' =>
    cases q'
    exact ⟨_,_,rfl,p,p'⟩
 refine wpAny_newObj_type ?_ (by show 2<=sizeLine;decide);have I2:Inv X pins σ H1 { s1 with heap:=s1.heap.push { cls:= .type "tuple",data:= .seq [u1,u2].toArray } }:=I1.kept (t':=s1.toks) fun b o e=>Heap.get?_push_of_some _ e;rw [hw];refine wpAny_bind (wpAny_pure ?_);show wpAny (model X.prog X.w) X.A (do rule "assign.swapped-stores";let items <-unpackItems (.ref s1.heap.objs.size) 2 none;assignInOrder [fun v=>bindName X.env y v,fun v=>bindName X.env x v] items.reverse;pure Flow.next) _ _ _;refine wpAny_bind (wpAny_rule (wpAny_bind (unpackItems_tuple (items:= #[u1,u2]) (I.ok.hd hc) (IsTup.new s1.heap _) fun h' hx' => ?_)));have I3:=I2.kept (h':=h') (t':=s1.toks) fun b o e=>hx' b o (Nat.ne_of_lt (Heap.lt_size e)) e;show wpAny _ _ (assignInOrder [fun v=>bindName X.env y v,fun v=>bindName X.env x v] [u2,u1] >>= fun _=>pure Flow.next) _ _ _;refine wpAny_bind (assignInOrder_cons (wpAny_bindName (store_ok I3 hN hj (.inl hy) rw' (fun s2 I4=> ?_) (.inr hy))));refine assignInOrder_cons (wpAny_bindName (store_ok I4 hN hi (.inl hx) rv (fun s3 I5=>assignInOrder_nil (wpAny_pure ?_)) (.inr hx)));rw [List.set_comm _ _ (Ne.symm hij)] at I5
 exact ⟨_,H1,I5,q1⟩
end
section
variable {X:Cx} {pos:Pos}
def tWhile(c:TT)(tb:TS):TS:=fun D σ H=>∃W:Nat->St->Hp->Prop,(∃m,W m σ H)/\∀m σ H,W m σ H ->
 c σ H fun b H1=>if b=true then ∃N:St->Hp->Prop,(∀σ' H',N σ' H'->∃m',m'<m/\W m' σ' H')/\tb { D with nx:=N,ct:=N,bk:=D.nx } σ H1 else D.nx σ H1
theorem ps_while{c:Expr}{body:List Stmt}{tc:TT}{tb:TS}(hp:PassesOwn (model X.prog X.w) X.A X.env X.xe)(hc:PT X c tc)(hb:PSs X body tb):PS X (.While c body [] pos) (tWhile tc tb):=by
 intro pins s σ H D I h;obtain ⟨W,⟨m0,w0⟩,turn⟩:=h;refine wpAny_While (codeAny_whileLoop (fun n s'=>∃σ' H',Inv X pins σ' H' s'/\W n σ' H') ?_ m0 ⟨σ,H,I,w0⟩);rintro n s1 ⟨σ1,H1,I1,w1⟩;refine wpAny_passesOwn hp (thn (hc pins s1 σ1 H1 _ I1 (turn n σ1 H1 w1)) fun b s2 ⟨H2,I2,q2⟩ => ?_)
 cases b with
 | true=>
  obtain ⟨N,hN,q2⟩:=q2;rw [if_pos rfl];refine wpAny_passesOwn hp (thn (hb pins s2 σ1 H2 _ I2 q2) fun f s3 q3=> ?_)
  cases f with
  | next=>
   obtain ⟨σ3,H3,I3,n3⟩:=q3;obtain ⟨m',hm,w3⟩:=hN σ3 H3 n3
   exact ⟨m',hm,σ3,H3,I3,w3⟩
  | cont=>
   obtain ⟨σ3,H3,I3,n3⟩:=q3;obtain ⟨m',hm,w3⟩:=hN σ3 H3 n3
   exact ⟨m',hm,σ3,H3,I3,w3⟩
  | brk=>exact q3
  | ret v=>exact q3
 | false=>
  rw [if_neg Bool.false_ne_true];exact wpAny_execs_nil ⟨σ1,H2,I2,q2⟩
end
structure It where
 go:Nat->Hp->Prop
 yld:Nat->Hp->V->Hp->Prop
 stop:Nat->Hp->Prop
def FpOk(X:Cx)(pins:List (Addr×Obj))(H:Hp)(b:Addr):Prop:=
 H b=none/\b≠X.env.locals/\b ∉ X.fs/\(b ∈ X.ex\/X.s₀.heap.objs.size<=b)/\(∀x c,X.env.cells.lookup x=some c->c≠b)/\∀p ∈ X.pn++pins,p.1≠b
theorem Inv.fpOk{X:Cx}{pins:List (Addr×Obj)}{σ:St}{H H':Hp}{s:Shared}{b:Addr}(I:Inv X pins σ H s)(hb:s.heap.objs.size<=b)(hn:H' b=none):FpOk X pins H' b:=by
 refine ⟨hn,Nat.ne_of_gt (Nat.lt_of_lt_of_le I.lt hb),I.nofs hb, .inr (Nat.le_trans I.sz hb),fun x c e z=> ?_,fun p hp z=> ?_⟩
 . obtain ⟨v,q⟩:=I.cell x c e;exact absurd (Nat.lt_of_lt_of_le q.lt (by rw [z];exact hb)) (Nat.lt_irrefl _)
 . exact absurd (Nat.lt_of_lt_of_le (Heap.lt_size (I.pin p hp).1) (by rw [z];exact hb)) (Nat.lt_irrefl _)
structure Turn (P:Program) (w:World) (K:W.Frag) (tg:Expr) (J:It) (fp:List Addr) (it:Addr) (tn:Nat->Heap->Prop):Prop where
 mem:it ∈ fp
 obj:∀i h,tn i h->∀b ∈ fp,∃o,h.get? b=some o/\∀v,o.data ≠ .cell v
 keep:∀i h h',tn i h->(∀b ∈ fp,∀o,h.get? b=some o->h'.get? b=some o)->tn i h'
 item:∀(X:Cx),X.prog=P->X.w=w->X.K=K->X.calm=true->∀(i:Nat) (pins:List (Addr×Obj)) (s:Shared) (σ:St) (H:Hp) (E:Value->Shared->Prop),Inv X pins σ H s->(∀b ∈ fp,FpOk X pins H b)->tn i s.heap->J.go i H ->
  wpAny (model P w) X.A (pyNext (.ref it)) (fun r s1=>∃u,r=some u /\
   wpAny (model P w) X.A (letOwnedTupleGo tg (.ref it) u) (fun _ s2=>∃x H',Inv X pins σ H' s2/\RelV x u/\J.yld i H x H'/\tn (i+1) s2.heap/\∀b ∈ fp,H' b=none) E s1) E s
 done:∀(X:Cx),X.prog=P->X.w=w->X.K=K->X.calm=true->∀(i:Nat) (pins:List (Addr×Obj)) (s:Shared) (σ:St) (H:Hp) (E:Value->Shared->Prop),Inv X pins σ H s->(∀b ∈ fp,FpOk X pins H b)->tn i s.heap->J.stop i H ->
  wpAny (model P w) X.A (pyNext (.ref it)) (fun r s1=>r=none/\Inv X pins σ H s1) E s
 self:∀(A:Around) (i:Nat) (s:Shared) (Q:Value->Shared->Prop) (E:Value->Shared->Prop),tn i s.heap->Q (.ref it) s->wpAny (model P w) A (pyIter (.ref it)) Q E s
abbrev TI:=St->Hp->(It->Hp->Prop)->Prop
def PIE(X:Cx)(pins:List (Addr×Obj))(σ:St)(tg:Expr)(R:It->Hp->Prop)(itv:Value)(s2:Shared):Prop:=
 ∃(it:Addr) (fp:List Addr) (tn:Nat->Heap->Prop) (J:It) (H':Hp),itv = .ref it/\Inv X pins σ H' s2/\Turn X.prog X.w X.K tg J fp it tn/\tn 0 s2.heap/\(∀b ∈ fp,FpOk X pins H' b)/\R J H'
def PI(X:Cx)(tg iter:Expr)(wi:TI):Prop:=
 ∀(pins:List (Addr×Obj)) (s:Shared) (σ:St) (H:Hp) (R:It->Hp->Prop),Inv X pins σ H s->wi σ H R ->
   wpAny (model X.prog X.w) X.A (eval iter X.env) (fun v s1=>wpAny (model X.prog X.w) X.A (pyIter v) (PIE X pins σ tg R) X.xe s1) X.xe s
theorem go_of {M : Model} {A : Around} {E : Value -> Shared -> Prop} {s : Shared} {tg : Expr} {it : Addr} {u : Value} {o : Obj} {n : String} {vs : Array Value} {Q : Unit -> Shared -> Prop} (ho : s.heap.get? it = some o) (hc : o.cls = .type n) (hd : o.data = .fields vs)
 (hn : ["enumerate", "zip", "dict_itemiterator", "dict_reverseitemiterator", "odict_iterator", "itertools.zip_longest", "itertools.pairwise"].contains n=false) (hQ:Q () s):wpAny M A (letOwnedTupleGo tg (.ref it) u) Q E s:=by
 unfold letOwnedTupleGo
 cases tg <;> first
  | exact wpAny_pure hQ
  | (cases u <;> first
   | exact wpAny_pure hQ
   | (refine wpAny_bind (wpAny_load ho ?_)
      rw [hc,hd];show wpAny M A (if (["enumerate", "zip", "dict_itemiterator", "dict_reverseitemiterator", "odict_iterator", "itertools.zip_longest", "itertools.pairwise"].contains n && vs[0]? ==some (rawInt _))=true then _ else _) Q E s;rw [if_neg (by intro h;rw [hn,Bool.false_and] at h;cases h)];exact wpAny_pure hQ))
def Itl(K:W.Frag)(a:Addr):It:=
 ⟨fun i H=>∃xs x,SqL K H a xs/\xs[i]? = some x,fun i H x H'=>H'=H/\∀xs,SqL K H a xs->xs[i]? = some x,fun i H=>∃xs,SqL K H a xs/\xs.length<=i⟩
def Itt(K:W.Frag)(a:Addr):It:=
 ⟨fun i H=>∃xs x,SqT K H a xs/\xs[i]? = some x,fun i H x H'=>H'=H/\∀xs,SqT K H a xs->xs[i]? = some x,fun i H=>∃xs,SqT K H a xs/\xs.length<=i⟩
def Itr(lo:Int)(n:Nat):It:=⟨fun i _=>i<n,fun i H x H'=>H'=H/\x = .int (lo+i),fun i _=>n<=i⟩
theorem turn_list{P:Program}{w:World}{K:W.Frag}{tg:Expr}(a it:Addr):Turn P w K tg (Itl K a) [it] it (fun i h=>h.IsListIter it a i) where
 mem:=by simp
 obj:=fun i h st b hb=>by
  have e:b=it:=by simpa using hb
  subst e;obtain ⟨o,e,c,d⟩:=st;exact ⟨o,e,fun v z=>by rw [d] at z;cases z⟩
 keep:=fun i h h' st k=>st.at fun o e=>k it (by simp) o e
 item:=by
  intro X hP hw hK hc i pins s σ H E I hf st hg;subst hP hw hK;obtain ⟨xs,x,hq,hx⟩:=hg;obtain ⟨its,rv,p,hz⟩:=I.list hq;obtain ⟨u,hu,ru⟩:=rv.get hx;obtain ⟨f0,f1,f2,f3,f4,f5⟩:=hf it (by simp);refine wpAny_pyNext_list_item st p.isList (x:=u) (by simpa using hu) fun h' st' sb=> ?_;have I1:Inv X pins σ H { s with heap:=h' }:=I.turned (t':=s.toks) (fun b o hb e=>(sb.2 b hb).trans e) f0 f1 f3 f4 f5;obtain ⟨o,e,c,d⟩:=id st';exact ⟨u,rfl,go_of (s:={ s with heap:=h' }) e c d (by decide) ⟨x,H,I1,ru,⟨rfl,fun ys hy=>by rw [I.list_inj hy hq];exact hx⟩,st',fun b hb=>(hf b hb).1⟩⟩
 done:=by
  intro X hP hw hK hc i pins s σ H E I hf st hg;subst hP hw hK;obtain ⟨xs,hq,hx⟩:=hg;obtain ⟨its,rv,p,hz⟩:=I.list hq;obtain ⟨f0,f1,f2,f3,f4,f5⟩:=hf it (by simp);have hl:=rv.length;exact wpAny_pyNext_list_end (I.ok.hd hc) st p.isList (by simp;omega) fun h' eb=>⟨rfl,I.turned (t':=s.toks) (fun b o hb e=>eb b o hb e) f0 f1 f3 f4 f5⟩
 self:=fun _ _ _ _ _ st h=>wpAny_pyIter_listiter st h
theorem turn_tuple{P:Program}{w:World}{K:W.Frag}{tg:Expr}(a it:Addr):Turn P w K tg (Itt K a) [it] it (fun i h=>h.IsTupleIter it a i) where
 mem:=by simp
 obj:=fun i h st b hb=>by
  have e:b=it:=by simpa using hb
  subst e;obtain ⟨o,e,c,d⟩:=st;exact ⟨o,e,fun v z=>by rw [d] at z;cases z⟩
 keep:=fun i h h' st k=>st.at fun o e=>k it (by simp) o e
 item:=by
  intro X hP hw hK hc i pins s σ H E I hf st hg;subst hP hw hK;obtain ⟨xs,x,hq,hx⟩:=hg;obtain ⟨its,rv,p,hz⟩:=I.tuple hq;obtain ⟨u,hu,ru⟩:=rv.get hx;obtain ⟨f0,f1,f2,f3,f4,f5⟩:=hf it (by simp);refine wpAny_pyNext_tuple_item st (show s.heap.IsTuple a its.toArray from p) (x:=u) (by simpa using hu) fun h' st' sb=> ?_;have I1:Inv X pins σ H { s with heap:=h' }:=I.turned (t':=s.toks) (fun b o hb e=>(sb.2 b hb).trans e) f0 f1 f3 f4 f5;obtain ⟨o,e,c,d⟩:=id st';exact ⟨u,rfl,go_of (s:={ s with heap:=h' }) e c d (by decide) ⟨x,H,I1,ru,⟨rfl,fun ys hy=>by rw [I.tuple_inj hy hq];exact hx⟩,st',fun b hb=>(hf b hb).1⟩⟩
 done:=by
  intro X hP hw hK hc i pins s σ H E I hf st hg;subst hP hw hK;obtain ⟨xs,hq,hx⟩:=hg;obtain ⟨its,rv,p,hz⟩:=I.tuple hq;obtain ⟨f0,f1,f2,f3,f4,f5⟩:=hf it (by simp);have hl:=rv.length;exact wpAny_pyNext_tuple_end (I.ok.hd hc) st (show s.heap.IsTuple a its.toArray from p) (by simp;omega) fun h' eb=>⟨rfl,I.turned (t':=s.toks) (fun b o hb e=>eb b o hb e) f0 f1 f3 f4 f5⟩
 self:=fun _ _ _ _ _ st h=>wpAny_pyIter_tupleiter st h
theorem turn_range{P:Program}{w:World}{K:W.Frag}{tg:Expr}(it:Addr)(lo:Int)(n:Nat):Turn P w K tg (Itr lo n) [it] it (fun i h=>IsRangeIter h it (lo+(i:Nat)*1) ((n:Int) - (i:Nat)) 1) where
 mem:=by simp
 obj:=fun i h st b hb=>by
  have e:b=it:=by simpa using hb
  subst e
  exact ⟨_,st,fun v z=>by
   have z':Data.fields _=Data.cell v:=z
   cases z'⟩
 keep:=fun i h h' st k=>k it (by simp) _ st
 item:=by
  intro X hP hw hK hc i pins s σ H E I hf st hg;subst hP hw hK;obtain ⟨f0,f1,f2,f3,f4,f5⟩:=hf it (by simp);have W:=Walks.range (prog:=X.prog) (w:=X.w) (I.ok.hd hc) it lo 1 n;refine W.item i s _ _ hg st fun v h' tk hv st' kk=> ?_;obtain ⟨t,rfl⟩:=hv;have I1:Inv X pins σ H { s with heap:=h',toks:=tk }:=I.turned (fun b o hb e=>kk b o (by simpa using hb) e) f0 f1 f3 f4 f5;refine ⟨_,rfl,go_of (s:={ s with heap:=h',toks:=tk }) (n:= "range_iterator") st' rfl rfl (by decide) ⟨.int (lo+i),H,I1,⟨t,?_⟩,⟨rfl,rfl⟩,st',fun b hb=>(hf b hb).1⟩⟩;rw [Int.mul_one]
 done:=by
  intro X hP hw hK hc i pins s σ H E I hf st hg;subst hP hw hK;obtain ⟨f0,f1,f2,f3,f4,f5⟩:=hf it (by simp);exact wpAny_pyNext_range_end (I.ok.hd hc) st (by have:n<=i:=hg;omega) fun h' eb=>⟨rfl,I.turned (t':=s.toks) (fun b o hb e=>eb b o hb e) f0 f1 f3 f4 f5⟩
 self:=fun _ _ _ _ _ st h=>wpAny_pyIter_rangeiter st h
end L2
namespace L2
open PySem PySem.Spec PyProof.Rows
section
variable {X:Cx} {tg:Expr}
def iList(K:W.Frag)(tl:TE):TI:=fun σ H R=>tl σ H fun x H1=>∃a,x = .ref a/\(∃xs,SqL K H1 a xs)/\R (Itl K a) H1
theorem pi_list{l:Expr}{tl:TE}(hl:PE X l tl):PI X tg l (iList X.K tl):=by
 intro pins s σ H R I h;refine thn (hl pins s σ H _ I h) fun v s1 ⟨x,H1,I1,r1,q1⟩ => ?_;obtain ⟨a,e,⟨xs,hq⟩,q⟩:=q1;subst e
 cases r1
 obtain ⟨its,rv,p,hz⟩:=I1.list hq;refine wpAny_pyIter_list p.isList ?_;refine ⟨s1.heap.objs.size,[s1.heap.objs.size],_,_,H1,rfl,I1.kept (t':=s1.toks) fun b o e=>Heap.get?_push_of_some _ e,turn_list a _,⟨_,Heap.get?_push_size _ rfl,rfl,rfl⟩,fun b hb=> ?_,q⟩;have e:b=s1.heap.objs.size:=by simpa using hb
 subst e;exact I1.fpOk (Nat.le_refl _) (I1.hok.fresh (Nat.le_refl _))
theorem range_it {pins : List (Addr × Obj)} {σ : St} {H : Hp} {s : Shared} {R : It -> Hp -> Prop} {E : Value -> Shared -> Prop} {lo hi : Int} {t u v : Tok} {tk : Nat} (I : Inv X pins σ H s) (h1 : -(2 ^ 62) <= lo) (h2 : lo < 2 ^ 62) (h3 : -(2 ^ 62) <= hi) (h4 : hi < 2 ^ 62)
 (q:R (Itr lo (hi - lo).toNat) H):wpAny (model X.prog X.w) X.A (pyIter (.ref s.heap.objs.size)) (PIE X pins σ tg R) E { s with heap:=s.heap.push { cls:= .type "range",data:= .fields #[.int lo t, .int hi u, .int 1 v] },toks:=tk }:=by
 refine wpAny_pyIter_range (IsRange.new ..) (small_one h1 h2 h3 h4) ?_;have I1:Inv X pins σ H { s with heap:=s.heap.push { cls:= .type "range",data:= .fields #[.int lo t, .int hi u, .int 1 v] },toks:=tk }:=I.kept fun b o e=>Heap.get?_push_of_some _ e
 refine ⟨(s.heap.push { cls:= .type "range",data:= .fields #[.int lo t, .int hi u, .int 1 v] }).objs.size,[(s.heap.push { cls:= .type "range",data:= .fields #[.int lo t, .int hi u, .int 1 v] }).objs.size],_,_,H,rfl,
  I1.kept (t':=tk) fun b o e=>Heap.get?_push_of_some _ e,turn_range _ lo (hi - lo).toNat,?_,fun b hb=> ?_,q⟩
 . have e1:lo+((0:Nat):Int)*1=lo:=by simp
   have e2:(((hi - lo).toNat:Nat):Int) - ((0:Nat):Int)=Builtin.Range.rangeSize lo hi 1:=by rw [rangeSize_one];split <;> omega
   show IsRangeIter _ _ (lo+((0:Nat):Int)*1) ((((hi - lo).toNat:Nat):Int) - ((0:Nat):Int)) 1;rw [e1,e2];exact Heap.get?_push_size _ rfl
 . have e:b=(s.heap.push { cls:= .type "range",data:= .fields #[.int lo t, .int hi u, .int 1 v] }).objs.size:=by simpa using hb
   subst e;exact I1.fpOk (Nat.le_refl _) (I1.hok.fresh (Nat.le_refl _))
def iRng1(ta:TA):TI:=fun σ H R=>ta σ H fun vs H1=>∃j:Int,vs = [.int j] /\ -(2 ^ 62)<=j/\j<2 ^ 62/\R (Itr 0 j.toNat) H1
def iRng2(ta:TA):TI:=fun σ H R=>ta σ H fun vs H1=>∃i j:Int,vs = [.int i, .int j]/\(-(2 ^ 62)<=i/\i<2 ^ 62 /\ -(2 ^ 62)<=j/\j<2 ^ 62)/\R (Itr i (j - i).toNat) H1
theorem pi_range1 {a:Expr} {ta:TA} {p pos:Pos} (hg:Gl X "range") (hm:X.mg "range" = none) (ha:PA X [a] ta) (hs:starEach [a] X.env = [(false,eval a X.env)]:=by rfl):PI X tg (.Call (.Name "range" p) [a] [] pos) (iRng1 ta):=by
 intro pins s σ H R I h;refine Call_ (ld_blt I hg hm boot_range (PyProof.Rows.callWith_type1 (thn (ha pos pins s σ H _ I h) fun us s1 ⟨vs,H1,I1,r1,q1⟩ => ?_) hs rfl));obtain ⟨j,e,q1,q2,q⟩:=q1;subst e
 cases r1 with
 | cons r rr=>
  cases rr
  obtain ⟨t,rfl⟩:=r;exact call_range_1 (range_it I1 (by omega) (by omega) q1 q2 (by simpa using q))
theorem pi_range2 {a b : Expr} {ta : TA} {p pos : Pos} (hg : Gl X "range") (hm : X.mg "range" = none) (ha : PA X [a, b] ta) (hs : starEach [a, b] X.env = [(false, eval a X.env), (false, eval b X.env)] := by rfl) (hs2 : starEach [b] X.env = [(false, eval b X.env)] := by rfl) :
 PI X tg (.Call (.Name "range" p) [a,b] [] pos) (iRng2 ta):=by
 intro pins s σ H R I h;refine Call_ (ld_blt I hg hm boot_range (PyProof.Rows.callWith_type1 (thn (ha pos pins s σ H _ I h) fun us s1 ⟨vs,H1,I1,r1,q1⟩ => ?_) (by rw [hs,hs2]) (by rw [hs2];rfl)));obtain ⟨i,j,e,⟨q1,q2,q3,q4⟩,q⟩:=q1;subst e
 cases r1 with
 | cons r rr=>
  cases rr with
  | cons r' rr=>
   cases rr
   obtain ⟨t,rfl⟩:=r;obtain ⟨t',rfl⟩:=r';exact call_range_2 (range_it I1 q1 q2 q3 q4 q)
def tFor(wi:TI)(g:TG)(tb:TS):TS:=fun D σ H=>wi σ H fun J H1=>∃W:Nat->Nat->St->Hp->Prop,(∃m,W 0 m σ H1)/\∀i m σ H,W i m σ H ->
 (J.stop i H/\D.nx σ H)\/(J.go i H/\∃N:St->Hp->Prop,(∀σ' H',N σ' H'->∃m',m'<m/\W (i+1) m' σ' H')/\∀x H',J.yld i H x H'->g x σ H' fun σ2 H2=>tb { D with nx:=N,ct:=N,bk:=D.nx } σ2 H2)
def pinsAt(fp:List Addr)(h:Heap):List (Addr×Obj):=fp.filterMap fun b=>(h.get? b).map fun o=>(b,o)
theorem mem_pinsAt{fp:List Addr}{h:Heap}{b:Addr}{o:Obj}(hb:b ∈ fp)(e:h.get? b=some o):(b,o) ∈ pinsAt fp h:=List.mem_filterMap.mpr ⟨b,hb,by rw [e];rfl⟩
theorem of_pinsAt{fp:List Addr}{h:Heap}{p:Addr×Obj}(hp:p ∈ pinsAt fp h):p.1 ∈ fp/\h.get? p.1=some p.2:=by
 obtain ⟨b,hb,e⟩:=List.mem_filterMap.mp hp
 cases q:h.get? b with
 | none=>rw [q] at e;cases e
 | some o=>
  rw [q] at e
  have e':(b,o)=p:=Option.some.inj e;subst e';exact ⟨hb,q⟩
theorem Inv.pinned{pins:List (Addr×Obj)}{σ:St}{H:Hp}{s:Shared}{fp:List Addr}(I:Inv X pins σ H s)(hf:∀b ∈ fp,FpOk X pins H b)(ho:∀b ∈ fp,∃o,s.heap.get? b=some o/\∀v,o.data ≠ .cell v):Inv X (pins++pinsAt fp s.heap) σ H s:=
 I.pins_of fun p hp=>(List.mem_append.mp hp).elim (fun z=>I.pin p (List.mem_append_right _ z)) fun z=>by
  obtain ⟨hb,e⟩:=of_pinsAt z;obtain ⟨f0,f1,f2,_⟩:=hf p.1 hb;obtain ⟨o,e',d⟩:=ho p.1 hb;rw [e] at e';cases e'
  exact ⟨e,f0,f1,f2,d⟩
theorem Inv.unpinned{pins pl:List (Addr×Obj)}{σ:St}{H:Hp}{s:Shared}(I:Inv X (pins++pl) σ H s):Inv X pins σ H s:=I.pins_of fun p hp=>I.pin p (List.mem_append_right _ (List.mem_append_left _ hp))
theorem ps_for {iter : Expr} {body : List Stmt} {wi : TI} {g : TG} {tb : TS} {pos : Pos} (hp : PassesOwn (model X.prog X.w) X.A X.env X.xe) (hc : X.calm = true) (hi : PI X tg iter wi) (hg : PG X tg g) (hb : PSs X body tb)
 (hs:∀x,foldedSetIterable iter X.env x=pure x:=by intro _;rfl):PS X (.For tg iter body [] pos) (tFor wi g tb):=by
 intro pins s σ H D I h;refine wpAny_For (thn (hi pins s σ H _ I h) fun v s1 h1=>thn h1 fun itv s2 h2=> ?_) hs;obtain ⟨it,fp,tn,J,H2,e,I2,T,st2,f2,W,⟨m0,w0⟩,turn⟩:=h2;subst e;have stat:∀ {H':Hp},(∀b ∈ fp,H' b=none)->∀b ∈ fp,FpOk X pins H' b:=fun hn b hb=>⟨hn b hb,(f2 b hb).2⟩;refine codeAny_forLoop_any (fun n s'=>∃i σ' H',Inv X pins σ' H' s'/\tn i s'.heap/\(∀b ∈ fp,H' b=none)/\W i n σ' H') ?_ m0 ⟨0,σ,H2,I2,st2,fun b hb=>(f2 b hb).1,w0⟩;rintro n s3 ⟨i,σ3,H3,I3,st3,fr3,w3⟩;rcases turn i n σ3 H3 w3 with ⟨stop,qn⟩ | ⟨go,N,hN,step⟩
 . refine wpAny_passesOwn hp (thn (T.done X rfl rfl rfl hc i pins s3 σ3 H3 X.xe I3 (stat fr3) st3 stop) fun r s4 ⟨hr,I4⟩ => ?_);subst hr;exact wpAny_execs_nil ⟨σ3,H3,I4,qn⟩
 . refine wpAny_passesOwn hp (thn (T.item X rfl rfl rfl hc i pins s3 σ3 H3 X.xe I3 (stat fr3) st3 go) fun r s4 ⟨u,hr,h4⟩ => ?_);subst hr;refine wpAny_passesOwn hp (thn h4 fun _ s5 ⟨x,H5,I5,r5,y5,st5,fr5⟩ => ?_);have I5':=I5.pinned (stat fr5) (T.obj _ _ st5);refine wpAny_passesOwn hp (thn (hg _ s5 σ3 H5 x u _ I5' r5 (step x H5 y5)) fun _ s6 ⟨σ6,H6,I6,q6⟩ => ?_);refine wpAny_passesOwn hp (thn (hb _ s6 σ6 H6 _ I6 q6) fun f s7 q7=> ?_)
   have again:∀ {σ7:St} {H7:Hp},Inv X (pins++pinsAt fp s5.heap) σ7 H7 s7->N σ7 H7->∃m,m<n/\∃i σ' H',Inv X pins σ' H' s7/\tn i s7.heap/\(∀b ∈ fp,H' b=none)/\W i m σ' H':=fun {σ7 H7} I7 n7=>by
    obtain ⟨m',hm,w7⟩:=hN σ7 H7 n7;refine ⟨m',hm,i+1,σ7,H7,I7.unpinned,T.keep _ _ _ st5 fun b hb o e=>(I7.pin (b,o) (List.mem_append_right _ (List.mem_append_right _ (mem_pinsAt hb e)))).1,fun b hb=> ?_,w7⟩;obtain ⟨o,e,d⟩:=T.obj _ _ st5 b hb;exact (I7.pin (b,o) (List.mem_append_right _ (List.mem_append_right _ (mem_pinsAt hb e)))).2.1
   cases f with
   | next=>obtain ⟨σ7,H7,I7,n7⟩:=q7;exact again I7 n7
   | cont=>obtain ⟨σ7,H7,I7,n7⟩:=q7;exact again I7 n7
   | brk=>obtain ⟨σ7,H7,I7,q7⟩:=q7;exact ⟨σ7,H7,I7.unpinned,q7⟩
   | ret v=>obtain ⟨x7,σ7,H7,I7,r7,q7⟩:=q7;exact ⟨x7,σ7,H7,I7.unpinned,r7,q7⟩
end
end L2
namespace L2
open PySem PySem.Spec PyProof.Rows
abbrev R2:=V->V->Hp->VK->Prop
def OpR(X:Cx)(f:Value->Value->Sem Value)(r:R2):Prop:=
 ∀(pins:List (Addr×Obj)) (s:Shared) (σ:St) (H:Hp) (x y:V) (v u:Value) (Q:VK),Inv X pins σ H s->RelV x v->RelV y u->r x y H Q ->
   wpAny (model X.prog X.w) X.A (f v u) (EP X pins σ Q) X.xe s
def UnR(X:Cx)(f:Value->Sem Value)(r:V->Hp->VK->Prop):Prop:=
 ∀(pins:List (Addr×Obj)) (s:Shared) (σ:St) (H:Hp) (x:V) (v:Value) (Q:VK),Inv X pins σ H s->RelV x v->r x H Q ->
   wpAny (model X.prog X.w) X.A (f v) (EP X pins σ Q) X.xe s
def CallR(X:Cx)(f:Value)(r:List V->Hp->VK->Prop):Prop:=
 ∀(pins:List (Addr×Obj)) (s:Shared) (σ:St) (H:Hp) (xs:List V) (us:List Value) (Q:VK),Inv X pins σ H s->Vals xs us->r xs H Q ->
   wpAny (model X.prog X.w) X.A (call f us) (EP X pins σ Q) X.xe s
def tOp(r:R2)(ta tb:TE):TE:=fun σ H Q=>ta σ H fun x H1=>tb σ H1 fun y H2=>r x y H2 Q
def tUn(r:V->Hp->VK->Prop)(ta:TE):TE:=fun σ H Q=>ta σ H fun x H1=>r x H1 Q
def rI(C:Int->Int->Prop)(g:Int->Int->V):R2:=fun x y H Q=>∃i j,x = .int i/\y = .int j/\C i j/\Q (g i j) H
def rI0(g:Int->Int->V):R2:=fun x y H Q=>∃i j,x = .int i/\y = .int j/\Q (g i j) H
def rU(g:Int->V):V->Hp->VK->Prop:=fun x H Q=>∃i,x = .int i/\Q (g i) H
section
variable {X:Cx} {a b c:Expr} {ta tb tc:TE} {pos:Pos}
theorem binT (ha : PE X a ta) (hb : PE X b tb) {pins : List (Addr × Obj)} {s : Shared} {σ : St} {H : Hp} {R : V -> V -> Hp -> Prop} (I : Inv X pins σ H s)
 (h:ta σ H fun x H1=>tb σ H1 fun y H2=>R x y H2) {Q:Value->Shared->Prop} {f:Value->Value->Sem Value}
 (hf:∀v u s2 x y H2,Inv X pins σ H2 s2->RelV x v->RelV y u->R x y H2->wpAny (model X.prog X.w) X.A (f v u) Q X.xe s2) :
 wpAny (model X.prog X.w) X.A (eval a X.env) (fun v s₁=>wpAny (model X.prog X.w) X.A (eval b X.env) (fun u s₂=>wpAny (model X.prog X.w) X.A (f v u) Q X.xe s₂) X.xe s₁) X.xe s:=by
 refine thn (ha pins s σ H _ I h) fun v s1 ⟨x,H1,I1,r1,q1⟩ => ?_;refine thn (hb pins s1 σ H1 _ I1 q1) fun u s2 ⟨y,H2,I2,r2,q2⟩ => ?_;exact hf v u s2 x y H2 I2 r1 r2 q2
theorem pe_op{op:Operator}{r:R2}(ho:OpR X (binaryOp op) r)(ha:PE X a ta)(hb:PE X b tb):PE X (.BinOp a op b pos) (tOp r ta tb):=by
 intro pins s σ H Q I h;exact wpAny_BinOp (binT ha hb I h fun v u s2 x y H2 I2 rx ry q=>ho pins s2 σ H2 x y v u Q I2 rx ry q)
theorem pe_un{op:UnaryOp}{r:V->Hp->VK->Prop}(ho:UnR X (unaryOp op) r)(ha:PE X a ta):PE X (.UnaryOp op a pos) (tUn r ta):=by
 intro pins s σ H Q I h;exact UnaryOp_ (thn (ha pins s σ H _ I h) fun v s1 ⟨x,H1,I1,r1,q1⟩=>ho pins s1 σ H1 x v Q I1 r1 q1)
theorem opI {f : Value -> Value -> Sem Value} {C : Int -> Int -> Prop} {g : Int -> Int -> Int}
 (rule:∀(i j:Int) (t u:Tok) (s:Shared) (Q:Value->Shared->Prop) (E:Value->Shared->Prop),C i j->Q (.int (g i j) s.toks) { s with toks:=s.toks+1 }->wpAny (model X.prog X.w) X.A (f (.int i t) (.int j u)) Q E s) :
 OpR X f (rI C fun i j=> .int (g i j)):=by
 intro pins s σ H x y v u Q I rx ry h;obtain ⟨i,j,rfl,rfl,hc,q⟩:=h;obtain ⟨t,rfl⟩:=rx;obtain ⟨t',rfl⟩:=ry;exact rule i j t t' s _ _ hc ⟨.int (g i j),H,I.tok _,⟨_,rfl⟩,q⟩
theorem opI0 {f : Value -> Value -> Sem Value} {g : Int -> Int -> Int}
 (rule:∀(i j:Int) (t u:Tok) (s:Shared) (Q:Value->Shared->Prop) (E:Value->Shared->Prop),Q (.int (g i j) s.toks) { s with toks:=s.toks+1 }->wpAny (model X.prog X.w) X.A (f (.int i t) (.int j u)) Q E s) :
 OpR X f (rI0 fun i j=> .int (g i j)):=by
 intro pins s σ H x y v u Q I rx ry h;obtain ⟨i,j,rfl,rfl,q⟩:=h;obtain ⟨t,rfl⟩:=rx;obtain ⟨t',rfl⟩:=ry;exact rule i j t t' s _ _ ⟨.int (g i j),H,I.tok _,⟨_,rfl⟩,q⟩
theorem opB0 {f : Value -> Value -> Sem Value} {g : Int -> Int -> Bool}
 (rule:∀(i j:Int) (t u:Tok) (s:Shared) (Q:Value->Shared->Prop) (E:Value->Shared->Prop),Q (.bool (g i j)) s->wpAny (model X.prog X.w) X.A (f (.int i t) (.int j u)) Q E s) :
 OpR X f (rI0 fun i j=> .bl (g i j)):=by
 intro pins s σ H x y v u Q I rx ry h;obtain ⟨i,j,rfl,rfl,q⟩:=h;obtain ⟨t,rfl⟩:=rx;obtain ⟨t',rfl⟩:=ry;exact rule i j t t' s _ _ ⟨.bl (g i j),H,I,rfl,q⟩
def CPow(i j:Int):Prop:=0<=j/\j<=1000000/\i.natAbs<2 ^ 64
def CMul(i j:Int):Prop:=(-(2 ^ 64)<i/\i<2 ^ 64)\/(-(2 ^ 64)<j/\j<2 ^ 64)
theorem CMul.ok{i j:Int}(h:CMul i j):IntMulOk i j:=by
 rcases h with ⟨h1,h2⟩ | ⟨h1,h2⟩
 . exact .of_left (intBits_le_64 h1 h2)
 . exact .of_right (intBits_le_64 h1 h2)
theorem op_add:OpR X (binaryOp .Add) (rI0 fun i j=> .int (i+j)):=opI0 fun _ _ _ _ _ _ _ q=>add_int q
theorem op_sub:OpR X (binaryOp .Sub) (rI0 fun i j=> .int (i - j)):=opI0 fun _ _ _ _ _ _ _ q=>sub_int q
theorem op_modN:OpR X (binaryOp .Mod) (rI (fun _ j=>j≠0) fun i j=> .int (i.fmod j)):=opI fun _ _ _ _ _ _ _ hc q=>mod_int' hc q
theorem op_pow:OpR X (binaryOp .Pow) (rI CPow fun i j=> .int (i ^ j.toNat)):=opI fun _ _ _ _ _ _ _ hc q=>pow_int_small hc.1 hc.2.1 hc.2.2 q
theorem unI {f : Value -> Sem Value} {g : Int -> Int}
 (rule:∀(i:Int) (t:Tok) (s:Shared) (Q:Value->Shared->Prop) (E:Value->Shared->Prop),Q (.int (g i) s.toks) { s with toks:=s.toks+1 }->wpAny (model X.prog X.w) X.A (f (.int i t)) Q E s) :
 UnR X f (rU fun i=> .int (g i)):=by
 intro pins s σ H x v Q I rx h;obtain ⟨i,rfl,q⟩:=h;obtain ⟨t,rfl⟩:=rx;exact rule i t s _ _ ⟨.int (g i),H,I.tok _,⟨_,rfl⟩,q⟩
theorem un_neg:UnR X (unaryOp .USub) (rU fun i=> .int (-i)):=unI fun _ _ _ _ _ q=>neg_int q
end
section
variable {X:Cx} {a b c:Expr} {ta tb tc:TE} {pos:Pos}
theorem fin_bl{pins:List (Addr×Obj)}{σ:St}{H:Hp}{s:Shared}{Q:VK}{k k':Bool}(I:Inv X pins σ H s)(q:Q (.bl k) H)(e:k=k'):EP X pins σ Q (.bool k') s:=by
 subst e;exact ⟨.bl k,H,I,rfl,q⟩
theorem op_lt:OpR X (compareOp .Lt) (rI0 fun i j=> .bl (decide (i<j))):=opB0 fun _ _ _ _ _ _ _ q=>lt_int q
theorem op_isN:OpR X (compareOp .Is) (fun x y H Q=>y = .non/\Q (.bl (decide (x = .non))) H):=by
 intro pins s σ H x y v u Q I rx ry h;obtain ⟨rfl,q⟩:=h
 cases ry
 refine is_none_gen (fin_bl I q ?_)
 cases x <;> first
  | (cases rx;rfl)
  | (obtain ⟨t,rfl⟩:=rx;rfl)
theorem OpR.or{f:Value->Value->Sem Value}{r r':R2}(h:OpR X f r)(h':OpR X f r'):OpR X f (fun x y H Q=>r x y H Q\/r' x y H Q):=by
 intro pins s σ H x y v u Q I rx ry q;rcases q with q | q
 . exact h pins s σ H x y v u Q I rx ry q
 . exact h' pins s σ H x y v u Q I rx ry q
theorem nomark(b:Expr){op:CmpOp}(h:op ≠ .In:=by decide)(h2:op ≠ .NotIn:=by decide):behindInMarks op b=false:=by
 have e1:(op==CmpOp.In)=false:=by cases op <;> first | rfl | exact absurd rfl h
 have e2:(op==CmpOp.NotIn)=false:=by cases op <;> first | rfl | exact absurd rfl h2
 cases b <;> simp [behindInMarks,e1,e2]
theorem pe_cmpR{op:CmpOp}{r:R2}(ho:OpR X (compareOp op) r)(ha:PE X a ta)(hb:PE X b tb)(hm:behindInMarks op b=false):PE X (.Compare a [op] [b] pos) (tOp r ta tb):=by
 intro pins s σ H Q I h;exact wpAny_Compare1 (binT ha hb I h fun v u s2 x y H2 I2 rx ry q=>ho pins s2 σ H2 x y v u Q I2 rx ry q) hm
def tTest(t:TE):TT:=fun σ H Q=>t σ H fun x H'=>∃k,x = .bl k/\Q k H'
theorem pt_cmpR{op:CmpOp}{r:R2}(ho:OpR X (compareOp op) r)(ha:PE X a ta)(hb:PE X b tb)(hm:behindInMarks op b=false):PT X (.Compare a [op] [b] pos) (tTest (tOp r ta tb)):=by
 intro pins s σ H Q I h
 refine wpAny_isTrue_Compare1 (thn (ha pins s σ H _ I h) fun v s1 ⟨x,H1,I1,r1,q1⟩=>thn (hb pins s1 σ H1 _ I1 q1) fun u s2 ⟨y,H2,I2,r2,q2⟩ =>
  thn (ho pins s2 σ H2 x y v u _ I2 r1 r2 q2) fun c s3 ⟨z,H3,I3,r3,k,e,q3⟩ => ?_) hm
 subst e
 cases r3
 exact wpAny_truthy_bool ⟨H3,I3,q3⟩
theorem line63:(sizeLine:Nat)<2 ^ 63:=by rw [sizeLine_eq];decide
theorem op_add_str:OpR X (binaryOp .Add) (fun x y H Q=>∃i j,x = .str i/\y = .str j/\i.length+j.length<=sizeLine/\Q (.str (i++j)) H):=by
 intro pins s σ H x y v u Q I rx ry h;obtain ⟨i,j,rfl,rfl,hz,q⟩:=h;obtain ⟨t,rfl⟩:=rx;obtain ⟨t',rfl⟩:=ry;exact add_str (fun t' tk=>⟨.str (i++j),H,I.tok _,⟨_,rfl⟩,q⟩) hz
theorem vals1{x:V}{us:List Value}(r:Vals [x] us):∃u,us = [u]/\RelV x u:=by
 cases r with
 | cons r1 r2=>cases r2;exact ⟨_,rfl,r1⟩
theorem vals2{x y:V}{us:List Value}(r:Vals [x,y] us):∃u w',us = [u,w']/\RelV x u/\RelV y w':=by
 cases r with
 | cons r1 r2=>
  cases r2 with
  | cons r3 r4=>cases r4;exact ⟨_,_,rfl,r1,r3⟩
theorem call_abs:CallR X (.builtin "abs") (fun xs H Q=>∃i,xs = [.int i]/\Q (.int (if i<0 then -i else i)) H):=by
 intro pins s σ H xs us Q I r h;obtain ⟨i,rfl,q⟩:=h;obtain ⟨u,rfl,t,rfl⟩:=vals1 r;exact call_abs_int fun u tk=>⟨.int (if i<0 then -i else i),H,I.tok _,⟨_,rfl⟩,q⟩
theorem call_min2(hc:X.calm=true):CallR X (.builtin "min") (fun xs H Q=>∃i j,xs = [.int i, .int j]/\Q (.int (if j<i then j else i)) H):=by
 intro pins s σ H xs us Q I r h;obtain ⟨i,j,rfl,q⟩:=h;obtain ⟨u,w',rfl,⟨t,rfl⟩,⟨t',rfl⟩⟩:=vals2 r;refine min_two_ints (I.ok.hd hc) fun h' tk k=>⟨_,H,I.kept k,?_,q⟩
 by_cases hj:j<i
 . rw [if_pos hj,if_pos hj];exact ⟨_,rfl⟩
 . rw [if_neg hj,if_neg hj];exact ⟨_,rfl⟩
theorem call_int1:CallR X (.type "int") (fun xs H Q=>(∃i,xs = [.int i]/\Q (.int i) H)\/∃k,xs = [.bl k]/\Q (.int (if k then 1 else 0)) H):=by
 intro pins s σ H xs us Q I r h;rcases h with ⟨i,rfl,q⟩ | ⟨k,rfl,q⟩
 . obtain ⟨u,rfl,t,rfl⟩:=vals1 r;exact call_int_int ⟨.int i,H,I,⟨_,rfl⟩,q⟩
 . obtain ⟨u,rfl,r1⟩:=vals1 r
   cases r1
   exact call_int_bool ⟨.int (if k then 1 else 0),H,I.tok _,⟨_,rfl⟩,q⟩
end
end L2
namespace L2
open PySem PySem.Spec PyProof.Rows
structure ObjM (h:Heap) (x dx C:Addr) (mA:Str->Option Value):Prop where
 obj:h.get? x=some (W.instObj C dx)
 ns:h.Ns1 dx mA
 ne:dx≠x
theorem lookIn_ns{h:Heap}{dx:Addr}{mA:Str->Option Value}(n:h.Ns1 dx mA):∃od,h.get? dx=some od/\∀name,W.lookIn name od=some (mA name):=by
 obtain ⟨o,es,ep,ho,hd,hk,_,hm⟩:=n;refine ⟨o,ho,fun name=> ?_⟩;have e:=hm name;unfold nsFind findBy at e
 rw [<-Array.find?_toList] at e
 unfold W.lookIn;rw [hd]
 dsimp only
 split
 . rename_i y q;rw [q] at e
   exact congrArg some e
 . rename_i q;rw [q] at e
   have a:es.toList.any (·.refKey)=false:=by
    rw [List.any_eq_false];intro y hy;obtain ⟨z,t,hkey⟩:=hk y (Array.mem_toList_iff.mp hy);simp [DictEntry.refKey,hkey]
   have a':¬es.toList.any (·.refKey)=true:=by rw [a];exact Bool.false_ne_true
   rw [if_neg a'];exact congrArg some e
theorem ObjM.look{h:Heap}{x dx C:Addr}{mA:Str->Option Value}(I:ObjM h x dx C mA):∃od,W.InstAt h x (W.instObj C dx) C (some od)/\∀name,W.lookIn name od=some (mA name) :=
 let ⟨od,ho,hl⟩:=lookIn_ns I.ns
 ⟨od,⟨I.obj,rfl,rfl,ho⟩,hl⟩
section
variable {prog:Program} {w:World} {A:Around} {E:Value->Shared->Prop} {s:Shared} {K:W.Frag} {x dx C f:Addr} {mA:Str->Option Value} {name:Str} {v:Value}
theorem get_map {expr : Bool} {Q : Value -> Shared -> Prop} (X : K.In s.heap) (I : ObjM s.heap x dx C mA) (hg : W.plainGet K C name = true) (hh : W.hasDictIn K C = true)
 (ha:W.findIn K (.ref C) name=some none) (hv:mA name=some v) (hv':W.handedIn v=true) (h:Q v { s with toks:=s.toks+1 }) :
 wpAny (model prog w) A (getAttr (.ref x) name expr) Q E s:=by
 obtain ⟨od,J,hl⟩:=I.look;exact W.get_value X J (W.plainGet_of hg).1 (W.findObj_own hh ha rfl (by rw [hl,hv])) hv' h
theorem get_meth {pl : Sem Bool} {Q : Value × List Value -> Shared -> Prop} (X : K.In s.heap) (I : ObjM s.heap x dx C mA) (hg : W.plainGet K C name = true)
 (hf:W.findIn K (.ref C) name=some (some (.ref f))) (ht:W.isFn K (.ref f)=true) (hv:mA name=none) (h:Q (.ref f,[.ref x]) s) :
 wpAny (model prog w) A (getMethod (.ref x) name pl) Q E s:=by
 obtain ⟨od,J,hl⟩:=I.look;exact W.method_fn X J (W.plainGet_of hg).1 (W.plainGet_of hg).2 hf (beq_iff_eq.mp ht) (by show (W.lookIn name od).map (·.isSome)=some false;rw [hl,hv];rfl) h
theorem set_map {ns : List Str} {Q : Unit -> Shared -> Prop} (X : K.In s.heap) (I : ObjM s.heap x dx C mA)
 (hs:W.findIn K (.ref C) "__setattr__" = some (some (.builtin "object.__setattr__"))) (hp:W.plainOver K C=true) (ht:W.takerIn K C name=some none) (hh:W.hasDictIn K C=true)
 (hw:PySem.Within mA ns) (hsz:ns.length<=sizeLine)
 (h:∀h',ObjM h' x dx C (fun y=>if y=name then some v else mA y)->Heap.SameBut dx s.heap h'->Q () { s with heap:=h',toks:=s.toks+2 }) :
 wpAny (model prog w) A (setAttr (.ref x) name v) Q E s:=by
 obtain ⟨od,J,hl⟩:=I.look;refine W.set_plain X J hs (W.osa_open (s:={ s with toks:=s.toks+1 }) (r:=none) X J hp ht fun b=> ?_);obtain ⟨cd,hc,hd'⟩:=W.any_some hh;have hx:s.heap.get? x=some ⟨.ref C,some dx, .plain, #[]⟩:=I.obj;refine wpAny_bind (wpAny_pure (wpAny_bind (wpAny_bind (wpAny_loadPart hx (wpAny_bind (W.Looks.here (s:={ s with toks:=s.toks+1 }) (W.looks_clsIn X hc) ?_))))));rw [hd'];refine wpAny_pure (a:=some dx) (wpAny_bind (wpAny_pure (wpAny_bind ?_)));refine wpAny_nsSet1 (s:={ s with toks:=s.toks+1 }) I.ns fun h' hn2 hs2=> ?_;obtain ⟨oD,esD,epD,hoD,hdD,hcD⟩:=hn2.count (PySem.Within.cons name v hw);refine wpAny_bind (wpAny_lookBehind hoD (by rw [hdD];exact pastItsLine_dict (Nat.le_trans hcD (by rw [List.length_cons];omega))) ?_);exact wpAny_pure (h _ ⟨(hs2.2 _ (Ne.symm I.ne)).trans I.obj,hn2,I.ne⟩ hs2)
theorem make_map {R : Result -> Shared -> Prop} {vs : List Value} {kw : List (Str × Value)} (X : K.In s.heap) (hm : W.makesIn K C = true)
 (hi:W.findIn K (.ref C) "__init__" = some (some (.ref f))) (hf:W.typeIn K (.ref f)=some (.type "function"))
 (h:codeAny (model prog w) (A.under (.builtin "type.__call__" ⟨.ref C::vs,kw⟩)) (.call (.ref f) ⟨.ref (s.heap.objs.size+1)::vs,kw⟩) (W.InitBack (s.heap.objs.size+1) R)
  { s with heap:=(s.heap.push W.emptyDict).push (W.instObj C s.heap.objs.size) }) :
 codeAny (model prog w) A (.call (.ref C) ⟨vs,kw⟩) R s:=by
 obtain ⟨hh,g,d,t,os⟩:=s;exact W.make_core (W.makes_of X hm) (W.looks_findIn X hi) (fun self=>W.bind_fn X self hf) (.inl rfl) h
end
def putF(f:Str)(v:V):List (Str×V)->List (Str×V)
 | []=> [(f,v)]
 | (g,x)::r=>if g=f then (g,v)::r else (g,x)::putF f v r
theorem lookup_putF(f g:Str)(v:V):∀fs:List (Str×V),(putF f v fs).lookup g=if g=f then some v else fs.lookup g
 | []=>by
  show List.lookup g [(f,v)]=_
  by_cases h:g=f
  . have hb:(g==f)=true:=beq_iff_eq.mpr h;simp only [List.lookup,hb,if_pos h]
  . have hb:(g==f)=false:=beq_eq_false_iff_ne.mpr h
    simp only [List.lookup,hb,if_neg h]
 | (k,x)::r=>by
  have ih:=lookup_putF f g v r;rw [show putF f v ((k,x)::r)=(if k=f then (k,v)::r else (k,x)::putF f v r) from rfl]
  by_cases hk:k=f
  . rw [if_pos hk]
    by_cases h:g=k
    . have hb:(g==k)=true:=beq_iff_eq.mpr h;simp only [List.lookup,hb,if_pos (h.trans hk)]
    . have hb:(g==k)=false:=beq_eq_false_iff_ne.mpr h;simp only [List.lookup,hb,if_neg (fun e:g=f=>h (e.trans hk.symm))]
  . rw [if_neg hk]
    by_cases h:g=k
    . have hb:(g==k)=true:=beq_iff_eq.mpr h;simp only [List.lookup,hb,if_neg (fun e:g=f=>hk (h.symm.trans e))]
    . have hb:(g==k)=false:=beq_eq_false_iff_ne.mpr h;simp only [List.lookup,hb];exact ih
theorem keys_putF(f:Str)(v:V):∀fs:List (Str×V),f ∈ (putF f v fs).map (·.1)/\∀g,g ∈ fs.map (·.1)->g ∈ (putF f v fs).map (·.1)
 | []=>⟨by simp [putF],fun g h=>by simp at h⟩
 | (k,x)::r=>by
  obtain ⟨i1,i2⟩:=keys_putF f v r;rw [show putF f v ((k,x)::r)=(if k=f then (k,v)::r else (k,x)::putF f v r) from rfl]
  by_cases hk:k=f
  . rw [if_pos hk];subst hk;exact ⟨by simp,fun g h=>by simpa using h⟩
  . rw [if_neg hk];refine ⟨?_,fun g h=> ?_⟩
    . rw [List.map_cons];exact List.mem_cons_of_mem _ i1
    . rw [List.map_cons] at h ⊢
      rcases List.mem_cons.mp h with e | e
      . exact List.mem_cons.mpr (.inl e)
      . exact List.mem_cons_of_mem _ (i2 g e)
theorem length_putF(f:Str)(v:V):∀fs:List (Str×V),(putF f v fs).length<=fs.length+1
 | []=>by simp [putF]
 | (k,x)::r=>by
  have ih:=length_putF f v r;rw [show putF f v ((k,x)::r)=(if k=f then (k,v)::r else (k,x)::putF f v r) from rfl]
  by_cases hk:k=f
  . rw [if_pos hk,List.length_cons,List.length_cons];omega
  . rw [if_neg hk,List.length_cons,List.length_cons];omega
theorem RelO.some_of{v:V}{o:Option Value}(r:RelO (some v) o):∃u,o=some u/\RelV v u:=by
 cases o with
 | none=>exact (show False from r).elim
 | some u=>exact ⟨u,rfl,r⟩
theorem RelO.none_of{o:Option Value}(r:RelO none o):o=none:=by
 cases o with
 | none=>rfl
 | some u=>exact (show False from r).elim
theorem handed_of{v:V}{u:Value}(r:RelV v u):W.handedIn u=true:=by
 cases v with
 | non=>cases (show u=Value.none from r);rfl
 | bl b=>cases (show u=Value.bool b from r);rfl
 | int i=>obtain ⟨t,e⟩:=(show ∃t,u=Value.int i t from r);cases e;rfl
 | str x=>obtain ⟨t,e⟩:=(show ∃t,u=Value.str x t from r);cases e;rfl
 | byt b=>obtain ⟨t,e⟩:=(show ∃t,u=Value.bytes b t from r);cases e;rfl
 | flt b=>obtain ⟨t,e⟩:=(show ∃t,u=Value.float b t from r);cases e;rfl
 | ref a=>cases (show u=Value.ref a from r);rfl
 | ty n=>cases (show u=Value.type n from r);rfl
section
variable {P:Program} {w:World} {H H':Hp} {h h':Heap} {a C dx:Addr} {fs fs':List (Str×V)}
theorem ins_get(hok:HOk P w H h)(e:H a=some (.ins C dx fs)):∃mA,ObjM h a dx C mA/\(∀f,RelO (fs.lookup f) (mA f))/\PySem.Within mA (fs.map (·.1))/\fs.length<=1000/\H dx=some (.own a):=by
 obtain ⟨d,z,ne,ob,mA,n,r,q⟩:=(show ObjOk P w H h a (.ins C dx fs) from hok a _ e);exact ⟨mA,⟨ob,n,ne⟩,r,q,z,d⟩
end
structure Cls (K:W.Frag) (C:Addr):Prop where
 pg:W.plainGet K C Str.empty=true
 hd:W.hasDictIn K C=true
 po:W.plainOver K C=true
 sa:W.findIn K (.ref C) "__setattr__" = some (some (.builtin "object.__setattr__"))
theorem Cls.get{K:W.Frag}{C:Addr}(c:Cls K C)(f:Str):W.plainGet K C f=true:=c.pg
def NoAttr(K:W.Frag)(C:Addr)(f:Str):Prop:=W.findIn K (.ref C) f=some none
theorem NoAttr.taker{K:W.Frag}{C:Addr}{f:Str}(n:NoAttr K C f):W.takerIn K C f=some none:=by
 unfold W.takerIn;rw [show W.findIn K (.ref C) f=some none from n];rfl
structure Con (K:W.Frag) (C:Addr) (f:Str) (v:V) (u:Value):Prop where
 at_:W.findIn K (.ref C) f=some (some u)
 rel:RelV v u
 get:W.specialIn K u "__get__" = some none
 cp:W.copiedNames.contains f=false
structure Meth (K:W.Frag) (C:Addr) (m:Str) (f:Addr):Prop where
 at_:W.findIn K (.ref C) m=some (some (.ref f))
 fn:W.isFn K (.ref f)=true
 kp:W.keepIn K (.ref f)=true
section
variable {X:Cx} {pins:List (Addr×Obj)} {σ:St} {H:Hp} {s:Shared} {a C dx:Addr} {fs:List (Str×V)} {f:Str} {v:V} {A:Around} {E:Value->Shared->Prop}
theorem getattr_ok {b : Bool} {Q : Value -> Shared -> Prop} (I : Inv X pins σ H s) (e : H a = some (.ins C dx fs)) (c : Cls X.K C) (n : NoAttr X.K C f) (l : fs.lookup f = some v)
 (h:∀u s',Inv X pins σ H s'->RelV v u->Q u s'):wpAny (model X.prog X.w) A (getAttr (.ref a) f b) Q E s:=by
 obtain ⟨mA,O,r,_,_,_⟩:=ins_get I.hok e;obtain ⟨u,hu,ru⟩:=RelO.some_of (v:=v) (o:=mA f) (by rw [<-l];exact r f);exact get_map I.kIn O (c.get f) c.hd n hu (handed_of ru) (h u _ (I.tok _) ru)
theorem getmeth_ok {m : Str} {g : Addr} {pl : Sem Bool} {Q : Value × List Value -> Shared -> Prop} (I : Inv X pins σ H s) (e : H a = some (.ins C dx fs)) (c : Cls X.K C) (k : Meth X.K C m g) (l : fs.lookup m = none)
 (h:Q (.ref g,[.ref a]) s):wpAny (model X.prog X.w) A (getMethod (.ref a) m pl) Q E s:=by
 obtain ⟨mA,O,r,_,_,_⟩:=ins_get I.hok e;have hn:mA m=none:=RelO.none_of (by rw [<-l];exact r m);exact get_meth I.kIn O (c.get m) k.at_ k.fn hn h
theorem setattr_ok {y : V} {u : Value} {Q : Unit -> Shared -> Prop} (I : Inv X pins σ H s) (e : H a = some (.ins C dx fs)) (c : Cls X.K C) (n : NoAttr X.K C f) (hl : fs.length < 1000) (ry : RelV y u)
 (h:∀s',Inv X pins σ (upd H a (.ins C dx (putF f y fs))) s'->Q () s'):wpAny (model X.prog X.w) A (setAttr (.ref a) f u) Q E s:=by
 obtain ⟨mA,O,r,wi,_,ho⟩:=ins_get I.hok e;have hz:(fs.map (·.1)).length<=sizeLine:=by rw [List.length_map,sizeLine_eq];omega
 refine set_map I.kIn O c.sa c.po n.taker c.hd wi hz fun h' O' sb=>h _ ?_;have hd:∃o,h'.get? dx=some o:=let ⟨o,_,_,e',_⟩:=O'.ns;⟨o,e'⟩;refine I.write (x:=a) (e:=dx) (by rw [e];exact True.intro) (.inr ho) (fun b q hb z=>(sb.2 b hb).trans z) hd ?_;refine ⟨by rw [upd_ne O.ne];exact ho,?_,O.ne,O'.obj,_,O'.ns,fun g=> ?_,fun g hg=> ?_⟩
 . have:=length_putF f y fs;omega
 . show RelO ((putF f y fs).lookup g) (if g=f then some u else mA g);rw [lookup_putF]
   by_cases q:g=f
   . rw [if_pos q,if_pos q];exact ry
   . rw [if_neg q,if_neg q];exact r g
 . by_cases q:g=f
   . rw [q];exact (keys_putF f y fs).1
   . refine (keys_putF f y fs).2 g (wi g fun z=>hg ?_);show (if g=f then some u else mA g)=none;rw [if_neg q];exact z
theorem Inv.made (I : Inv X pins σ H s) : Inv X pins σ (upd (upd H s.heap.objs.size (.own (s.heap.objs.size + 1))) (s.heap.objs.size + 1) (.ins C s.heap.objs.size []))
 { s with heap:=(s.heap.push W.emptyDict).push (W.instObj C s.heap.objs.size) }:=by
 have e1:(s.heap.push W.emptyDict).get? s.heap.objs.size=some W.emptyDict:=Heap.get?_push_size s.heap rfl
 have e2:((s.heap.push W.emptyDict).push (W.instObj C s.heap.objs.size)).get? (s.heap.objs.size+1)=some (W.instObj C s.heap.objs.size):=by
  have:=Heap.get?_push_size (s.heap.push W.emptyDict) (o:=W.instObj C s.heap.objs.size) rfl
  rwa [Heap.size_push] at this
 have e3:(s.heap.push W.emptyDict).Ns s.heap.objs.size (fun _=>none):=⟨W.emptyDict, #[],_,e1,rfl,(fun e he=>absurd he (by simp)),fun _=>rfl⟩;have I1:=I.laid (a:=s.heap.objs.size) (o:= .own (s.heap.objs.size+1)) (h':=s.heap.push W.emptyDict) (t':=s.toks) (fun b u q=>Heap.get?_push_of_some _ q) (Nat.le_refl _) ⟨_,e1⟩;refine I1.laid (a:=s.heap.objs.size+1) (o:= .ins C s.heap.objs.size []) (t':=s.toks) (fun b u q=>Heap.get?_push_of_some _ q) (Nat.le_of_eq (Heap.size_push _ _)) ?_;have ne:s.heap.objs.size≠s.heap.objs.size+1:=Nat.ne_of_lt (Nat.lt_succ_self _);refine ⟨by rw [upd_ne ne,upd_same],Nat.zero_le _,ne,e2,fun _=>none,(Heap.Ns1.of_empty e3).at fun o q=>Heap.get?_push_of_some _ q,fun _=>True.intro,fun y hy=>absurd rfl hy⟩
theorem attr_of {prog : Program} {w : World} {env : Env} {e : Expr} {f : Str} {pos : Pos} {s : Shared} {Q : Value -> Shared -> Prop} (hb : attributeBase e f env (eval e env) = eval e env)
 (h:wpAny (model prog w) A (eval e env) (fun o s₁=>wpAny (model prog w) A (getAttr o f true) Q E s₁) E s):wpAny (model prog w) A (eval (.Attribute e f pos) env) Q E s:=
 Attribute_any_ h (by rw [arm_eval_Attribute,hb])
end
def tFld(K:W.Frag)(ta:TE)(f:Str):TE:=fun σ H Q=>ta σ H fun x H1=>∃a C dx fs v,x = .ref a/\H1 a=some (.ins C dx fs)/\Cls K C/\NoAttr K C f/\fs.lookup f=some v/\Q v H1
def sFld(K:W.Frag)(ta tv:TE)(f:Str):TS:=fun D σ H=>tv σ H fun y H1=>ta σ H1 fun x H2=>∃a C dx fs,x = .ref a/\H2 a=some (.ins C dx fs)/\Cls K C/\NoAttr K C f/\fs.length<1000 /\
 D.nx σ (upd H2 a (.ins C dx (putF f y fs)))
section
variable {X:Cx} {o e value:Expr} {f:Str} {pos pos' tpos:Pos} {ta tv:TE}
theorem pe_fld(he:PE X e ta)(hb:attributeBase e f X.env (eval e X.env)=eval e X.env):PE X (.Attribute e f pos) (tFld X.K ta f):=by
 intro pins s σ H Q I h;refine attr_of hb (thn (he pins s σ H _ I h) fun u s1 ⟨x,H1,I1,rx,a,C,dx,fs,v,ex,ea,c,n,l,q⟩ => ?_);subst ex;obtain rfl:u=Value.ref a:=rx;exact getattr_ok I1 ea c n l fun u' s2 I2 ru=>⟨v,H1,I2,ru,q⟩
theorem ps_fld(ha:PE X o ta)(hv:PE X value tv)(hs:swapsWith value (some (.Attribute o f pos')) pos.line X.env=pure false):PS X (.Assign [.Attribute o f pos'] value pos) (sFld X.K ta tv f):=by
 intro pins s σ H D I h;refine plainObj_wpAny_Assign_Attribute (thn (hv pins s σ H _ I h) fun u s1 ⟨y,H1,I1,ry,q⟩=>thn (ha pins s1 σ H1 _ I1 q) fun ov s2 ⟨x,H2,I2,rx,a,C,dx,fs,ex,ea,c,n,l,q2⟩ => ?_) hs;subst ex;obtain rfl:ov=Value.ref a:=rx;exact setattr_ok I2 ea c n l ry fun s3 I3=>⟨σ,_,I3,q2⟩
end
section
variable {X:Cx} {pins:List (Addr×Obj)} {σ:St} {H:Hp} {s:Shared} {A:Around} {E:Value->Shared->Prop} {Q:Value->Shared->Prop} {c:Value} {b:Bool}
inductive TyOf (K:W.Frag) (H:Hp):V->Value->Prop where
 | non:TyOf K H .non (.type "NoneType")
 | bl (x:Bool):TyOf K H (.bl x) (.type "bool")
 | int (i:Int):TyOf K H (.int i) (.type "int")
 | str (x:Str):TyOf K H (.str x) (.type "str")
 | flt (x:UInt64):TyOf K H (.flt x) (.type "float")
 | lst {a:Addr} {xs:List V} (e:H a=some (.lst xs)):TyOf K H (.ref a) (.type "list")
 | frz {a:Addr} {o:Obj} {xs:List V} (e:H a=some (.frz o (.lst xs))):TyOf K H (.ref a) (.type "list")
 | tup {a:Addr} {xs:List V} (e:H a=some (.tup xs)):TyOf K H (.ref a) (.type "tuple")
 | dK {a:Addr} {kvs:List (Key×V)} (e:H a=some (.dK kvs)):TyOf K H (.ref a) (.type "dict")
 | dT {a:Addr} {kvs:List (List Key×V)} (e:H a=some (.dT kvs)):TyOf K H (.ref a) (.type "dict")
 | ins {a C dx : Addr} {fs : List (Str × V)} (e : H a = some (.ins C dx fs)) (cl : Cls K C) (ha : W.findIn K (.ref C) "__class__" = some (some (.builtin "object.__class__")))
  (hn:W.specialIn K (.builtin "object.__class__") "__get__" = some (some (.builtin "getset_descriptor.__get__"))) (htk:W.takesIn K (.builtin "object.__class__")=some true)
  (hm:W.mroIn K C (.type "object")=some true):TyOf K H (.ref a) (.ref C)
end
end L2
namespace L2
open PySem PySem.Spec PyProof.Rows
structure Room (k:Nat) (A:Around):Prop where
 hd:A.handled=none
 dp:A.depth+3*k+5<recursionLimit
 un:A.units+16*k+200<cLine
theorem Room.mono{j k:Nat}{A:Around}(r:Room k A)(h:j<=k):Room j A:=⟨r.hd,by have:=r.dp;omega,by have:=r.un;omega⟩
theorem Room.deeper{k:Nat}{A:Around}(r:Room (k+1) A)(env:Env):Room k (A.deeper env) :=
 ⟨r.hd,by have:=r.dp;show A.depth+1+3*k+5<_;omega,by have:=r.un;show A.units+3+16*k+200<_;omega⟩
theorem Room.in1{k:Nat}{A:Around}(r:Room (k+1) A):Room k A.in1:=
 ⟨r.hd,by have:=r.dp;show A.depth+3*k+5<_;omega,by have:=r.un;show A.units+1+16*k+200<_;omega⟩
theorem make_depth{A:Around}{C:Addr}{us:List Value}{kw:List (Str×Value)}:(A.under (.builtin "type.__call__" ⟨.ref C::us,kw⟩)).depth=A.depth+1:=by
 first | rfl | simp [Around.under,Code.weight,Code.isCreation,Code.isGuard,Code.isCaller,Code.frames,Code.isFrame,guardIds]
theorem make_units{A:Around}{C:Addr}{us:List Value}{kw:List (Str×Value)}:(A.under (.builtin "type.__call__" ⟨.ref C::us,kw⟩)).units=A.units+1:=by
 first | rfl | simp [Around.under,Code.cUnits,Code.frames,Code.isFrame]
theorem Room.make{k:Nat}{A:Around}(r:Room (k+1) A)(C:Addr)(us:List Value)(kw:List (Str×Value)):Room k (A.under (.builtin "type.__call__" ⟨.ref C::us,kw⟩)) :=
 ⟨r.hd,by have:=r.dp;rw [make_depth];omega,by have:=r.un;rw [make_units];omega⟩
theorem Room.depth{k:Nat}{A:Around}(r:Room k A):A.depth<recursionLimit:=by have:=r.dp;omega
theorem Room.units{k:Nat}{A:Around}(r:Room k A):A.units+64<cLine:=by have:=r.un;omega
def tNil:TA:=fun _ H Q=>Q [] H
def tCons(ta:TE)(tr:TA):TA:=fun σ H Q=>ta σ H fun x H1=>tr σ H1 fun xs H2=>Q (x::xs) H2
section
variable {X:Cx} {e:Expr} {es:List Expr} {te:TE} {t:TA} {pos:Pos}
theorem pa_nil:PA X [] tNil:=fun _ _ _ _ H Q I h=>Calls.spliced_nil ⟨[],H,I, .nil,h⟩
theorem pa_cons(ha:PE X e te)(hr:PA X es t)(hs:starEach (e::es) X.env=(false,eval e X.env)::starEach es X.env:=by rfl):PA X (e::es) (tCons te t):=by
 intro pos pins s σ H Q I h;rw [hs];show wpAny _ _ (spliced ((false,eval e X.env)::backTo pos (starEach es X.env))) _ _ s;refine Calls.spliced_cons (thn (ha pins s σ H _ I h) fun u s1 ⟨x,H1,I1,r1,q1⟩ => ?_);exact thn (hr pos pins s1 σ H1 _ I1 q1) fun us s2 ⟨xs,H2,I2,r2,q2⟩=>⟨x::xs,H2,I2, .cons r1 r2,q2⟩
def tTup(t:TA):TE:=fun σ H Q=>t σ H fun xs H1=>xs.length<=sizeLine/\∀p,H1 p=none->Q (.ref p) (upd H1 p (.tup xs))
def tLst(t:TA):TE:=fun σ H Q=>t σ H fun xs H1=>xs.length<=sizeLine/\∀p,H1 p=none->Q (.ref p) (upd H1 p (.lst xs))
theorem pe_tup{x1}(h:PA X es t):PE X (.Tuple es x1 pos) (tTup t):=by
 intro pins s σ H Q I hq;refine wpAny_Tuple_spliced (thn (h pos pins s σ H _ I hq) fun us s1 ⟨xs,H1,I1,r,z,q⟩=>⟨by rw [<-r.length];exact z,?_⟩);have hf:H1 s1.heap.objs.size=none:=I1.hok.fresh (Nat.le_refl _);refine ⟨.ref s1.heap.objs.size,upd H1 s1.heap.objs.size (.tup xs),I1.laid (t':=s1.toks) (fun b u e=>Heap.get?_push_of_some _ e) (Nat.le_refl _) ?_,rfl,q _ hf⟩;exact ⟨z,us,r,⟨_,Heap.get?_push_size _ rfl,rfl,_,rfl⟩⟩
theorem pe_lst(h:PA X es t):PE X (.List es pos) (tLst t):=by
 intro pins s σ H Q I hq;refine wpAny_List_spliced (thn (h pos pins s σ H _ I hq) fun us s1 ⟨xs,H1,I1,r,z,q⟩=>⟨by rw [<-r.length];exact z,?_⟩);have hf:H1 s1.heap.objs.size=none:=I1.hok.fresh (Nat.le_refl _);refine ⟨.ref s1.heap.objs.size,upd H1 s1.heap.objs.size (.lst xs),I1.laid (t':=s1.toks) (fun b u e=>Heap.get?_push_of_some _ e) (Nat.le_refl _) ?_,rfl,q _ hf⟩;exact ⟨z,us,0,r,Heap.get?_push_size _ rfl⟩
end
abbrev Sp:=List V->Hp->VK->XK->Prop
abbrev CXT:=List Env->Hp->Shared->XK->Value->Shared->Prop
structure Env0 (P:Program) (w:World) (K:W.Frag) (mg:Str->Option Value) (base:Heap) (A:Around) (outer:List Env) (s:Shared) (H:Hp):Prop where
 frames:A.frames=some outer
 mod:Mod K mg base
 bs:∀b o,base.get? b=some o->s.heap.get? b=some o/\H b=none
 bsz:base.objs.size<=s.heap.objs.size
 funs:s.heap.FunFrames base outer
 frf:∀b ∈ frs outer,H b=none
 hok:HOk P w H s.heap
 bare:AllBare s.gens
def CE(outer:List Env)(P:Program)(w:World)(H:Hp)(s:Shared)(Q:VK)(u:Value)(s':Shared):Prop:=
 ∃v H',s'.os=s.os/\AllBare s'.gens/\Un (frs outer) [] H H' s.heap s'.heap/\HOk P w H' s'.heap/\RelV v u/\Q v H'
def CR(CX:CXT)(outer:List Env)(P:Program)(w:World)(H:Hp)(s:Shared)(Q:VK)(E:XK)(r:Result)(s':Shared):Prop:=
 match r with
 | .ok (.ret u)=>CE outer P w H s Q u s'
 | .ok _=>False
 | .error e=>CX outer H s E e s'
structure FnOk (P:Program) (w:World) (K:W.Frag) (mg:Str->Option Value) (base:Heap) (CX:CXT) (k:Nat) (f:Addr) (fd:FuncData) (ps:List Str) (sp:Sp):Prop where
 len:∀vs H Q E,sp vs H Q E->vs.length=ps.length
 run:∀(A:Around) (outer:List Env) (s:Shared) (H:Hp) (args:Args) (us:List Value) (vs:List V) (Q:VK) (E:XK),Room k A->Env0 P w K mg base A outer s H->BindsTo s fd args (ps.zip us)->Vals vs us->sp vs H Q E ->
  codeAny (model P w) A (.call (.ref f) args) (CR CX outer P w H s Q E) s
theorem FnOk.mono {P : Program} {w : World} {K : W.Frag} {mg : Str -> Option Value} {base : Heap} {CX : CXT} {j k : Nat} {f : Addr} {fd : FuncData} {ps : List Str} {sp : Sp} (F : FnOk P w K mg base CX j f fd ps sp) (h : j <= k) :
 FnOk P w K mg base CX k f fd ps sp:=⟨F.len,fun A outer s H args us vs Q E hr=>F.run A outer s H args us vs Q E (hr.mono h)⟩
theorem FnOk.imp {P : Program} {w : World} {K : W.Frag} {mg : Str -> Option Value} {base : Heap} {CX : CXT} {k : Nat} {f : Addr} {fd : FuncData} {ps : List Str} {sp sp' : Sp} (F : FnOk P w K mg base CX k f fd ps sp)
 (h:∀vs H Q E,sp' vs H Q E->sp vs H Q E):FnOk P w K mg base CX k f fd ps sp' :=
 ⟨fun vs H Q E q=>F.len vs H Q E (h _ _ _ _ q),fun A outer s H args us vs Q E hr he hb hv hs=>F.run A outer s H args us vs Q E hr he hb hv (h _ _ _ _ hs)⟩
theorem Env0.make {P : Program} {w : World} {K : W.Frag} {mg : Str -> Option Value} {base : Heap} {A : Around} {outer : List Env} {s : Shared} {H : Hp} (e : Env0 P w K mg base A outer s H) (C : Addr) (us : List Value) (kw : List (Str × Value)) :
 Env0 P w K mg base (A.under (.builtin "type.__call__" ⟨.ref C::us,kw⟩)) outer s H:=⟨by first | exact e.frames | (simpa [Around.under,Code.envs,Code.isFrame,pushEnvs] using e.frames),e.mod,e.bs,e.bsz,e.funs,e.frf,e.hok,e.bare⟩
theorem Env0.in1 {P : Program} {w : World} {K : W.Frag} {mg : Str -> Option Value} {base : Heap} {A : Around} {outer : List Env} {s : Shared} {H : Hp} (e : Env0 P w K mg base A outer s H) :
 Env0 P w K mg base A.in1 outer s H:=⟨e.frames,e.mod,e.bs,e.bsz,e.funs,e.frf,e.hok,e.bare⟩
section
variable {X:Cx} {pins:List (Addr×Obj)} {σ:St} {H:Hp} {s s':Shared}
theorem Inv.env0(I:Inv X pins σ H s):Env0 X.prog X.w X.K X.mg X.base X.A X.stack s H:=
 ⟨I.ok.frames,I.ok.mod,I.bs,Nat.le_trans I.ok.bsz I.sz,I.stack,I.stkFree,I.hok,I.bare⟩
theorem Inv.after{Q:VK}{u:Value}(I:Inv X pins σ H s)(h:CE X.stack X.prog X.w H s Q u s'):EP X pins σ Q u s':=by
 obtain ⟨v,H',os,bare,un,hok,r,q⟩:=h;obtain ⟨hh,g,d,t,os'⟩:=s';obtain rfl:os'=s.os:=os;exact ⟨v,H',I.call (h':=hh) (g':=g) (d':=d) (t':=t) (ch:= []) un hok bare (fun b z=>absurd z (by simp)),r,q⟩
end
def tCall(sp:Sp)(dvs:List V)(E:XK)(t:TA):TE:=fun σ H Q=>t σ H fun vs H1=>sp (vs++dvs) H1 Q E
def tMeth(C:Addr)(m:Str)(sp:Sp)(dvs:List V)(E:XK)(ta:TE)(t:TA):TE:=fun σ H Q=>ta σ H fun x H1=>∃a dx fs,x = .ref a/\H1 a=some (.ins C dx fs)/\fs.lookup m=none /\
 t σ H1 fun vs H2=>sp (x::(vs++dvs)) H2 Q E
def tMake(C:Addr)(sp:Sp)(dvs:List V)(E:XK)(t:TA):TE:=fun σ H Q=>t σ H fun vs H1=>∀x dx,H1 x=none->H1 dx=none->dx≠x ->
 sp (.ref x::(vs++dvs)) (upd (upd H1 dx (.own x)) x (.ins C dx [])) (fun v H2=>v = .non/\Q (.ref x) H2) E
def Binds(K:W.Frag)(fd:FuncData)(ps:List Str)(ds:List Value):Prop:=
 ∀(s:Shared) (us:List Value),K.In s.heap->(us++ds).length=ps.length->BindsTo s fd ⟨us,[]⟩ (ps.zip (us++ds))
theorem Binds.all{K:W.Frag}{fd:FuncData}{ps:List Str}(h:∀us:List Value,us.length=ps.length->bindArgs fd ⟨us,[]⟩=pure (ps.zip us)):Binds K fd ps []:=fun s us _ hl=>by
 rw [List.append_nil] at hl ⊢
 exact .of_eq (h us hl)
def Passes(CX:CXT)(X:Cx)(E:XK):Prop:=∀(pins:List (Addr×Obj)) (σ:St) (H:Hp) (s:Shared) (e:Value) (s':Shared),Inv X pins σ H s->CX X.stack H s E e s'->X.xe e s'
section
variable {X:Cx} {CX:CXT} {k:Nat} {f C:Addr} {fd:FuncData} {ps:List Str} {sp:Sp} {dvs:List V} {ds:List Value} {E:XK} {x m:Str} {p pos apos:Pos} {e o:Expr} {es:List Expr} {ta:TE} {t:TA}
theorem run_fn {pins : List (Addr × Obj)} {σ : St} {H : Hp} {s : Shared} {Q : VK} {us : List Value} {vs : List V} (F : FnOk X.prog X.w X.K X.mg X.base CX k f fd ps sp) (hr : Room k X.A) (hb : Binds X.K fd ps ds) (hd : Vals dvs ds) (hx : Passes CX X E)
 (I:Inv X pins σ H s) (r:Vals vs us) (h:sp (vs++dvs) H Q E):wpAny (model X.prog X.w) X.A (call (.ref f) us) (EP X pins σ Q) X.xe s:=by
 have r2:Vals (vs++dvs) (us++ds):=r.append hd;have hl:(us++ds).length=ps.length:=by rw [<-r2.length];exact F.len _ _ _ _ h
 refine wpAny_call (codeAny_mono (F.run X.A X.stack s H ⟨us,[]⟩ (us++ds) (vs++dvs) Q E hr I.env0 (hb s us I.kIn hl) r2 h) fun r s' hq=> ?_)
 cases r with
 | error e=>exact hx pins σ H s e s' I hq
 | ok fl=>
  cases fl with
  | ret u=>exact I.after hq
  | next=>exact False.elim hq
  | brk=>exact False.elim hq
  | cont=>exact False.elim hq
theorem pe_call (F : FnOk X.prog X.w X.K X.mg X.base CX k f fd ps sp) (hr : Room k X.A) (hg : Gl X x) (hm : X.mg x = some (.ref f)) (hk : W.keepIn X.K (.ref f) = true) (hb : Binds X.K fd ps ds) (hd : Vals dvs ds) (hx : Passes CX X E)
 (ha:PA X (e::es) t) (hdb:(x==("__debug__" : Str))=false:=by decide) (he:starEach (e::es) X.env=(false,eval e X.env)::starEach es X.env:=by rfl) (hpl:(backTo pos (starEach es X.env)).any (·.1)=false:=by rfl) :
 PE X (.Call (.Name x p) (e::es) [] pos) (tCall sp dvs E t):=by
 intro pins s σ H Q I h;refine wpAny_Call_Name_kw (ld_glob I hg hm ?_ hdb);refine W.callWith_K (h₀:=X.base) I.ok.mod.kin hk (thn (ha pos pins s σ H _ I h) fun us s1 ⟨vs,H1,I1,r,q⟩=>⟨I1.kIn,?_⟩) he hpl;exact run_fn F hr hb hd hx I1 r q
theorem pe_meth {pl : Sem Bool} (he : PE X o ta) (c : Cls X.K C) (hm : Meth X.K C m f) (F : FnOk X.prog X.w X.K X.mg X.base CX k f fd ps sp) (hr : Room k X.A) (hb : Binds X.K fd ps ds) (hd : Vals dvs ds) (hx : Passes CX X E) (ha : PA X (e :: es) t)
 (hst:starEach (e::es) X.env=(false,eval e X.env)::starEach es X.env:=by rfl) (hpl:(backTo pos (starEach es X.env)).any (·.1)=false:=by rfl)
 (ht:eval (.Call (.Attribute o m apos) (e::es) [] pos) X.env=(do
  let ov <-eval o X.env
  standAt apos.atName
  let (f,first) <-holding [ov] (getMethod ov m pl)
  callWith pos f first (backTo pos (starEach (e::es) X.env)) (backToKw pos (keywordEach [] X.env))):=by rfl) :
 PE X (.Call (.Attribute o m apos) (e::es) [] pos) (tMeth C m sp dvs E ta t):=by
 intro pins s σ H Q I h;refine W.methodCall_KW (pl:=pl) (thn (he pins s σ H _ I h) fun u s1 ⟨x,H1,I1,rx,a,dx,fs,ex,ea,l,q⟩ => ?_) ht;subst ex;obtain rfl:u=Value.ref a:=rx;refine getmeth_ok I1 ea c hm l ?_;refine W.callWith_K (first:= [.ref a]) (h₀:=X.base) I.ok.mod.kin hm.kp (thn (ha pos pins s1 σ H1 _ I1 q) fun us s2 ⟨vs,H2,I2,r,q2⟩=>⟨I2.kIn,?_⟩) hst hpl;exact run_fn (us:= .ref a::us) (vs:= .ref a::vs) F hr hb hd hx I2 (.cons rfl r) q2
structure Mk (K:W.Frag) (C f:Addr):Prop where
 makes:W.makesIn K C=true
 init:W.findIn K (.ref C) "__init__" = some (some (.ref f))
 fn:W.isFn K (.ref f)=true
 kp:W.keepIn K (.ref C)=true
theorem run_make {pins : List (Addr × Obj)} {σ : St} {H : Hp} {s : Shared} {Q : VK} {us : List Value} {vs : List V} (M : Mk X.K C f) (F : FnOk X.prog X.w X.K X.mg X.base CX k f fd ps sp) (hr : Room (k + 1) X.A) (hb : Binds X.K fd ps ds) (hd : Vals dvs ds)
 (hx:Passes CX X E) (I:Inv X pins σ H s) (r:Vals vs us)
 (h:∀x dx,H x=none->H dx=none->dx≠x->sp (.ref x::(vs++dvs)) (upd (upd H dx (.own x)) x (.ins C dx [])) (fun v H2=>v = .non/\Q (.ref x) H2) E) :
 wpAny (model X.prog X.w) X.A (call (.ref C) us) (EP X pins σ Q) X.xe s:=by
 have hq:=h (s.heap.objs.size+1) s.heap.objs.size (I.hok.fresh (Nat.le_succ _)) (I.hok.fresh (Nat.le_refl _)) (Nat.ne_of_lt (Nat.lt_succ_self _));have I2:=Inv.made (C:=C) I;have r2:Vals (V.ref (s.heap.objs.size+1)::(vs++dvs)) (Value.ref (s.heap.objs.size+1)::(us++ds)):= .cons rfl (r.append hd)
 have hl:(Value.ref (s.heap.objs.size+1)::us++ds).length=ps.length:=by
  have e:=r2.length;rw [F.len _ _ _ _ hq] at e
  exact e.symm
 refine wpAny_call (make_map (f:=f) I.kIn M.makes M.init (beq_iff_eq.mp M.fn) (codeAny_mono (F.run _ X.stack _ _ ⟨Value.ref (s.heap.objs.size+1)::us,[]⟩ (Value.ref (s.heap.objs.size+1)::(us++ds)) _ _ E (hr.make C us [])
  (I2.env0.make C us []) (hb _ (Value.ref (s.heap.objs.size+1)::us) I2.kIn hl) r2 hq) fun r s' hq' => ?_))
 cases r with
 | error e=>exact hx pins σ _ _ e s' I2 hq'
 | ok fl=>
  cases fl with
  | ret u=>
   obtain ⟨v,H',I3,rv,ev,q3⟩:=I2.after hq';subst ev
   exact ⟨rv,⟨V.ref (s.heap.objs.size+1),H',I3,rfl,q3⟩⟩
  | next=>exact False.elim hq'
  | brk=>exact False.elim hq'
  | cont=>exact False.elim hq'
theorem pe_make (M : Mk X.K C f) (F : FnOk X.prog X.w X.K X.mg X.base CX k f fd ps sp) (hr : Room (k + 1) X.A) (hg : Gl X x) (hm : X.mg x = some (.ref C)) (hb : Binds X.K fd ps ds) (hd : Vals dvs ds) (hx : Passes CX X E)
 (ha:PA X (e::es) t) (hdb:(x==("__debug__" : Str))=false:=by decide) (he:starEach (e::es) X.env=(false,eval e X.env)::starEach es X.env:=by rfl) (hpl:(backTo pos (starEach es X.env)).any (·.1)=false:=by rfl) :
 PE X (.Call (.Name x p) (e::es) [] pos) (tMake C sp dvs E t):=by
 intro pins s σ H Q I h;refine wpAny_Call_Name_kw (ld_glob I hg hm ?_ hdb);refine W.callWith_K (h₀:=X.base) I.ok.mod.kin M.kp (thn (ha pos pins s σ H _ I h) fun us s1 ⟨vs,H1,I1,r,q⟩=>⟨I1.kIn,?_⟩) he hpl;exact run_make M F hr hb hd hx I1 r q
end
section
variable {X:Cx} {CX:CXT} {k:Nat} {f C:Addr} {fd:FuncData} {ps ks:List Str} {sp:Sp} {E:XK} {x m:Str} {p pos apos kpos:Pos} {e o:Expr} {es:List Expr} {kws:List Keyword} {te ta:TE} {t tk:TA} {nm:Option Str}
structure KBinds (K:W.Frag) (fd:FuncData) (ps ks:List Str) (g:List Value->List Value->List Value) (gV:List V->List V->List V):Prop where
 to:∀(s:Shared) (us ws:List Value),K.In s.heap->(g us ws).length=ps.length->BindsTo s fd ⟨us,ks.zip ws⟩ (ps.zip (g us ws))
 rel:∀ {vs:List V} {us:List Value} {zs:List V} {ws:List Value},Vals vs us->Vals zs ws->Vals (gV vs zs) (g us ws)
variable {g:List Value->List Value->List Value} {gV:List V->List V->List V}
end
structure FnScope (N P:List Str) (sc:Scope):Prop where
 kind:sc.kind = .function
 co:sc.isCoroutine=false
 gen:sc.isGenerator=false
 nd:N.Nodup
 pre:N.take P.length=P
 par:∀x ∈ P,sc.names.lookup x=some .local\/sc.names.lookup x=some .cell
 nofree:∀y ∈ sc.names,y.2 ≠ .free
theorem bindL_out{kindOf:Str->Option NameKind}{x:Str}:∀ {binds:List (Str×Value)} {m:Str->Option Value},(∀v,(x,v) ∉ binds)->bindL kindOf binds m x=m x
 | [],_,_=>rfl
 | (n,v)::r,m,h=>by
  unfold bindL;rw [bindL_out fun w hw=>h w (List.mem_cons_of_mem _ hw)]
  split
  . have:x≠n:=by rintro rfl;exact h v List.mem_cons_self
    simp [this]
  . rfl
theorem bindC_out{kindOf:Str->Option NameKind}{x:Str}:∀ {binds:List (Str×Value)} {m:Str->Option Value},(∀v,(x,v) ∉ binds)->bindC kindOf binds m x=m x
 | [],_,_=>rfl
 | (n,v)::r,m,h=>by
  unfold bindC;rw [bindC_out fun w hw=>h w (List.mem_cons_of_mem _ hw)]
  split
  . rfl
  . have:x≠n:=by rintro rfl;exact h v List.mem_cons_self
    simp [this]
theorem bindL_get {kindOf : Str -> Option NameKind} {x : Str} {v : Value} : ∀ {P : List Str} {vs : List Value} {i : Nat} {m : Str -> Option Value}, P.Nodup -> P[i]? = some x -> vs[i]? = some v -> kindOf x = some .local ->
 bindL kindOf (P.zip vs) m x=some v
 | [],_,_,_,_,h,_,_=>by simp at h
 | _::_,[],_,_,_,_,h,_=>by simp at h
 | p::P,w::vs,0,m,nd,h1,h2,hk=>by
  simp at h1 h2;subst h1;subst h2
  show bindL kindOf ((p,w)::P.zip vs) m p=_;unfold bindL;rw [bindL_out fun v hv=>(List.nodup_cons.mp nd).1 (List.of_mem_zip hv).1,if_pos hk]
  simp
 | p::P,w::vs,i+1,m,nd,h1,h2,hk=>by
  show bindL kindOf ((p,w)::P.zip vs) m x=_;unfold bindL;exact bindL_get (i:=i) (List.nodup_cons.mp nd).2 (by simpa using h1) (by simpa using h2) hk
theorem bindC_get {kindOf : Str -> Option NameKind} {x : Str} {v : Value} : ∀ {P : List Str} {vs : List Value} {i : Nat} {m : Str -> Option Value}, P.Nodup -> P[i]? = some x -> vs[i]? = some v -> kindOf x ≠ some .local ->
 bindC kindOf (P.zip vs) m x=some v
 | [],_,_,_,_,h,_,_=>by simp at h
 | _::_,[],_,_,_,_,h,_=>by simp at h
 | p::P,w::vs,0,m,nd,h1,h2,hk=>by
  simp at h1 h2;subst h1;subst h2
  show bindC kindOf ((p,w)::P.zip vs) m p=_;unfold bindC;rw [bindC_out fun v hv=>(List.nodup_cons.mp nd).1 (List.of_mem_zip hv).1,if_neg hk]
  simp
 | p::P,w::vs,i+1,m,nd,h1,h2,hk=>by
  show bindC kindOf ((p,w)::P.zip vs) m x=_;unfold bindC;exact bindC_get (i:=i) (List.nodup_cons.mp nd).2 (by simpa using h1) (by simpa using h2) hk
def start(N:List Str)(vs:List V):St:=vs.map some++List.replicate (N.length - vs.length) none
def cxOf(CX:CXT)(P:Program)(w:World)(K:W.Frag)(mg:Str->Option Value)(base:Heap)(N:List Str)(qual:Str)(scope:Scope)(f:Addr)(cd:Value)(A:Around)(outer:List Env)(s:Shared)(H:Hp)(E:XK):Cx where
 prog:=P
 w:=w
 K:=K
 mg:=mg
 base:=base
 A:=A.deeper (envOfC qual scope s.heap.objs.size f cd)
 N:=N
 s₀:=s
 H₀:=H
 env:=envOfC qual scope s.heap.objs.size f cd
 outer:=outer
 stack:=envOfC qual scope s.heap.objs.size f cd::outer
 ex:= []
 calm:=true
 fn:=fun _=>true
 pn:= []
 xe:=fun e s'=>wpAny (model P w) (A.deeper (envOfC qual scope s.heap.objs.size f cd)) (leaving (envOfC qual scope s.heap.objs.size f cd) e) (fun _ s''=>CX outer H s E e s'') (fun e' s''=>CX outer H s E e' s'') s'
theorem cell_has{sc:Scope}{n:Nat}{x:Str}(h:sc.names.lookup x=some .cell):∃c,(cellsFrom n sc.names []).lookup x=some c:=by
 have q:=W.cellsFrom_some sc.names n [] (.inl h);exact Option.isSome_iff_exists.mp q
theorem inv_start {CX : CXT} {P : Program} {w : World} {K : W.Frag} {mg : Str -> Option Value} {base : Heap} {N ps : List Str} {qual : Str} {scope : Scope} {f : Addr} {cd : Value} {A : Around} {outer : List Env} {s s1 : Shared} {H : Hp} {E : XK} {us : List Value} {vs : List V}
 (S:FnScope N ps scope) (hd:A.handled=none) (e0:Env0 P w K mg base A outer s H) (hl:vs.length=ps.length) (r:Vals vs us)
 (x:InCallC s s.heap.objs.size (bindL (envOfC qual scope s.heap.objs.size f cd).kindOf (ps.zip us) fun _=>none) (cellsFrom (s.heap.objs.size+1) scope.names []) (bindC (envOfC qual scope s.heap.objs.size f cd).kindOf (ps.zip us) fun _=>none) s1) :
 Inv (cxOf CX P w K mg base N qual scope f cd A outer s H E) [] (start N vs) H s1:=by
 have hpl:ps.length<=N.length:=by have:=congrArg List.length S.pre;rw [List.length_take] at this;omega
 obtain ⟨h1,tk,rfl,hk⟩:=x.done;have noA:∀b:Addr,b ∉ (cxOf CX P w K mg base N qual scope f cd A outer s H E).ex:=fun b z=>absurd (show b ∈ ([]:List Addr) from z) (by simp)
 refine ⟨⟨e0.mod,S.kind,rfl,rfl,Nat.le_refl _,fun y z c h1 h2=> ?_,fun y hy=> ?_,fun y c _ h=> ?_,fun _=>hd,Around.frames_deeper e0.frames, .inr ⟨rfl,rfl⟩,fun b z=>absurd z (noA b),e0.bs,e0.bsz,fun b _ _=>noA b,fun b z=>absurd z (noA b),e0.funs,e0.frf⟩,
  rfl,e0.bare,Un.kept hk,⟨_,x.toInCall.ns,fun i y v h1 h2 h3=> ?_⟩,fun y c h=>⟨_,x.cell y c h⟩,e0.hok.fresh (Nat.le_refl _),fun y c h=> ?_,fun p hp=>absurd (show p ∈ ([]:List (Addr×Obj)) from hp) (by simp),e0.hok.kept hk,?_⟩
 . exact name_of_addr x.apart (PySem.mem_of_lookup h1) (PySem.mem_of_lookup h2)
 . have hy:scope.names.lookup y=some .cell\/scope.names.lookup y=some .free:=hy;rcases hy with hy | hy
   . exact cell_has hy
   . exact absurd rfl (S.nofree _ (PySem.mem_of_lookup hy))
 . exact Nat.le_of_lt (x.above y c (PySem.mem_of_lookup h))
 . have hi : i < vs.length := by
    unfold start at h2
    by_cases hi:i<vs.length
    . exact hi
    . rw [List.getElem?_append_right (by simpa using hi)] at h2
      rw [List.getElem?_replicate] at h2
      split at h2 <;> cases h2
   have ha:vs[i]? = some v:=by
    unfold start at h2
    rw [List.getElem?_append_left (by simpa using hi),List.getElem?_map] at h2
    cases e:vs[i]? with
    | none=>rw [e] at h2;cases h2
    | some a=>rw [e] at h2;cases h2;rfl
   obtain ⟨u,hu,rv⟩:=r.get ha
   have hp:ps[i]? = some y:=by
    rw [<-S.pre,List.getElem?_take_of_lt (by omega)];exact h1
   have ndP:ps.Nodup:=by rw [<-S.pre];exact S.nd.sublist (List.take_sublist _ _)
   refine ⟨u,rv,?_⟩;rcases S.par y (List.mem_of_getElem? hp) with k | k
   . exact .inl ⟨k,bindL_get ndP hp hu k⟩
   . obtain ⟨c,e⟩:=cell_has (n:=s.heap.objs.size+1) k;refine .inr ⟨.inl k,c,e,?_⟩;have q:=x.cell y c e;rw [bindC_get ndP hp hu (by show scope.names.lookup y≠_;rw [k];decide)] at q
     exact q
 . exact e0.hok.fresh (Nat.le_of_lt (x.above y c (PySem.mem_of_lookup h)))
 . unfold start;show _=N.length;rw [List.length_append,List.length_map,List.length_replicate];omega
theorem fn_of {CX : CXT} {P : Program} {w : World} {K : W.Frag} {mg : Str -> Option Value} {base : Heap} {k : Nat} {f : Addr} {name qual : Str} {params : Arguments} {body : List Stmt} {scope : Scope} {dV kV doc pm cdv ct oc : Value} {an od : Option Addr}
 {osl:Array (Option Value)} {N ps:List Str} {sp:Sp} (lk:K.lookup f=some ⟨oc,od, .func (W.fnOf name qual params body scope dV kV doc pm an cdv ct),osl⟩) (hcd:W.codeIn K cdv qual=true) (S:FnScope N ps scope)
 (len:∀vs H Q E,sp vs H Q E->vs.length=ps.length)
 (hbody:∀(A:Around) (outer:List Env) (s:Shared) (H:Hp) (vs:List V) (Q:VK) (E:XK),Room k (A.deeper (envOfC qual scope s.heap.objs.size f cdv))->sp vs H Q E ->
  ∃t,PSs (cxOf CX P w K mg base N qual scope f cdv A outer s H E) body t/\t { nx:=fun _ H'=>Q .non H',rt:=Q } (start N vs) H) :
 FnOk P w K mg base CX (k+1) f (W.fnOf name qual params body scope dV kV doc pm an cdv ct) ps sp:=by
 refine ⟨len,fun A outer s H args us vs Q E hr e0 hb r hsp=> ?_⟩;have hl:=len _ _ _ _ hsp;have KX:K.In s.heap:=e0.mod.kin.keeps fun b o e=>(e0.bs b o e).1;have lim:s.heap.NoLimit:=e0.mod.nolimit.keeps fun b o e=>(e0.bs b o e).1
 have hkind:∀y ∈ ps.zip us,scope.names.lookup y.1=some .local\/(scope.names.lookup y.1=some .cell/\((cellsFrom (s.heap.objs.size+1) scope.names []).lookup y.1).isSome=true):=fun ⟨n,v⟩ hy=>by
  rcases S.par n (List.of_mem_zip hy).1 with q | q
  . exact .inl q
  . exact .inr ⟨q,W.cellsFrom_some _ _ _ (.inl q)⟩
 refine codeAny_call_function hr.depth (KX _ _ lk) rfl S.co S.gen rfl (W.codeRec_of KX hcd) (hb _ _ _ _ ?_);refine wpAny_newFunctionEnv_cells S.kind hkind fun env he s1 x=> ?_;subst he;refine ⟨lim.keeps x.toInCall.keep,codeAny_func ?_⟩;obtain ⟨t,ht,hq⟩:=hbody A outer s H vs Q E (hr.deeper _) hsp;have I:Inv (cxOf CX P w K mg base N qual scope f cdv A outer s H E) [] (start N vs) H s1:=inv_start S hr.hd e0 hl r x;refine wpAny_mono (ht [] s1 (start N vs) H _ I hq) (fun fl s' hs=> ?_) fun e s' hs=>hs
 have fin:∀ {σ':St} {H':Hp} {v:V} {u:Value},Inv (cxOf CX P w K mg base N qual scope f cdv A outer s H E) [] σ' H' s'->RelV v u->Q v H'->CE outer P w H s Q u s' :=
  fun {σ' H' v u} J rv q=>⟨v,H',J.os,J.bare,J.base,J.hok,rv,q⟩
 cases fl with
 | ret u=>
  obtain ⟨v,σ',H',J,rv,q⟩:=hs
  exact fin J rv q
 | next=>
  obtain ⟨σ',H',J,q⟩:=hs
  exact fin (v:=V.non) (u:=Value.none) J rfl q
 | brk=>
  obtain ⟨_,_,_,q⟩:=hs
  exact False.elim q
 | cont=>
  obtain ⟨_,_,_,q⟩:=hs;exact False.elim q
end L2
namespace L2
open PySem PySem.Spec PyProof.Rows
section
variable {X:Cx} {x:Str} {p pos:Pos} {e:Expr} {es:List Expr} {t:TA} {id T:String} {r:List V->Hp->VK->Prop}
def tCB(r:List V->Hp->VK->Prop)(t:TA):TE:=fun σ H Q=>t σ H fun vs H1=>r vs H1 Q
theorem pe_callB (hc : CallR X (.builtin id) r) (hg : Gl X x) (hm : X.mg x = none) (hv : bootBuiltins x = some (.builtin id)) (ha : PA X (e :: es) t) (hn : x ≠ "__name__" := by decide) (hdb : (x == ("__debug__" : Str)) = false := by decide)
 (he:starEach (e::es) X.env=(false,eval e X.env)::starEach es X.env:=by rfl) (hpl:(backTo pos (starEach es X.env)).any (·.1)=false:=by rfl):PE X (.Call (.Name x p) (e::es) [] pos) (tCB r t):=by
 intro pins s σ H Q I h;refine wpAny_Call_Name_kw (ld_blt I hg hm hv ?_ hn hdb);exact PyProof.Rows.callWith_builtin1 (thn (ha pos pins s σ H _ I h) fun us s1 ⟨vs,H1,I1,r1,q1⟩=>hc pins s1 σ H1 vs us Q I1 r1 q1) he hpl
theorem pe_callTy (hc : CallR X (.type T) r) (hg : Gl X x) (hm : X.mg x = none) (hv : bootBuiltins x = some (.type T)) (ha : PA X (e :: es) t) (hn : x ≠ "__name__" := by decide) (hdb : (x == ("__debug__" : Str)) = false := by decide)
 (he:starEach (e::es) X.env=(false,eval e X.env)::starEach es X.env:=by rfl) (hpl:(backTo pos (starEach es X.env)).any (·.1)=false:=by rfl):PE X (.Call (.Name x p) (e::es) [] pos) (tCB r t):=by
 intro pins s σ H Q I h;refine wpAny_Call_Name_kw (ld_blt I hg hm hv ?_ hn hdb);exact PyProof.Rows.callWith_type1 (thn (ha pos pins s σ H _ I h) fun us s1 ⟨vs,H1,I1,r1,q1⟩=>hc pins s1 σ H1 vs us Q I1 r1 q1) he hpl
end
end L2
namespace HT
open PySem PyProof.Rows
section
open PySem.SeqAt
open PySem.AutoSeq1 (wpAny_loadPart')
open PySem.MeetsSeq PySem.MeetsSeq2 PySem.MeetsSeq3
end
section
variable {prog:Program} {w:World} {A:Around} {E:Value->Shared->Prop} {s:Shared}
theorem cat_tup {t b : Addr} {vs ws : List Value} {Q : Value -> Shared -> Prop} (ht : IsTup s.heap t vs.toArray) (hb : IsTup s.heap b ws.toArray) (hv : vs ≠ [])
 (h1:ws = []->Q (.ref t) s) (h2:ws ≠ []->Q (.ref s.heap.objs.size) { s with heap:=s.heap.push { cls:= .type "tuple",data:= .seq (vs++ws).toArray } })
 (hsz:vs.length+ws.length<=sizeLine):wpAny (model prog w) A (binaryOp .Add (.ref t) (.ref b)) Q E s:=by
 obtain ⟨⟨cls,dd,data,sl⟩,ho,hc,n,hd⟩:=id ht;obtain ⟨⟨cls2,dd2,data2,sl2⟩,ho2,hc2,n2,hd2⟩:=id hb;simp only at hc hd hc2 hd2
 subst hc hd hc2 hd2;have e:vs.toArray++ws.toArray=(vs++ws).toArray:=by simp
 by_cases hw:ws = []
 . exact concat_meets ⟨_, ho, rfl⟩ ⟨_, ho2, rfl⟩ noFill_tuple_add seq_tuple_add PySem.F.slot_tuple_add PySem.F.entry_tuple_add (PySem.F.args_tuple_add_2 _ _)
    (tuple_addW1 t b vs.toArray ws.toArray n n2 dd dd2 sl sl2 (by simpa using hv) (by simp [hw])) ⟨ho,ho2,h1 hw⟩
 . refine concat_meets ⟨_, ho, rfl⟩ ⟨_, ho2, rfl⟩ noFill_tuple_add seq_tuple_add PySem.F.slot_tuple_add PySem.F.entry_tuple_add (PySem.F.args_tuple_add_2 _ _)
    (tuple_addW2 t b vs.toArray ws.toArray n n2 dd dd2 sl sl2 (by simpa using hv) (by simpa using hw) (by rw [List.size_toArray,List.size_toArray];exact hsz)) ⟨ho,ho2,?_⟩
   rw [e];exact h2 hw
def sIx(n d:Nat):Option Int->Nat
 | none=>d
 | some v=>if v<0 then (v+(n:Int)).toNat else min v.toNat n
theorem sIx_none(n d:Nat):sIx n d none=d:=rfl
theorem sIx_nat(n d k:Nat):sIx n d (some (k:Int))=min k n:=by
 show (if (k:Int)<0 then ((k:Int)+(n:Int)).toNat else min (k:Int).toNat n)=min k n;rw [if_neg (by omega),Int.toNat_natCast]
theorem sIx_le(n d:Nat)(hd:d<=n)(o:Option Int):sIx n d o<=n:=by
 cases o with
 | none=>exact hd
 | some v=>
  show (if v<0 then (v+(n:Int)).toNat else min v.toNat n)<=n
  by_cases hv:v<0
  . rw [if_pos hv];omega
  . rw [if_neg hv];exact Nat.min_le_right _ _
theorem clip_eq(v:Int)(n d:Nat):(if v<0 then max (v+(n:Int)) 0 else min v (n:Int))=((sIx n d (some v):Nat):Int):=by
 show (if v<0 then max (v+(n:Int)) 0 else min v (n:Int))=(((if v<0 then (v+(n:Int)).toNat else min v.toNat n):Nat):Int)
 by_cases hv:v<0
 . simp only [if_pos hv];omega
 . simp only [if_neg hv];omega
theorem adjust_gen(lo hi:Option Int)(n:Nat):Builtin.Slice.sliceAdjust lo hi 1 (n:Int)=(((sIx n 0 lo:Nat):Int),((sIx n n hi:Nat):Int)):=by
 have h1:¬((1:Int)<0):=by omega
 unfold Builtin.Slice.sliceAdjust;simp only [h1,if_false];refine Prod.ext ?_ ?_
 . cases lo with
   | none=>rfl
   | some v=>exact clip_eq v n 0
 . cases hi with
   | none=>rfl
   | some v=>exact clip_eq v n n
theorem places_gen(i j:Nat):Builtin.Slice.slicePlaces (i:Int) (j:Int) 1=j - i:=by
 unfold Builtin.Slice.slicePlaces;have h1:(1:Int)>0:=by omega
 simp only [h1,if_true,Int.ediv_one]
 split <;> omega
theorem slicePart_{v:Value}{o:Option Int}{Q:Option Int->Shared->Prop}(p:IsPart v o)(h:Q o s):wpAny (model prog w) A (Builtin.Slice.slicePartIndex v) Q E s:=by
 cases p with
 | none=>exact slicePart_none h
 | int i t=>exact slicePart_int h
theorem sliceApplied_gen {sl : Addr} {vl vu : Value} {lo hi : Option Int} {n : Nat} {Q : Int × Int × Nat -> Shared -> Prop} (hs : s.heap.IsSliceOf sl vl vu .none) (pl : IsPart vl lo) (pu : IsPart vu hi)
 (h:Q (((sIx n 0 lo:Nat):Int),1,sIx n n hi - sIx n 0 lo) s):wpAny (model prog w) A (Builtin.Slice.sliceApplied (.ref sl) (pure (n:Int))) Q E s:=by
 obtain ⟨os,hos,hcs,hds⟩:=id hs;unfold Builtin.Slice.sliceApplied Builtin.Slice.sliceFields;refine wpAny_bind (wpAny_bind (wpAny_field hos hds (x:=vl) rfl (wpAny_bind (wpAny_field hos hds (x:=vu) rfl (wpAny_bind (wpAny_field hos hds (x:= .none) rfl (wpAny_pure ?_)))))));refine wpAny_bind (slicePart_none ?_);show wpAny _ _ (if ((1:Int)==0)=true then _ else _) _ _ s;rw [if_neg (by decide)];refine wpAny_bind (slicePart_ pl (wpAny_bind (slicePart_ pu (wpAny_bind (wpAny_pure ?_)))));show wpAny _ _ (match Builtin.Slice.sliceAdjust lo hi 1 (n:Int) with | (lo,hi)=>pure (lo,(1:Int),Builtin.Slice.slicePlaces lo hi 1)) _ _ s;rw [adjust_gen lo hi n];show wpAny _ _ (pure (((sIx n 0 lo:Nat):Int),(1:Int),Builtin.Slice.slicePlaces ((sIx n 0 lo:Nat):Int) ((sIx n n hi:Nat):Int) 1)) _ _ s;rw [places_gen];exact wpAny_pure h
theorem pick_gen(xs:Array Value)(i k:Nat):((List.range k).filterMap fun (m:Nat)=>xs[((i:Int)+(m:Int)*1).toNat]?).toArray=((xs.toList.drop i).take k).toArray:=by
 have e:(fun (m:Nat)=>xs[((i:Int)+(m:Int)*1).toNat]?)=fun m=>xs[i+m]? :=by
  funext m;have:((i:Int)+(m:Int)*1).toNat=i+m:=by omega
  rw [this]
 rw [e];have:=pick_run xs i k;rw [List.filterMap_map] at this
 have e2:((fun x=>xs[x]?) ∘ fun x=>i+x)=fun m=>xs[i+m]? :=rfl;rw [e2] at this
 rw [this]
theorem getItem_tuple_cut {t sl : Addr} {items : Array Value} {vl vu : Value} {lo hi : Option Int} {Q : Value -> Shared -> Prop} (ht : IsTup s.heap t items) (hs : s.heap.IsSliceOf sl vl vu .none) (pl : IsPart vl lo) (pu : IsPart vu hi)
 (hw:¬(sIx items.size 0 lo=0/\sIx items.size items.size hi=items.size))
 (h:Q (.ref s.heap.objs.size) { s with heap:=s.heap.push { cls:= .type "tuple",data:= .seq ((items.toList.drop (sIx items.size 0 lo)).take (sIx items.size items.size hi - sIx items.size 0 lo)).toArray } })
 (hsz:items.size<=sizeLine):wpAny (model prog w) A (getItem (.ref t) (.ref sl)) Q E s:=by
 have htake:sizeOk (.seq ((items.toList.drop (sIx items.size 0 lo)).take (sIx items.size items.size hi - sIx items.size 0 lo)).toArray):=by
  show ((items.toList.drop (sIx items.size 0 lo)).take (sIx items.size items.size hi - sIx items.size 0 lo)).toArray.size<=sizeLine;rw [List.size_toArray,List.length_take,List.length_drop,Array.length_toList];omega
 have hj:sIx items.size items.size hi<=items.size:=sIx_le _ _ (Nat.le_refl _) hi;obtain ⟨os,hos,hcs,hds⟩:=id hs;have hTs:s.TypeIs (.ref sl) "slice" :=⟨os,hos,hcs⟩;unfold getItem
 try with_reducible refine wpAny_holding ?_
 first | refine wpAny_bind (wpAny_pure ?_) | skip
 refine wpAny_bind (wpAny_sequenceKey ht.typeIs (by decide) ?_)
 refine wpAny_bind (wpAny_callSpecial?_slot (name:=Str.ofString "__getitem__") ht.typeIs PyProof.Rows.slot_tuple_getitem
  (wpAny_call_entry PyProof.Rows.slot_tuple_getitem ht.typeIs entry_tuple_getitem ?_ (args_tuple_getitem _ _)))
 show wpAny _ _ (Builtin.Tuple.tupleItemsOf (.ref t) >>= _) _ _ s;refine wpAny_bind (tupleItemsOf_ ht ?_);refine wpAny_bind (wpAny_typeOf hTs ?_);rw [if_pos (by decide)];refine wpAny_bind (sliceApplied_gen hs pl pu ?_)
 have hno:¬((((sIx items.size 0 lo:Nat):Int)==0 && (1:Int)==1 && (sIx items.size items.size hi - sIx items.size 0 lo)==items.size)=true):=by
  intro q;rw [Bool.and_eq_true,Bool.and_eq_true] at q
  have q1:((sIx items.size 0 lo:Nat):Int)=0:=eq_of_beq q.1.1;have q2:sIx items.size items.size hi - sIx items.size 0 lo=items.size:=eq_of_beq q.2;exact hw ⟨by omega,by omega⟩
 show wpAny _ _ (if (((sIx items.size 0 lo:Nat):Int)==0 && (1:Int)==1 && (sIx items.size items.size hi - sIx items.size 0 lo)==items.size)=true then _ else _) _ _ s;rw [if_neg hno,pick_gen]
 first
  | exact wpAny_bind (m:=Builtin.Tuple.tupleExact _) (wpAny_newObj_type (wpAny_pure ⟨_,rfl,wpAny_pure h⟩) htake)
  | exact wpAny_bind (m:=Builtin.Tuple.tupleExact _) (wpAny_newObj_type (wpAny_bind (wpAny_pure (wpAny_pure ⟨_,rfl,wpAny_pure h⟩))) htake)
  | exact wpAny_bind (wpAny_bind (m:=Builtin.Tuple.tupleExact _) (wpAny_newObj_type (wpAny_pure (wpAny_pure ⟨_,rfl,wpAny_pure h⟩)) htake))
  | exact wpAny_bind (wpAny_bind (m:=Builtin.Tuple.tupleExact _) (wpAny_newObj_type (wpAny_pure ⟨_,rfl,wpAny_pure h⟩) htake))
end
end HT
namespace L2
open PySem PySem.Spec PyProof.Rows
abbrev TO:=St->Hp->(Option Int->Hp->Prop)->Prop
def PO(X:Cx)(e:Option Expr)(t:TO):Prop:=
 ∀(pins:List (Addr×Obj)) (s:Shared) (σ:St) (H:Hp) (Q:Option Int->Hp->Prop),Inv X pins σ H s->t σ H Q ->
   wpAny (model X.prog X.w) X.A (evalPart e X.env) (fun u s'=>∃o H',Inv X pins σ H' s'/\IsPart u o/\Q o H') X.xe s
def tNoPart:TO:=fun _ H Q=>Q none H
def tPart(t:TE):TO:=fun σ H Q=>t σ H fun x H1=>∃i,x = .int i/\Q (some i) H1
theorem intsAre_of{ns:List Int}:∀ {us:List Value},Vals (ns.map V.int) us->IntsAre us ns:=by
 induction ns with
 | nil=>intro us r;rw [List.map_nil] at r;cases r;exact .nil
 | cons n ns ih=>
  intro us r;rw [List.map_cons] at r
  cases r with
  | cons r1 r2=>
   obtain ⟨t,e⟩:=r1;subst e;exact .cons n t (ih r2)
section
variable {X:Cx} {e:Expr} {te:TE} {lo hi:Option Expr} {tl th:TO} {pos p2:Pos}
theorem po_none:PO X none tNoPart:=by
 intro pins s σ H Q I h;rw [evalPart_none];exact wpAny_pure ⟨none,H,I, .none,h⟩
theorem po_some(h:PE X e te):PO X (some e) (tPart te):=by
 intro pins s σ H Q I hw;rw [evalPart_some];refine thn (h pins s σ H _ I hw) fun u s1 ⟨x,H1,I1,r1,q1⟩ => ?_;obtain ⟨i,rfl,q⟩:=q1;obtain ⟨t,rfl⟩:=r1;exact ⟨some i,H1,I1, .int i t,q⟩
def SlR(X:Cx)(r:V->Option Int->Option Int->Hp->VK->Prop):Prop:=
 ∀(pins:List (Addr×Obj)) (s:Shared) (σ:St) (H:Hp) (x:V) (v vl vu:Value) (lo hi:Option Int) (sl:Addr) (Q:VK),Inv X pins σ H s->RelV x v->s.heap.IsSliceOf sl vl vu .none->IsPart vl lo->IsPart vu hi->r x lo hi H Q ->
   ∃T id,typeLookup (.type T) "__getitem__" = pure (some (.builtin id))/\s.TypeIs v T/\wpAny (model X.prog X.w) X.A (getItem v (.ref sl)) (EP X pins σ Q) X.xe s
theorem SlR.or{r r':V->Option Int->Option Int->Hp->VK->Prop}(h:SlR X r)(h':SlR X r'):SlR X (fun x lo hi H Q=>r x lo hi H Q\/r' x lo hi H Q):=by
 intro pins s σ H x v vl vu lo hi sl Q I rx hs pl pu q;rcases q with q | q
 . exact h pins s σ H x v vl vu lo hi sl Q I rx hs pl pu q
 . exact h' pins s σ H x v vl vu lo hi sl Q I rx hs pl pu q
def tSl(r:V->Option Int->Option Int->Hp->VK->Prop)(te:TE)(tl th:TO):TE:=fun σ H Q=>te σ H fun x H1=>tl σ H1 fun l H2=>th σ H2 fun u H3=>r x l u H3 Q
theorem pe_slice{r:V->Option Int->Option Int->Hp->VK->Prop}(hr:SlR X r)(he:PE X e te)(hl:PO X lo tl)(hu:PO X hi th):PE X (.Subscript e (.Slice lo hi none p2) pos) (tSl r te tl th):=by
 intro pins s σ H Q I h;refine Subscript_ (thn (he pins s σ H _ I h) fun v s1 ⟨x,H1,I1,r1,q1⟩ => ?_);refine wpAny_Slice (thn (hl pins s1 σ H1 _ I1 q1) fun vl s2 ⟨l,H2,I2,pl,q2⟩=>thn (hu pins s2 σ H2 _ I2 q2) fun vu s3 ⟨u,H3,I3,pu,q3⟩ => ?_);rw [evalPart_none];refine wpAny_pure ?_;have I4:Inv X pins σ H3 { s3 with heap:=s3.heap.push { cls:= .type "slice",data:= .fields #[vl,vu, .none] } }:=I3.kept (t':=s3.toks) fun b ob q=>Heap.get?_push_of_some _ q;obtain ⟨T,id,hT,ht,hg⟩:=hr pins { s3 with heap:=s3.heap.push { cls:= .type "slice",data:= .fields #[vl,vu, .none] } } σ H3 x v vl vu l u s3.heap.objs.size Q I4 r1 (Heap.IsSliceOf.new ..) pl pu q3;show wpAny (model X.prog X.w) X.A (subscriptTail e (.Slice lo hi none p2) v (.ref s3.heap.objs.size)) (EP X pins σ Q) X.xe { s3 with heap:=s3.heap.push { cls:= .type "slice",data:= .fields #[vl,vu, .none] } };exact tail_any (ops:= [.ref s3.heap.objs.size,v]) ht hT hg (by with_unfolding_all rfl)
def cutV(xs:List V)(lo hi:Option Int):List V:=(xs.drop (HT.sIx xs.length 0 lo)).take (HT.sIx xs.length xs.length hi - HT.sIx xs.length 0 lo)
theorem cutV_length(xs:List V)(lo hi:Option Int):(cutV xs lo hi).length<=xs.length:=by
 unfold cutV;rw [List.length_take,List.length_drop];omega
def rSlT(K:W.Frag):V->Option Int->Option Int->Hp->VK->Prop:=fun x lo hi H Q=>∃a xs,x = .ref a/\SqT K H a xs /\
 ¬(HT.sIx xs.length 0 lo=0/\HT.sIx xs.length xs.length hi=xs.length)/\∀p,H p=none->Q (.ref p) (upd H p (.tup (cutV xs lo hi)))
theorem sl_tup:SlR X (rSlT X.K):=by
 intro pins s σ H x v vl vu lo hi sl Q I rx hs pl pu h;obtain ⟨a,xs,rfl,hx,hw,q⟩:=h
 cases rx
 obtain ⟨its,r,ht,hz⟩:=I.tuple hx;have hlen:its.toArray.size=xs.length:=by rw [List.size_toArray];exact r.length.symm
 refine ⟨"tuple",_,PyProof.Rows.slot_tuple_getitem.lookup,ht.typeIs,?_⟩;refine HT.getItem_tuple_cut ht hs pl pu (by rw [hlen];exact hw) ?_ (by rw [hlen];exact hz);rw [hlen];refine ⟨.ref s.heap.objs.size,_,I.laid (t':=s.toks) (o:= .tup (cutV xs lo hi)) (fun b ob q=>Heap.get?_push_of_some _ q) (Nat.le_refl _) ?_,rfl,q _ (I.hok.fresh (Nat.le_refl _))⟩;exact ⟨Nat.le_trans (cutV_length xs lo hi) hz,_,(r.drop (HT.sIx xs.length 0 lo)).take (HT.sIx xs.length xs.length hi - HT.sIx xs.length 0 lo),IsTup.new _ _⟩
def rCatT(K:W.Frag):R2:=fun x y H Q=>∃a b xs ys,x = .ref a/\y = .ref b/\SqT K H a xs/\SqT K H b ys/\xs ≠ []/\xs.length+ys.length<=sizeLine /\
 (ys = []->Q (.ref a) H)/\(ys ≠ []->∀p,H p=none->Q (.ref p) (upd H p (.tup (xs++ys))))
theorem Vals.nil_iff{xs:List V}{us:List Value}(r:Vals xs us):us = []↔xs = []:=by
 cases r with
 | nil=>simp
 | cons _ _=>simp
theorem op_catT:OpR X (binaryOp .Add) (rCatT X.K):=by
 intro pins s σ H x y v u Q I rx ry h;obtain ⟨a,b,xs,ys,rfl,rfl,ha,hb,hx,hz,q1,q2⟩:=h
 cases rx
 cases ry
 obtain ⟨its,r1,p1,_⟩:=I.tuple ha;obtain ⟨its2,r2,p2,_⟩:=I.tuple hb;refine HT.cat_tup p1 p2 (fun z=>hx (r1.nil_iff.mp z)) (fun z=>⟨.ref a,H,I,rfl,q1 (r2.nil_iff.mp z)⟩) (fun z=> ?_) (by rw [<-r1.length, <-r2.length];exact hz);refine ⟨.ref s.heap.objs.size,_,I.laid (t':=s.toks) (o:= .tup (xs++ys)) (fun b ob q=>Heap.get?_push_of_some _ q) (Nat.le_refl _) ?_,rfl,q2 (fun w=>z (r2.nil_iff.mpr w)) _ (I.hok.fresh (Nat.le_refl _))⟩;exact ⟨by rw [List.length_append];exact hz,_,r1.append r2,IsTup.new _ _⟩
end
end L2
namespace L2
open PySem PySem.Spec PyProof.Rows
def ixN(n:Nat)(i:Int):Option Nat:=if 0<=i then (if i<n then some i.toNat else none) else if -(n:Int)<=i then some (i+n).toNat else none
def atI{α:Type}(xs:List α)(i:Int):Option α:=(ixN xs.length i).bind fun j=>xs[j]?
theorem ixN_seq{n:Nat}{i:Int}{j:Nat}(h:ixN n i=some j):seqIndex? i n=some j/\j<n /\ -(n:Int)<=i/\i<n:=by
 unfold ixN at h
 by_cases h0:0<=i
 . rw [if_pos h0] at h
   by_cases h1:i<n
   . rw [if_pos h1] at h
     have e:i.toNat=j:=Option.some.inj h;exact ⟨by rw [seqIndex_of h0 h1,e],by omega,by omega,h1⟩
   . rw [if_neg h1] at h;cases h
 . rw [if_neg h0] at h
   by_cases h1 : -(n:Int)<=i
   . rw [if_pos h1] at h
     have e:(i+n).toNat=j:=Option.some.inj h;exact ⟨by rw [seqIndex_neg (by omega) h1,e],by omega,h1,by omega⟩
   . rw [if_neg h1] at h;cases h
theorem atI_get{α:Type}{xs:List α}{i:Int}{v:α}(h:atI xs i=some v):∃j,seqIndex? i xs.length=some j/\xs[j]? = some v/\j<xs.length /\ -(xs.length:Int)<=i/\i<xs.length:=by
 unfold atI at h
 cases e:ixN xs.length i with
 | none=>rw [e] at h;cases h
 | some j=>
  rw [e] at h
  obtain ⟨h1,h2,h3,h4⟩:=ixN_seq e;exact ⟨j,h1,h,h2,h3,h4⟩
theorem atI_nat{α:Type}{xs:List α}{j:Nat}{v:α}(h:xs[j]? = some v):atI xs (j:Int)=some v:=by
 have hj:j<xs.length:=(List.getElem?_eq_some_iff.mp h).1
 have e:ixN xs.length (j:Int)=some j:=by
  unfold ixN;rw [if_pos (by omega),if_pos (by omega)];simp
 unfold atI;rw [e];exact h
def PlainIx(b:Expr):Prop:=∀o i,subscripted b false o i=operate [o,i] (getItem o i)
def IxR(X:Cx)(r:R2):Prop:=
 ∀(value slice:Expr) (pins:List (Addr×Obj)) (s:Shared) (σ:St) (H:Hp) (x y:V) (v u:Value) (Q:VK),Inv X pins σ H s->RelV x v->RelV y u->r x y H Q ->
   subscripted slice false v u=operate [v,u] (getItem v u)->wpAny (model X.prog X.w) X.A (subscriptTail value slice v u) (EP X pins σ Q) X.xe s
def MtR(X:Cx)(id:String)(r:V->List V->Hp->VK->Prop):Prop:=
 ∀(pins:List (Addr×Obj)) (s:Shared) (σ:St) (H:Hp) (x:V) (xs:List V) (v:Value) (us:List Value) (Q:VK),Inv X pins σ H s->RelV x v->Vals xs us->r x xs H Q ->
   wpAny (model X.prog X.w) X.A (call (.builtin id) (v::us)) (EP X pins σ Q) X.xe s
section
variable {X:Cx} {a b:Expr} {ta tb:TE} {pos:Pos}
theorem IxR.or{r r':R2}(h:IxR X r)(h':IxR X r'):IxR X (fun x y H Q=>r x y H Q\/r' x y H Q):=by
 intro value slice pins s σ H x y v u Q I rx ry q hs;rcases q with q | q
 . exact h value slice pins s σ H x y v u Q I rx ry q hs
 . exact h' value slice pins s σ H x y v u Q I rx ry q hs
theorem MtR.or{id:String}{r r':V->List V->Hp->VK->Prop}(h:MtR X id r)(h':MtR X id r'):MtR X id (fun x xs H Q=>r x xs H Q\/r' x xs H Q):=by
 intro pins s σ H x xs v us Q I rx rs q;rcases q with q | q
 . exact h pins s σ H x xs v us Q I rx rs q
 . exact h' pins s σ H x xs v us Q I rx rs q
theorem pe_ix{r:R2}(hr:IxR X r)(ha:PE X a ta)(hb:PE X b tb)(hs:PlainIx b):PE X (.Subscript a b pos) (tOp r ta tb):=by
 intro pins s σ H Q I h;exact Subscript_ (binT ha hb I h fun v u s2 x y H2 I2 rx ry q=>hr a b pins s2 σ H2 x y v u Q I2 rx ry q (hs _ _))
def rIxL(K:W.Frag):R2:=fun x y H Q=>∃p xs i v,x = .ref p/\y = .int i/\SqL K H p xs/\atI xs i=some v/\Q v H
def rIxT(K:W.Frag):R2:=fun x y H Q=>∃p xs i v,x = .ref p/\y = .int i/\SqT K H p xs/\atI xs i=some v/\Q v H
def rIxS:R2:=fun x y H Q=>∃z i c,x = .str z/\y = .int i/\z.length<=sizeLine/\atI z.cps.toList i=some c/\Q (.str ⟨#[c]⟩) H
theorem ix_list:IxR X (rIxL X.K):=by
 intro value slice pins s σ H x y v u Q I rx ry h hs;obtain ⟨p,xs,i,z,rfl,rfl,hq,he,q⟩:=h
 cases rx
 obtain ⟨t,rfl⟩:=ry;obtain ⟨its,r,pl,hz⟩:=I.list hq;obtain ⟨j,h1,h2,h3,h4,h5⟩:=atI_get he;obtain ⟨w,ew,rw'⟩:=r.get h2;have hl:=r.length;have hn:=line63;have fin:EP X pins σ Q w s:=⟨z,H,I,rw',q⟩
 by_cases h0:0<=i
 . have hj : i.toNat = j := by
    rw [seqIndex_of h0 h5] at h1
    exact Option.some.inj h1
   exact item_listR pl.isList h0 (by omega) (by rw [hj];simpa using ew) fin hs
 . have hj : (i + (its.toArray.size : Int)).toNat = j := by
    rw [seqIndex_neg (by omega) h4] at h1
    rw [List.size_toArray, <-hl];exact Option.some.inj h1
   exact subscriptTail_builtinR (x:=w) pl.isList.typeIs slot_list_getitem.lookup
    (wpAny_getItem_list_neg (Q:=fun r s'=>r=w/\EP X pins σ Q r s') pl.isList (by omega) (by rw [List.size_toArray] <;> omega) (by omega) (by rw [hj];simpa using ew) ⟨rfl,fin⟩) hs
theorem ix_tup:IxR X (rIxT X.K):=by
 intro value slice pins s σ H x y v u Q I rx ry h hs;obtain ⟨p,xs,i,z,rfl,rfl,hq,he,q⟩:=h
 cases rx
 obtain ⟨t,rfl⟩:=ry;obtain ⟨its,r,pl,hz⟩:=I.tuple hq;obtain ⟨j,h1,h2,h3,h4,h5⟩:=atI_get he;obtain ⟨w,ew,rw'⟩:=r.get h2;have hl:=r.length;have hn:=line63;have fin:EP X pins σ Q w s:=⟨z,H,I,rw',q⟩
 exact subscriptTail_builtinR (x:=w) pl.typeIs slot_tuple_getitem.lookup
  (getItem_tuple (j:=j) (Q:=fun r s'=>r=w/\EP X pins σ Q r s') pl (by omega) (by omega) (by rw [List.size_toArray, <-hl];exact h1) (by simpa using ew) ⟨rfl,fin⟩) hs
theorem ix_str:IxR X rIxS:=by
 intro value slice pins s σ H x y v u Q I rx ry h hs;obtain ⟨z,i,c,rfl,rfl,hz,he,q⟩:=h;obtain ⟨t,rfl⟩:=rx;obtain ⟨t',rfl⟩:=ry;obtain ⟨j,h1,h2,h3,h4,h5⟩:=atI_get he;have hl:z.cps.toList.length=z.length:=by simp [Str.length]
 rw [hl] at h1 h4 h5
 have hn:=line63
 exact tail_any (typeIs_str s z t) slot_str_getitem.lookup (getItem_str (c:=c) (by
  have e1:decide (i < -(2 ^ 63:Int))=false:=decide_eq_false (by omega);have e2:decide (i≥2 ^ 63)=false:=decide_eq_false (by omega);rw [e1,e2,Bool.or_false]) (by rw [h1];simpa using h2) ⟨.str ⟨#[c]⟩,H,I.tok _,⟨_,rfl⟩,q⟩) hs
def rIx(K:W.Frag):R2:=fun x y H Q=>rIxL K x y H Q\/rIxT K x y H Q\/rIxS x y H Q
theorem ix_seq:IxR X (rIx X.K):=ix_list.or (ix_tup.or ix_str)
theorem mapSeq_set(its:List Value)(n j:Nat)(u:Value):Obj.mapSeq (·.setIfInBounds j u) { cls:= .type "list",data:= .seq its.toArray n }={ cls:= .type "list",data:= .seq (its.set j u).toArray n }:=by
 simp [Obj.mapSeq]
theorem Inv.lst {pins : List (Addr × Obj)} {σ : St} {H : Hp} {s : Shared} {p : Addr} {xs : List V} (I : Inv X pins σ H s) (h : H p = some (.lst xs)) :
 ∃(its:List Value) (n:Nat),Vals xs its/\s.heap.get? p=some { cls:= .type "list",data:= .seq its.toArray n }/\xs.length<=sizeLine:=by
 obtain ⟨z,its,n,r,e⟩:=I.hok p _ h;exact ⟨its,n,r,e,z⟩
theorem Inv.lstUpd {pins : List (Addr × Obj)} {σ : St} {H : Hp} {s : Shared} {p : Addr} {xs ys : List V} {its its' : List Value} {n n' : Nat} {f : Obj -> Obj} (I : Inv X pins σ H s) (h : H p = some (.lst xs))
 (ho:s.heap.get? p=some { cls:= .type "list",data:= .seq its.toArray n }) (hf:f { cls:= .type "list",data:= .seq its.toArray n }={ cls:= .type "list",data:= .seq its'.toArray n' }) (r:Vals ys its') (hz:ys.length<=sizeLine) (t:Nat) :
 Inv X pins σ (upd H p (.lst ys)) { s with heap:=s.heap.update p f,toks:=t }:=by
 have e:(s.heap.update p f).get? p=some { cls:= .type "list",data:= .seq its'.toArray n' }:=by
  rw [Heap.get?_update_self f ho (by rw [hf] <;> rfl),hf]
 refine I.write (x:=p) (e:=p) (by rw [h];trivial) (.inl rfl) (fun b u hb q=>(Heap.get?_update_other _ _ (Ne.symm hb)).trans q) ⟨_,e⟩ ?_;exact ⟨hz,its',n',r,e⟩
def rSetL:V->V->V->Hp->(Hp->Prop)->Prop:=fun o i v H Q=>∃p xs k j,o = .ref p/\i = .int k/\H p=some (.lst xs)/\ixN xs.length k=some j/\Q (upd H p (.lst (xs.set j v)))
theorem set_list:PSet X rSetL:=by
 intro pins s σ H o i v ov iv u Q I ro ri rv h;obtain ⟨p,xs,k,j,rfl,rfl,hp,hj,q⟩:=h
 cases ro
 obtain ⟨t,rfl⟩:=ri;obtain ⟨its,n,r,ho,hz⟩:=I.lst hp;obtain ⟨h1,h2,h3,h4⟩:=ixN_seq hj;have hl:=r.length;have hn:=line63
 have I':Inv X pins σ (upd H p (.lst (xs.set j v))) { s with heap:=s.heap.update p (Obj.mapSeq (·.setIfInBounds j u)) } :=
  I.lstUpd hp ho (mapSeq_set its n j u) (r.set rv j) (by rw [List.length_set];exact hz) s.toks
 by_cases h0:0<=k
 . have hk : k.toNat = j := by
    rw [seqIndex_of h0 h4] at h1
    exact Option.some.inj h1
   exact W.ki_setAt ho h0 (by omega) (by rw [List.size_toArray, <-hl];exact h4) (by rw [hk];exact ⟨_,I',q⟩)
 . have hk : (k + (its.toArray.size : Int)).toNat = j := by
    rw [seqIndex_neg (by omega) h3] at h1
    rw [List.size_toArray, <-hl];exact Option.some.inj h1
   exact W.ki_setBack ho (by omega) (by rw [List.size_toArray, <-hl];exact h3) (by omega) (by rw [hk];exact ⟨_,I',q⟩)
theorem slice_bounds(lo hi:Option Int)(n:Nat):(sliceBounds lo hi none n).1=((HT.sIx n 0 lo:Nat):Int)/\(sliceBounds lo hi none n).2.1=((HT.sIx n n hi:Nat):Int)/\(sliceBounds lo hi none n).2.2=1:=by
 refine ⟨?_,?_,rfl⟩
 . cases lo with
   | none=>simp [sliceBounds,HT.sIx]
   | some i=>
    simp only [sliceBounds,HT.sIx,Option.getD_none,show (1:Int)>0 by decide,if_true]
    by_cases h:i<0
    . simp only [h,if_true] <;> omega
    . simp only [h,if_false] <;> omega
 . cases hi with
   | none=>simp [sliceBounds,HT.sIx]
   | some i=>
    simp only [sliceBounds,HT.sIx,Option.getD_none,show (1:Int)>0 by decide,if_true]
    by_cases h:i<0
    . simp only [h,if_true] <;> omega
    . simp only [h,if_false] <;> omega
theorem slicePick_cut(its:List Value)(lo hi:Option Int):slicePick its.toArray lo hi none=((its.drop (HT.sIx its.length 0 lo)).take (HT.sIx its.length its.length hi - HT.sIx its.length 0 lo)).toArray:=by
 obtain ⟨h1,h2,h3⟩:=slice_bounds lo hi its.toArray.size;unfold slicePick;rw [h1,h2,h3];simp only [sliceRange_one,pick_run,List.size_toArray] <;> rfl
def rSlL(K:W.Frag):V->Option Int->Option Int->Hp->VK->Prop:=fun x lo hi H Q=>∃a xs,x = .ref a/\SqL K H a xs/\∀p,H p=none->Q (.ref p) (upd H p (.lst (cutV xs lo hi)))
theorem sl_list:SlR X (rSlL X.K):=by
 intro pins s σ H x v vl vu lo hi sl Q I rx hs pl pu h;obtain ⟨a,xs,rfl,hx,q⟩:=h
 cases rx
 obtain ⟨its,r,ht,hz⟩:=I.list hx;have hlen:=r.length;refine ⟨"list",_,slot_list_getitem.lookup,ht.isList.typeIs,?_⟩;refine wpAny_getItem_list_slice ht.isList hs pl pu .none (by simp) ?_ (by rw [List.size_toArray] <;> omega);rw [slicePick_cut, <-hlen];refine ⟨.ref s.heap.objs.size,_,I.laid (t':=s.toks) (o:= .lst (cutV xs lo hi)) (fun b ob q=>Heap.get?_push_of_some _ q) (Nat.le_refl _) ?_,rfl,q _ (I.hok.fresh (Nat.le_refl _))⟩;exact ⟨Nat.le_trans (cutV_length xs lo hi) hz,_,0,(r.drop (HT.sIx xs.length 0 lo)).take (HT.sIx xs.length xs.length hi - HT.sIx xs.length 0 lo),Heap.get?_push_size _ rfl⟩
theorem call_len_seq:CallR X (.builtin "len") (fun xs H Q=>∃p ys,xs = [.ref p]/\(SqL X.K H p ys\/SqT X.K H p ys)/\Q (.int ys.length) H):=by
 intro pins s σ H xs us Q I r h;obtain ⟨p,ys,rfl,hq,q⟩:=h;obtain ⟨u,rfl,rx⟩:=vals1 r
 cases rx
 have hn:=line63;rcases hq with hq | hq
 . obtain ⟨its,r',pl,hz⟩:=I.list hq;have hlen:=r'.length;exact Calls.call_len_list pl.isList (by simp only [List.size_toArray] <;> omega) ⟨.int ys.length,H,I.tok _,⟨s.toks+1,by rw [List.size_toArray,hlen]⟩,q⟩
 . obtain ⟨its,r',pl,hz⟩:=I.tuple hq;have hlen:=r'.length;exact len_tuple pl (by simp only [List.size_toArray] <;> omega) ⟨.int ys.length,H,I.tok _,⟨s.toks+1,by rw [List.size_toArray,hlen]⟩,q⟩
theorem CallR.or{f:Value}{r r':List V->Hp->VK->Prop}(h:CallR X f r)(h':CallR X f r'):CallR X f (fun xs H Q=>r xs H Q\/r' xs H Q):=by
 intro pins s σ H xs us Q I rs q;rcases q with q | q
 . exact h pins s σ H xs us Q I rs q
 . exact h' pins s σ H xs us Q I rs q
theorem call_list_of:CallR X (.type "list") (fun xs H Q=>∃p ys,xs = [.ref p]/\(SqL X.K H p ys\/SqT X.K H p ys)/\∀l,H l=none->Q (.ref l) (upd H l (.lst ys))):=by
 intro pins s σ H xs us Q I r h;obtain ⟨p,ys,rfl,hq,q⟩:=h;obtain ⟨u,rfl,rx⟩:=vals1 r
 cases rx
 have fin : ∀ (its : List Value), Vals ys its -> ys.length <= sizeLine -> ∀ (h' : Heap) (c' : Nat), (∀ b o', s.heap.get? b = some o' -> h'.get? b = some o') ->
  h'.get? s.heap.objs.size=some { cls:= .type "list",dict:=none,data:= .seq its.toArray c',slots:= #[] }->EP X pins σ Q (.ref s.heap.objs.size) { s with heap:=h' }:=fun its r' hz h' c' kp e=>
  ⟨.ref s.heap.objs.size,_,I.laid (t':=s.toks) kp (Nat.le_refl _) (show ObjOk X.prog X.w _ h' _ (.lst ys) from ⟨hz,its,c',r',e⟩),rfl,q _ (I.hok.fresh (Nat.le_refl _))⟩
 rcases hq with hq | hq
 . obtain ⟨its,r',pl,hz⟩:=I.list hq;have hlen:=r'.length;obtain ⟨o,ho,hc,n,hd⟩:=pl.isList;exact call_list_seq p (.inl rfl) ho hc hd (fun h' c' kp e=>fin its r' hz h' c' kp e) (by simp only [List.size_toArray] <;> omega)
 . obtain ⟨its,r',pl,hz⟩:=I.tuple hq;have hlen:=r'.length;obtain ⟨o,ho,hc,n,hd⟩:=pl;exact call_list_seq p (.inr rfl) ho hc hd (fun h' c' kp e=>fin its r' hz h' c' kp e) (by simp only [List.size_toArray] <;> omega)
theorem call_tuple_of:CallR X (.type "tuple") (fun xs H Q=>∃p ys,xs = [.ref p]/\((SqL X.K H p ys/\∀l,H l=none->Q (.ref l) (upd H l (.tup ys)))\/(SqT X.K H p ys/\Q (.ref p) H))):=by
 intro pins s σ H xs us Q I r h;obtain ⟨p,ys,rfl,h⟩:=h;obtain ⟨u,rfl,rx⟩:=vals1 r
 cases rx
 rcases h with ⟨hq,q⟩ | ⟨hq,q⟩
 . obtain ⟨its,r',pl,hz⟩:=I.list hq;have hlen:=r'.length;refine call_tuple_list pl.isList (fun h' kp=> ?_) (by simp only [List.size_toArray] <;> omega);have I1:Inv X pins σ H { s with heap:=h' }:=I.kept (t':=s.toks) kp
   have I2:Inv X pins σ (upd H h'.objs.size (.tup ys)) { s with heap:=h'.push { cls:= .type "tuple",data:= .seq its.toArray } } :=
    I1.laid (t':=s.toks) (fun b o e=>Heap.get?_push_of_some _ e) (Nat.le_refl _) (show ObjOk X.prog X.w _ _ _ (.tup ys) from ⟨hz,its,r',IsTup.new _ _⟩)
   exact ⟨.ref h'.objs.size,_,I2,rfl,q _ (I1.hok.fresh (Nat.le_refl _))⟩
 . obtain ⟨its,r',pl,hz⟩:=I.tuple hq;exact call_tuple_same pl ⟨.ref p,H,I,rfl,q⟩
def tyV(K:W.Frag)(T:String)(x:V)(H:Hp):Prop:=match x with
 | .str _=>T = "str"
 | .int _=>T = "int"
 | .ref p => (T = "list" /\ ∃ xs, SqL K H p xs) \/ (T = "tuple" /\ ∃ o, K.lookup p = some o /\ o.cls = .type "tuple" /\ o.dict = none) \/
  (T = "dict" /\ ((∃kvs,H p=some (.dK kvs))\/∃kvs,H p=some (.dT kvs)))\/(T = "set" /\ ∃S n,H p=some (.set S n))
 | _=>False
theorem tyV_is {pins : List (Addr × Obj)} {σ : St} {H : Hp} {s : Shared} {T : String} {x : V} {v : Value} (I : Inv X pins σ H s) (r : RelV x v) (ty : tyV X.K T x H) :
 s.TypeIs v T/\∀a,v = .ref a->∃ob,s.heap.get? a=some ob/\ob.dict=none:=by
 cases x with
 | str z=>
  obtain ⟨t,rfl⟩:=r
  cases (show T = "str" from ty)
  exact ⟨typeIs_str s z t,fun _ e=>nomatch e⟩
 | int i=>
  obtain ⟨t,rfl⟩:=r
  cases (show T = "int" from ty)
  exact ⟨typeIs_int s i t,fun _ e=>nomatch e⟩
 | ref p=>
  cases r
  rcases ty with ⟨rfl,xs,hq⟩ | ⟨rfl,o,hk,hc,hd⟩ | ⟨rfl,hk⟩ | ⟨rfl,S,n,hk⟩
  . obtain ⟨its,_,pl,_⟩:=I.list hq;refine ⟨pl.isList.typeIs,fun a e=> ?_⟩
    cases e
    obtain ⟨o,n,e,c,hd,_⟩:=pl;exact ⟨o,e,hd⟩
  . refine ⟨⟨o,I.kIn p o hk,hc⟩,fun a e=> ?_⟩
    cases e
    exact ⟨o,I.kIn _ o hk,hd⟩
  . have z : ∃ o, s.heap.get? p = some o /\ o.ExactDict := by
     rcases hk with ⟨kvs,hk⟩ | ⟨kvs,hk⟩
     . obtain ⟨_,_,_,_,o,_,_,e,ex,_⟩:=I.hok p _ hk;exact ⟨o,e,ex⟩
     . obtain ⟨_,_,_,_,o,_,_,e,ex,_⟩:=I.hok p _ hk;exact ⟨o,e,ex⟩
    obtain ⟨o,e,ex⟩:=z;refine ⟨⟨o,e,ex.1⟩,fun a e2=> ?_⟩
    cases e2
    exact ⟨o,e,ex.2.1⟩
  . obtain ⟨o,_,_,_,e,ex,_⟩:=I.hok p _ hk;refine ⟨⟨o,e,ex.1⟩,fun a e2=> ?_⟩
    cases e2
    exact ⟨o,e,ex.2.1⟩
 | _=>exact False.elim ty
def tBM(K:W.Frag)(T:String)(r:V->List V->Hp->VK->Prop)(to:TE)(t:TA):TE:=fun σ H Q=>to σ H fun x H1=>tyV K T x H1/\t σ H1 fun xs H2=>r x xs H2 Q
variable {o e:Expr} {es:List Expr} {to:TE} {t:TA} {name:Str} {apos cpos:Pos} {T id:String} {r:V->List V->Hp->VK->Prop}
theorem pe_bm (pa : PlainAttrs T) (slot : Slot T name id) (hty : typeOf (.builtin id) = pure (.type "method_descriptor")) (hm : MtR X id r) (ho : PE X o to) (ha : PA X (e :: es) t)
 (hbase:attributeBase o name X.env (eval o X.env)=eval o X.env:=by rfl)
 (hfew:((backTo cpos (starEach (e::es) X.env)).all (fun x=> !x.1) && (backToKw cpos (keywordEach [] X.env)).all (fun x=>x.1.isSome)
  && decide ((e::es).length+([]:List Keyword).length+(if ([]:List Keyword).isEmpty then 0 else 1)<30))=true:=by rfl)
 (hline:(apos.endLine==cpos.line)=true:=by rfl) (hs:starEach (e::es) X.env=(false,eval e X.env)::starEach es X.env:=by rfl) (hplain:(backTo cpos (starEach es X.env)).any (·.1)=false:=by rfl) :
 PE X (.Call (.Attribute o name apos) (e::es) [] cpos) (tBM X.K T r to t):=by
 intro pins s σ H Q I h;refine wpAny_Call_method_late hbase hfew hline rfl (thn (ho pins s σ H _ I h) fun v s1 ⟨x,H1,I1,r1,ty,q1⟩ => ?_);obtain ⟨h1,h2⟩:=tyV_is I1 r1 ty;refine ⟨T,id,pa,slot,hty,h1,h2,?_⟩;have hA:=ha cpos pins s1 σ H1 _ I1 q1;rw [hs] at hA ⊢
 refine Calls.callWith_builtin (by show (false || (backTo cpos (starEach es X.env)).any (·.1))=false;rw [hplain] <;> rfl) (Calls.evalArgs_plain ?_);exact thn hA fun us s2 ⟨vs,H2,I2,r2,q2⟩=>hm pins s2 σ H2 x vs v us Q I2 r1 r2 q2
/- xs.append(e),list.index on a module's tuple .. are MtR facts of 06m -/
end
end L2
namespace L2
open PySem PySem.Spec PyProof.Rows
def MtM(X:Cx)(id:String)(r:V->List V->Hp->VK->Prop):Prop:=
 ∀(pins:List (Addr×Obj)) (s:Shared) (σ:St) (H:Hp) (x:V) (xs:List V) (v:Value) (us:List Value) (Q:VK),Inv X pins σ H s->RelV x v->Vals xs us->r x xs H Q ->
   wpAny (model X.prog X.w) X.A (call (.builtin id) (v::us)) (EP X pins σ Q) X.xe s
theorem Vals.one:∀ {x:V} {us:List Value},Vals [x] us->∃u,us = [u]/\RelV x u
 | _,_, .cons r .nil=>⟨_,rfl,r⟩
theorem Vals.zero:∀ {us:List Value},Vals [] us->us = []
 | _, .nil=>rfl
theorem Vals.reverse{xs:List V}{us:List Value}(h:Vals xs us):Vals xs.reverse us.reverse:=by
 induction h with
 | nil=>exact .nil
 | cons r t ih=>rw [List.reverse_cons,List.reverse_cons];exact Vals.append ih (.cons r .nil)
theorem Vals.rep{xs:List V}{us:List Value}(h:Vals xs us):∀k:Nat,Vals (List.replicate k xs).flatten (List.replicate k us).flatten
 | 0=> .nil
 | k+1=>by
  rw [List.replicate_succ,List.replicate_succ,List.flatten_cons,List.flatten_cons];exact Vals.append h (Vals.rep h k)
theorem foldl_rep (its : List Value) : ∀ (k : Nat) (acc : List Value),
 List.foldl (fun x1 x2=>x1++x2) acc.toArray (List.replicate k its.toArray)=(acc++(List.replicate k its).flatten).toArray
 | 0,acc=>by simp
 | k+1,acc=>by
  have e:acc.toArray++its.toArray=(acc++its).toArray:=by simp
  have e2:(acc++its)++(List.replicate k its).flatten=acc++(List.replicate (k+1) its).flatten:=by
   rw [List.replicate_succ,List.flatten_cons,List.append_assoc]
  rw [<-e2, <-foldl_rep its k (acc++its), <-e,List.replicate_succ,List.foldl_cons]
section
variable {X:Cx} {pins:List (Addr×Obj)} {σ:St} {H:Hp} {s:Shared} {l b:Addr} {xs ys zs:List V}
theorem Inv.lset {its its' : List Value} {n : Nat} {f : Array Value -> Array Value} {t' : Nat} (I : Inv X pins σ H s) (hH : H l = some (.lst xs))
 (e:s.heap.get? l=some { cls:= .type "list",data:= .seq its.toArray n }) (hf:f its.toArray=its'.toArray) (hv:Vals ys its') (hz:ys.length<=sizeLine) :
 Inv X pins σ (upd H l (.lst ys)) { s with heap:=s.heap.update l (Obj.mapSeq f),toks:=t' }:=by
 have q:=PySem.IsL.update e f;rw [hf] at q
 refine I.write (x:=l) (e:=l) (by rw [hH];exact trivial) (.inl rfl) (fun b' u hb hu=>(Heap.get?_update_other s.heap (Obj.mapSeq f) (Ne.symm hb)).trans hu) ⟨_,q⟩ ?_;exact ⟨hz,its',_,hv,q⟩
theorem Inv.lnew {its : List Value} {t' : Nat} (I : Inv X pins σ H s) (hv : Vals ys its) (hz : ys.length <= sizeLine) :
 Inv X pins σ (upd H s.heap.objs.size (.lst ys)) { s with heap:=s.heap.push { cls:= .type "list",data:= .seq its.toArray },toks:=t' } :=
 I.laid (fun _ _ q=>Heap.get?_push_of_some _ q) (Nat.le_refl _) ⟨hz,its,0,hv,Heap.get?_push_size _ rfl⟩
theorem Inv.fresh(I:Inv X pins σ H s):H s.heap.objs.size=none:=I.hok.fresh (Nat.le_refl _)
theorem Inv.lstM(I:Inv X pins σ H s)(hH:H l=some (.lst xs)):xs.length<=sizeLine/\∃(its:List Value) (n:Nat),Vals xs its/\xs.length=its.length/\s.heap.get? l=some { cls:= .type "list",data:= .seq its.toArray n }:=by
 obtain ⟨z,its,n,r,e⟩:=I.hok l _ hH;exact ⟨z,its,n,r,r.length,e⟩
theorem notLongL{n:Nat}(h:n<=sizeLine):Builtin.List.listTooLong n=false:=by
 unfold Builtin.List.listTooLong;exact decide_eq_false (by omega)
end
section
variable {X:Cx}
def rAppend:V->List V->Hp->VK->Prop:=fun x vs H Q=>∃l xs y,x = .ref l/\vs = [y]/\H l=some (.lst xs)/\xs.length<sizeLine/\Q .non (upd H l (.lst (xs ++ [y])))
theorem mt_append:MtM X "list.append" rAppend:=by
 intro pins s σ H x vs v us Q I rx rv h;obtain ⟨l,xs,y,rfl,rfl,hH,hz,q⟩:=h
 cases rx
 obtain ⟨u,rfl,ru⟩:=rv.one;obtain ⟨z,its,n,r,hl,e⟩:=I.lstM hH;refine call_meets F.slot_list_append ⟨_,e,rfl⟩ F.entry_list_append (F.args_list_append_2 _ _) (PySem.list_append l its.toArray n u (by rw [List.size_toArray];omega)) ⟨e,?_⟩;refine ⟨.non,_,I.lset (its':=its ++ [u]) hH e (by simp) (r.append (.cons ru .nil)) ?_,rfl,q⟩;rw [List.length_append,List.length_singleton];omega
def rExtend:V->List V->Hp->VK->Prop:=fun x vs H Q=>∃l b xs zs,x = .ref l/\vs = [.ref b]/\H l=some (.lst xs)/\H b=some (.lst zs)/\xs.length+zs.length<=sizeLine/\Q .non (upd H l (.lst (xs++zs)))
theorem mt_extend:MtM X "list.extend" rExtend:=by
 intro pins s σ H x vs v us Q I rx rv h;obtain ⟨l,b,xs,zs,rfl,rfl,hH,hB,hz,q⟩:=h
 cases rx
 obtain ⟨u,rfl,ru⟩:=rv.one
 cases ru
 obtain ⟨z,its,n,r,hl,e⟩:=I.lstM hH;obtain ⟨z2,its2,n2,r2,hl2,e2⟩:=I.lstM hB;have hsz:its.toArray.size+its2.toArray.size<=sizeLine:=by rw [List.size_toArray,List.size_toArray];omega
 have hlong:¬(!its.toArray.isEmpty && Builtin.List.listTooLong (its.toArray.size+its2.toArray.size))=true:=by
  rw [notLongL hsz,Bool.and_false];exact Bool.false_ne_true
 refine call_meets F.slot_list_extend ⟨_,e,rfl⟩ F.entry_list_extend (F.args_list_extend_2 _ _)
  (AutoSeq1.list_extend_list_list_0 l its.toArray n b its2.toArray n2 hlong (by rw [List.size_toArray];omega) (by omega)) ⟨e,e2,?_⟩
 refine ⟨.non,_,I.lset (its':=its++its2) hH e (by simp) (r.append r2) ?_,rfl,q⟩;rw [List.length_append];omega
def rRep:R2:=fun x y H Q=>∃l k xs,x = .ref l/\y = .int k/\H l=some (.lst xs) /\ -(2 ^ 63)<=k/\k<2 ^ 63/\xs.length*k.toNat<=sizeLine /\
 ∀p,H p=none->Q (.ref p) (upd H p (.lst (List.replicate k.toNat xs).flatten))
theorem len_rep{α:Type}(xs:List α)(k:Nat):(List.replicate k xs).flatten.length=k*xs.length:=by
 induction k with
 | zero=>simp
 | succ k ih=>rw [List.replicate_succ,List.flatten_cons,List.length_append,ih,Nat.succ_mul,Nat.add_comm]
theorem op_rep:OpR X (binaryOp .Mult) rRep:=by
 intro pins s σ H x y v u Q I rx ry h;obtain ⟨l,k,xs,rfl,rfl,hH,h1,h2,hz,q⟩:=h
 cases rx
 obtain ⟨t,rfl⟩:=ry;obtain ⟨z,its,n,r,hl,e⟩:=I.lstM hH;have hlen:its.toArray.size*k.toNat<=sizeLine:=by rw [List.size_toArray, <-hl];exact hz
 have hcap:¬its.toArray.size*k.toNat>(2 ^ 63 - 1) / 8:=by
  have:(sizeLine:Nat)<=(2 ^ 63 - 1) / 8:=by decide
  omega
 have hfit:¬(!Builtin.List.listFitsIndex k)=true:=by
  rw [fitsIndex_both h1 h2];exact Bool.false_ne_true
 have hlong:¬Builtin.List.listTooLong (its.toArray.size*k.toNat)=true:=by
  rw [notLongL hlen];exact Bool.false_ne_true
 have hnew:List.foldl (fun x1 x2=>x1++x2) #[] (List.replicate (if its.toArray.isEmpty=true then 0 else k.toNat) its.toArray)=(List.replicate k.toNat its).flatten.toArray:=by
  have f0:∀m:Nat,List.foldl (fun x1 x2=>x1++x2) #[] (List.replicate m its.toArray)=(List.replicate m its).flatten.toArray:=fun m=>by
   have:=foldl_rep its m [];rw [List.nil_append] at this
   exact this
  rw [f0]
  cases its with
  | nil=>simp
  | cons a r'=>rw [if_neg (by simp)]
 refine wpAny_binaryOp_repeat_ref (T:= "list") (U:= "int") (by decide) ⟨_,e,rfl⟩ (fun s'=>typeIs_int s' k t) noFill_list_mul F.fills_int_mul F.slot_int_rmul repeat_list F.slot_int_index.lookup
  (call_meets F.slot_int_rmul (typeIs_int s k t) F.entry_int_rmul (F.args_int_rmul_2 _ _) (int___rmul___int_list k t l its.toArray n)
   ⟨e,rfl,⟨_,e,rfl⟩,call_meets F.slot_list_mul ⟨_,e,rfl⟩ F.entry_list_mul (F.args_list_mul_2 _ _) (AutoListH.list___mul___list_int_3 l its.toArray n k t hfit hcap hlong) ⟨e,?_⟩⟩)
 rw [hnew];exact ⟨.ref _,_,I.lnew (t':=s.toks) (r.rep k.toNat) (by rw [len_rep,Nat.mul_comm];exact hz),rfl,q _ I.fresh⟩
end
section
variable {prog:Program} {w:World} {A:Around} {E:Value->Shared->Prop} {s:Shared}
theorem bounds_run{a c n:Nat}(hac:a<=c)(hc:c<=n):sliceBounds (some (a:Int)) (some (c:Int)) none n=((a:Int),(c:Int),1):=by
 simp only [sliceBounds,Option.getD_none];have h1:¬((a:Int)<0):=by omega
 have h2:¬((c:Int)<0):=by omega
 simp only [h1,h2,if_false,show (1:Int)>0 by decide,if_true];congr 1
 . omega
 . congr 1;omega
set_option maxRecDepth 100000 in
theorem setItem_slice {l b sl : Addr} {items new : Array Value} {n n2 : Nat} {vl vu : Value} {a c : Nat} {Q : Unit -> Shared -> Prop}
 (e:s.heap.get? l=some { cls:= .type "list",data:= .seq items n }) (e2:s.heap.get? b=some { cls:= .type "list",data:= .seq new n2 }) (hne:l≠b)
 (hs:s.heap.IsSliceOf sl vl vu .none) (pl:IsPart vl (some (a:Int))) (pu:IsPart vu (some (c:Int))) (hac:a<=c) (hc:c<=items.size)
 (hsz:items.size+new.size<=sizeLine) (h:Q () { s with heap:=s.heap.update l (Obj.mapSeq fun xs=>xs.extract 0 a++new++xs.extract c xs.size) }) :
 wpAny (model prog w) A (setItem (.ref l) (.ref sl) (.ref b)) Q E s:=by
 have hl:s.heap.IsList l items:=PySem.IsL.isList e;have hb:s.heap.IsList b new:=PySem.IsL.isList e2;obtain ⟨os,hos,hcs,hds⟩:=id hs;have hTs:s.TypeIs (.ref sl) "slice" :=⟨os,hos,hcs⟩;have hstep:¬((rawPart none==rawInt 0)=true):=Bool.false_ne_true
 have hsame:Builtin.List.listSameRef (.ref l) (.ref b)=false:=by
  unfold Builtin.List.listSameRef;exact beq_eq_false_iff_ne.mpr hne
 have hmax:(max (a:Int) (c:Int)).toNat=c:=by omega
 have hz':((fun xs:Array Value=>xs.extract 0 a++new++xs.extract c xs.size) items).size<=sizeLine+1:=by
  simp only [Array.size_append,Array.size_extract];omega
 unfold setItem
 try with_reducible refine wpAny_holding ?_
 first | refine wpAny_bind (wpAny_pure ?_) | skip
 refine wpAny_bind (wpAny_sequenceKey hl.typeIs (by decide) ?_)
 refine wpAny_bind (wpAny_callSpecial?_slot (name:=Str.ofString "__setitem__") hl.typeIs slot_list_setitem
  (wpAny_call_entry slot_list_setitem hl.typeIs entry_list_setitem ?_ (args_list_setitem _ _ _)))
 show wpAny _ _ (Builtin.List.listSubscript? (.ref sl) >>= _) _ _ s;refine wpAny_bind ?_;unfold Builtin.List.listSubscript?;refine wpAny_bind (wpAny_specialOf hTs slice_no_index ?_);simp only [Option.isNone_none,if_true];refine wpAny_pure ?_;show wpAny _ _ (typeOf (.ref sl) >>= _) _ _ s;refine wpAny_bind (wpAny_typeOf hTs ?_)
 first
  | rw [if_neg (by decide)]
  | refine W.KFB.if_not (by decide) ?_
 rw [listSliceParts_eq];refine wpAny_bind (wpAny_bind (wpAny_field hos hds (x:= .none) rfl (wpAny_bind (wpAny_listPart .none ?_))));rw [if_neg hstep];refine wpAny_bind (wpAny_field hos hds (x:=vl) rfl (wpAny_bind (wpAny_listPart pl ?_)));refine wpAny_bind (wpAny_field hos hds (x:=vu) rfl (wpAny_bind (wpAny_listPart pu (wpAny_pure ?_))))
 first
  | simp only [hsame,Bool.false_eq_true,if_false]
  | refine W.KFB.if_not hsame ?_
  | (dsimp only
     rw [if_neg (by rw [hsame];exact Bool.false_ne_true)])
 refine wpAny_bind (m:=Builtin.List.listAllItems (.ref b) "must assign iterable to extended slice") ?_;unfold Builtin.List.listAllItems;refine wpAny_bind (wpAny_typeOf hb.typeIs ?_)
 first
  | refine W.KFB.if_so (by decide) ?_
  | rw [if_pos (by decide)]
  | simp only [beq_self_eq_true,Bool.true_or,if_true]
 unfold Builtin.List.listItems;refine wpAny_bind (wpAny_seqItems e2 rfl (wpAny_pure ?_));refine wpAny_bind (wpAny_bind (wpAny_seqItems e rfl (wpAny_pure ?_)));refine wpAny_bind (wpAny_of_eq ((sliceIndices_raw (some (a:Int)) (some (c:Int)) none items.size (by simp)).trans (congrArg (pure:Int×Int×Int->Sem (Int×Int×Int)) (bounds_run hac hc))) ?_);show wpAny _ _ (if ((1:Int)==1)=true then _ else _) _ _ s;rw [if_pos (by decide)];refine wpAny_bind (wpAny_rule ?_)
 first
  | simp only [notLongL hsz,Bool.false_eq_true,if_false]
  | refine W.KFB.if_not (notLongL hsz) ?_
 first | refine wpAny_bind (wpAny_pure ?_) | skip
 show wpAny _ _ (updateSeq l (fun xs=>xs.extract 0 ((a:Int)).toNat++new++xs.extract (max (a:Int) (c:Int)).toNat xs.size) >>= _) _ _ s;rw [hmax,Int.toNat_natCast];refine wpAny_bind (wpAny_updateSeq (hz:=Nat.le_trans (Nat.le_add_right _ _) hsz) (_hz':=hz') e rfl ?_);refine wpAny_bind (wpAny_letGo ?_)
 first
  | exact wpAny_bind (wpAny_pure (wpAny_pure ⟨.none,rfl,wpAny_pure h⟩))
  | exact wpAny_pure ⟨.none,rfl,wpAny_pure h⟩
end
section
variable {X:Cx}
end
end L2
namespace Att
open PySem PySem.W PySem.Calls PyProof.Rows
theorem ints_of_wellAll{P:Params}{h:Heap}:∀(ns:List Int) (vs:List Value),WellAll P h vs (ns.map WData.int)->IntsAre vs ns:=by
 intro ns
 induction ns with
 | nil=>
  intro vs w;rw [List.map_nil] at w
  cases w
  exact .nil
 | cons n ns ih=>
  intro vs w;rw [List.map_cons] at w
  cases w with
  | cons a b=>
   cases a
   exact .cons _ _ (ih _ b)
theorem script_of {l : OpenLaw} {n : Nat} (hn : l.most = some n) {P : Params} {h : Heap} {args : List WData} {vals : List Value}
 (hpre:l.row.toRowW.claim.pre args=true) (hwl:WellAll P h vals args) :
 ∃a vs ns,vals = [Value.ref a]/\args = [WData.list (ns.map WData.int)]/\h.get? a=some { cls:= .type "list",data:= .seq vs.toArray }/\IntsAre vs ns/\ns.length<=n:=by
 have hsh:WShape.hasAll [] args [.list .int]=true:=(pre_splitW hpre).1;have hc:l.pre.holds [] { args:=args }=true:=(pre_splitW hpre).2;obtain ⟨d,r,rfl,h1,h2⟩:=hasAllW_cons hsh;obtain rfl:=hasAllW_nil h2;obtain ⟨xs,rfl,h3⟩:=hasW_list h1;obtain ⟨ns,rfl⟩:=items_int h3
 have hlen:ns.length<=n:=by
  unfold OpenLaw.pre at hc
  have h4:(WTm.not (.lt (.lit (.int (n:Int))) (.len (.arg 0)))).holds [] { args:= [.list (ns.map .int)] }=true:=by
   have h4:=(holds_andW hc).1;rw [hn] at h4
   exact h4
  have h5:=condW_of h4 (w_not (w_lt w_lit (w_len_list (w_arg rfl))));rw [List.length_map] at h5
  refine Nat.le_of_not_lt fun q=> ?_;have q':(n:Int)<((ns.length:Nat):Int):=by omega
  first
   | (rw [decide_eq_true q'] at h5;exact absurd h5 (by decide))
   | (simp at h5;omega)
 cases hwl with
 | cons w1 w2=>
  cases w2
  cases w1 with
  | list ho hall=>exact ⟨_,_,ns,rfl,rfl,ho,ints_of_wellAll ns _ hall,hlen⟩
theorem post_true(l:OpenLaw)(args:List WData):l.row.toRowW.claim.post args (.bool true) args=true:=
 postW_of (r:=l.row.toRowW) (X:=(true==true))
  (show WShape.has [] (.bool true) .bool=true by first | rfl | decide | simp [WShape.has,WShape.arms,WShape.armsAll])
  (show (WTm.eq .res (.lit (.bool true))).value [] { args:=args,res:=some (.bool true),after:=args }=some (.bool (true==true)) from w_eq_bool (w_res rfl) w_lit) rfl
theorem attach_call {l : OpenLaw} {n : Nat} {q : Program} {loose : List Str} {XP : (Str -> Option Value) -> Heap -> Prop} {YP : World -> Heap -> Prop} {d : DefRec}
 (hn:l.most=some n) (hdf:d.params.defaults = [])
 (call:∀(w:World) (s₀ s₁:Shared) (mg mb:Str->Option Value) (fa:Addr) (o:Obj) (pm cd doc:Value) (a:Addr) (vs:List Value) (ns:List Int),
  Ground q loose [] XP w s₀ mg mb s₁.heap->YP w s₁.heap ->
  s₁.heap.get? fa=some o->o.data = .func (docDef d.name d.params d.body d.scope pm cd doc)->s₁.heap.CodeRec cd d.name->mg d.name=some (.ref fa) ->
  s₁.heap.get? a=some { cls:= .type "list",data:= .seq vs.toArray }->IntsAre vs ns->ns.length<=n->s₁.gens = #[] ->
  codeAny (model l.prog w) callerA (.call (.ref fa) ⟨[.ref a],[]⟩) (fun r s'=>r = .ok (.ret (.bool true))/\OldK s₁.heap s'.heap/\s'.os=s₁.os/\AllBare s'.gens) s₁) :
 WalkO q loose XP YP l.row.toRowW d [] (fun f vs=>PySem.call f vs):=by
 intro w s₀ s₁ mg mb G Y fa o pm cd doc dV kV ho hd hcd hD hmg hg args vals as hpre hlay hrd hwl hlo;obtain rfl:dV = .none:=Dflts.none hD hdf;obtain rfl:kV = .none:=Dflts.noKw hD;obtain ⟨a,vs,ns,rfl,rfl,hobj,hints,hlen⟩:=script_of hn hpre hwl;refine enter_call (codeAny_mono (call w s₀ s₁ mg mb fa o pm cd doc a vs ns G Y ho (fd_plain hd) hcd hmg hobj hints hlen hg) fun r s' hq=> ?_);obtain ⟨rfl,h2,h3,h4⟩:=hq;exact ⟨.inl ⟨.bool true, .bool true,[],rfl,fun _=>rfl, .bool true,post_true l _,fun _=>⟨List.Pairwise.nil,fun _ hm=>(nomatch hm)⟩⟩,h2,h3,h4⟩
section
variable {prog:Program} {w:World} {A:Around} {E:Value->Shared->Prop} {s:Shared} {K:Frag}
end
end Att
namespace L2
open PySem PySem.Spec PyProof.Rows
theorem vals_ints:∀ {vs:List Value} {ns:List Int},IntsAre vs ns->Vals (ns.map V.int) vs
 | _,_, .nil=> .nil
 | _,_, .cons n t h=> .cons ⟨t,rfl⟩ (vals_ints h)
def Only(H:Hp):Prop:=∀b,H b=none\/∃o xs,H b=some (.frz o (.lst xs))
theorem law_call {P : Program} {w : World} {K : W.Frag} {mg mb : Str -> Option Value} {CX : CXT} {k : Nat} {fa a : Addr} {fd : FuncData} {x : Str} {sp : Sp} {s₁ : Shared} {vs : List Value} {ns : List Int}
 (KX:K.In s₁.heap) (hns:s₁.heap.Ns mainGlobals mg) (hb:s₁.heap.Ns builtinsNs mb) (hbb:∀x:Str,x ≠ "__name__" -> mb x=bootBuiltins x) (hlim:s₁.heap.NoLimit) (hg:s₁.gens = #[])
 (ha:s₁.heap.get? a=some { cls:= .type "list",data:= .seq vs.toArray }) (hi:IntsAre vs ns) (hl:ns.length<=sizeLine) (hr:Room k callerA)
 (F:∀base:Heap,K.In base->base.Ns mainGlobals mg->FnOk P w K mg base CX k fa fd [x] sp) (hbind:∀(s:Shared) (u:Value),BindsTo s fd ⟨[u],[]⟩ [(x,u)])
 (hsp:∀H:Hp,Only H->SqL K H a (ns.map V.int)->sp [.ref a] H (fun v _=>v = .bl true) fun _ _ _=>False)
 (hCX:∀H e s',CX [] H s₁ (fun _ _ _=>False) e s'->False) :
 codeAny (model P w) callerA (.call (.ref fa) ⟨[.ref a],[]⟩) (fun r s'=>r = .ok (.ret (.bool true))/\OldK s₁.heap s'.heap/\s'.os=s₁.os/\AllBare s'.gens) s₁:=by
 have rv:=vals_ints hi;have lenV:=hi.length
 have core : ∀ H : Hp, Only H -> SqL K H a (ns.map V.int) -> HOk P w H s₁.heap -> (∀ b, H b ≠ none -> b = a) -> (H a ≠ none -> K.lookup a = none) ->
  codeAny (model P w) callerA (.call (.ref fa) ⟨[.ref a],[]⟩) (fun r s'=>r = .ok (.ret (.bool true))/\OldK s₁.heap s'.heap/\s'.os=s₁.os/\AllBare s'.gens) s₁:=by
  intro H hO hS hok hA hK;have base_of:∀ {b:Addr} {o:Obj},s₁.heap.get? b=some o->H b=none->(hidT s₁.heap H).get? b=some o:=fun e n=>hidT_get e n
  have noA:∀ {b:Addr} {o:Obj} {es:Array DictEntry} {ep:Nat},s₁.heap.get? b=some o->o.data = .dict es ep->H b=none:=fun {b o es ep} e d=>by
   cases q:H b with
   | none=>rfl
   | some u=>
    have e':b=a:=hA b (by rw [q];simp);subst e';rw [ha] at e;cases e
    have d':Data.seq vs.toArray _=Data.dict es ep:=d
    cases d'
  have nsK:∀ {b:Addr} {m:Str->Option Value},s₁.heap.Ns b m->(hidT s₁.heap H).Ns b m:=fun {b m} ⟨o,es,ep,e,d,r⟩=>⟨o,es,ep,base_of e (noA e d),d,r⟩
  have hKb:K.In (hidT s₁.heap H):=fun b o e=>base_of (KX b o e) (by
   cases q:H b with
   | none=>rfl
   | some u=>
    have e':b=a:=hA b (by rw [q];simp);subst e';rw [hK (by rw [q];simp)] at e;cases e)
  have hM:Mod K mg (hidT s₁.heap H):=⟨hKb,nsK hns,⟨mb,nsK hb,hbb⟩,let ⟨mc,h1,h2⟩:=hlim;⟨mc,nsK h1,h2⟩⟩;have e0:Env0 P w K mg (hidT s₁.heap H) callerA [] s₁ H:=⟨rfl,hM,fun b o e=>of_hidT e,Nat.le_of_eq (hidT_size _ _),trivial,fun b hb=>absurd (show b ∈ ([]:List Addr) from hb) (by simp),hok, .of_eq hg⟩;refine codeAny_mono ((F _ hKb (nsK hns)).run callerA [] s₁ H ⟨[.ref a],[]⟩ [.ref a] [.ref a] _ _ hr e0 (hbind s₁ (.ref a)) (.cons rfl .nil) (hsp H hO hS)) fun r s' h=> ?_
  cases r with
  | error e=>exact (hCX H e s' h).elim
  | ok fl=>
   cases fl with
   | next=>exact False.elim h
   | brk=>exact False.elim h
   | cont=>exact False.elim h
   | ret u=>
    obtain ⟨v,H',os,bare,un,hok',r',q⟩:=h;have q':v = .bl true:=q;subst q';obtain rfl:u=Value.bool true:=r';refine ⟨rfl,OldK.of_keep fun b o e=> ?_,os,bare⟩
    cases q:H b with
    | none=>exact un.keep b o e q (by intro z;exact absurd (show b ∈ ([]:List Addr) from z) (by simp)) (by simp)
    | some u=>
     rcases hO b with z | ⟨ob,xs,z⟩
     . rw [q] at z;cases z
     . have z2:=un.frzs b ob _ z;obtain ⟨e1,_⟩:=hok b _ z;obtain ⟨e2,_⟩:=hok' b _ z2;rw [e] at e1;cases e1
       exact e2
 cases hk:K.lookup a with
 | some o=>
  have e:=KX a o hk;rw [ha] at e
  cases e
  refine core (fun _=>none) (fun _=> .inl rfl) (.inr ⟨_,vs.toArray,_,hk,rfl,rfl,rfl,by rw [List.size_toArray,lenV];exact hl,by simpa using rv⟩) (fun b u z=>by have z':(none:Option HO)=some u:=z;cases z') (fun b z=>absurd rfl z) fun z=>absurd rfl z
 | none=>
  refine core (fun b=>if b=a then some (.frz { cls:= .type "list",data:= .seq vs.toArray } (.lst (ns.map V.int))) else none) (fun b=> ?_) (.inl (.inr ⟨{ cls:= .type "list",data:= .seq vs.toArray },if_pos rfl⟩)) (fun b u z=> ?_) (fun b z=> ?_) fun _=>hk
  . by_cases hb:b=a
    . exact .inr ⟨_,_,if_pos hb⟩
    . exact .inl (if_neg hb)
  . by_cases hb:b=a
    . have z':=(if_pos hb).symm.trans z
      cases z'
      subst hb;exact ⟨ha,by rw [List.length_map];exact hl,vs,_,rv,ha⟩
    . have z':=(if_neg hb).symm.trans z
      cases z'
  . by_cases hb:b=a
    . exact hb
    . exact absurd (if_neg hb) z
end L2
namespace L2
open PySem PySem.Spec PyProof.Rows
theorem walk_of {l : W.OpenLaw} {n k : Nat} {q : Program} {loose : List Str} {XP : (Str -> Option Value) -> Heap -> Prop} {YP : World -> Heap -> Prop} {d : DefRec} {K : Params -> W.Frag} {CX : World -> CXT} {sp : World -> Sp} {x : Str}
 (hn:l.most=some n) (hn2:n<=sizeLine) (hdf:d.params.defaults = []) (hr:Room k callerA)
 (hY:∀(w:World) (h:Heap),YP w h->(K w.params).In h)
 (F:∀(w:World) (mg:Str->Option Value) (fa:Addr) (h:Heap),(K w.params).In h->h.Ns mainGlobals mg->mg d.name=some (.ref fa) ->
  ∃fd:FuncData,(∀(s:Shared) (u:Value),BindsTo s fd ⟨[u],[]⟩ [(x,u)]) /\
   ∀base:Heap,(K w.params).In base->base.Ns mainGlobals mg->FnOk l.prog w (K w.params) mg base (CX w) k fa fd [x] (sp w))
 (hsp:∀(w:World) (H:Hp) (a:Addr) (ns:List Int),ns.length<=n->Only H->SqL (K w.params) H a (ns.map V.int)->sp w [.ref a] H (fun v _=>v = .bl true) fun _ _ _=>False)
 (hCX:∀(w:World) (H:Hp) (s:Shared) (e:Value) (s':Shared),CX w [] H s (fun _ _ _=>False) e s'->False) :
 W.WalkO q loose XP YP l.row.toRowW d [] (fun f vs=>PySem.call f vs):=by
 refine Att.attach_call hn hdf fun w s₀ s₁ mg mb fa o pm cd doc a vs ns G Y ho hd hcd hmg hobj hints hlen hg=> ?_;have KX:=hY w _ Y;obtain ⟨fd,hb,hF⟩:=F w mg fa _ KX G.T.g hmg;exact law_call KX G.T.g G.T.b G.T.builtins G.T.nolimit hg hobj hints (Nat.le_trans hlen hn2) hr hF hb (fun H hO hS=>hsp w H a ns hlen hO hS) fun H e s'=>hCX w H s₁ e s'
end L2
/- THE LAST THEOREM (shape; LID, My.* are yours):
 My.Adr: a structure of the addresses that your layer names (classes,functions);My.Txt K t: a structure (Prop) of the equations over K;
 My.txt_mk:{K} {implicit addresses ..} (e1:nsIn K mainGlobals "law" = some (some (.ref f))) (e2:K.lookup f=some ⟨oc,od, .func (fnOf "law" "law" params body scope dV kV doc pm an cdv ct),sl⟩) (e3:codeIn K cdv "law" = true) .. : ∃t,My.Txt K t
set_option maxRecDepth 100000 in
set_option maxHeartbeats 0 in
theorem PySem.Challenge.cw_LID_holds : PySem.Challenge.rw_LID.Holds := by
 w_on;o_law;k_head;(case hw=>w_witness2)
 k_fill
 refine L2.walk_of (l := PySem.Challenge.rw_LID) (n := 63) (k := 40) (x := "script") (CX := fun w => ..) (sp := fun _ => My.sp_law) rfl (by decide) rfl ⟨rfl, by decide, by decide⟩ (fun w h Y => PySem.W.kIn_of Y) ?F ?S ?C
 case F=>
  intro w mg fa h KX G hmg
  have T:∃t,My.Txt (L2.KOf KX) t:=by
   dsimp only [L2.KOf] -- K must stand as «<heap const> w.params» for k_is
   refine' My.txt_mk ?e1 ?e2 ?e3 ..
   (case e1=>W.k_is) -- in the order: a name->its address->its object->its parts
   (case e2=>W.k_is)
   ..
  obtain ⟨t,T⟩:=T;have e0:=hmg.symm.trans (W.mg_of KX G T.law)
  cases e0 -- fa is the law's own address
  exact ⟨_, fun s u => .of_eq rfl, fun base kb nb => My.law_fn T kb nb⟩ -- if «.of_eq rfl» comes too early: refine' ⟨_, ?b, fun base kb nb => My.law_fn T kb nb⟩; exact fun s u => .of_eq rfl
 case S=>exact fun w H a ns hl hO hS=> ..
 case C=>exact ..
(the tactic k_is has no namespace: write k_is) -/
namespace L2
open PySem PySem.Spec PyProof.Rows
def inClass(s:Stmt)(j:Nat):Stmt:=match s with
 | .ClassDef _ _ _ body _ _ _ _ _ _ _=>body.getD j (.Pass ⟨0,0,0,0⟩)
 | _=> .Pass ⟨0,0,0,0⟩
def defArgs(s:Stmt):Arguments:=match s with
 | .FunctionDef _ a _ _ _ _ _ _ _ _=>a
 | _=>{ posonlyargs:= [],args:= [],vararg:=none,kwonlyargs:= [],kw_defaults:= [],kwarg:=none,defaults:= [] }
def defBody(s:Stmt):List Stmt:=match s with
 | .FunctionDef _ _ b _ _ _ _ _ _ _=>b
 | _=> []
def defScope(s:Stmt):Scope:=match s with
 | .FunctionDef _ _ _ _ _ _ sc _ _ _=>sc
 | _=>{ kind:= .function,names:= [],isGenerator:=false,isCoroutine:=false }
abbrev CX0:CXT:=fun _ _ _ _ _ _=>False
abbrev E0:XK:=fun _ _ _=>False
theorem pass0{X:Cx}:Passes CX0 X E0:=fun _ _ _ _ _ _ _ h=>h.elim
structure Fun (K:W.Frag) (x qual:Str) (st:Stmt) (f:Addr) (fd:FuncData):Prop where
 ex:∃(oc:Value) (od:Option Addr) (kV doc pm:Value) (an:Option Addr) (cdv ct:Value) (osl:Array (Option Value)),
  fd=W.fnOf x qual (defArgs st) (defBody st) (defScope st) .none kV doc pm an cdv ct/\K.lookup f=some ⟨oc,od, .func fd,osl⟩/\W.codeIn K cdv qual=true
 kp:W.keepIn K (.ref f)=true
section
variable {P:Program} {w:World} {K:W.Frag} {mg:Str->Option Value} {base:Heap}
theorem Fun.ok {x qual : Str} {st : Stmt} {f : Addr} {fd : FuncData} {N ps : List Str} {k : Nat} {sp : Sp} (F : Fun K x qual st f fd) (S : FnScope N ps (defScope st)) (len : ∀ vs H Q E, sp vs H Q E -> vs.length = ps.length)
 (hbody:∀(cdv:Value) (A:Around) (outer:List Env) (s:Shared) (H:Hp) (vs:List V) (Q:VK) (E:XK),Room k (A.deeper (envOfC qual (defScope st) s.heap.objs.size f cdv))->sp vs H Q E ->
  ∃t,PSs (cxOf CX0 P w K mg base N qual (defScope st) f cdv A outer s H E).nox (defBody st) t/\t { nx:=fun _ H'=>Q .non H',rt:=Q } (start N vs) H):FnOk P w K mg base CX0 (k+1) f fd ps sp:=by
 obtain ⟨oc,od,kV,doc,pm,an,cdv,ct,osl,rfl,lk,hcd⟩:=F.ex;refine fn_of lk hcd S len fun A outer s H vs Q E hr hsp=> ?_;obtain ⟨t,h,q⟩:=hbody cdv A outer s H vs Q E hr hsp;exact ⟨t,h.nox,q⟩
theorem Fun.binds {x qual : Str} {st : Stmt} {f : Addr} {fd : FuncData} {ps : List Str} (F : Fun K x qual st f fd)
 (h:∀(kV doc pm:Value) (an:Option Addr) (cdv ct:Value) (us:List Value),us.length=ps.length->bindArgs (W.fnOf x qual (defArgs st) (defBody st) (defScope st) .none kV doc pm an cdv ct) ⟨us,[]⟩=pure (ps.zip us)):Binds K fd ps []:=by
 obtain ⟨oc,od,kV,doc,pm,an,cdv,ct,osl,rfl,lk,hcd⟩:=F.ex;exact .all (h kV doc pm an cdv ct)
theorem fun_mk {x qual : Str} {st : Stmt} {f : Addr} {oc : Value} {od an : Option Addr} {osl : Array (Option Value)} {kV doc pm cdv ct : Value} (l : K.lookup f = some ⟨oc, od, .func (W.fnOf x qual (defArgs st) (defBody st) (defScope st) .none kV doc pm an cdv ct), osl⟩)
 (c:W.codeIn K cdv qual=true) (k:W.keepIn K (.ref f)=true):Fun K x qual st f (W.fnOf x qual (defArgs st) (defBody st) (defScope st) .none kV doc pm an cdv ct):=⟨⟨oc,od,kV,doc,pm,an,cdv,ct,osl,rfl,l,c⟩,k⟩
end
section
variable {X:Cx}
end
theorem iteF{A B:Prop}(h:B):if false=true then A else B:=by
 rw [if_neg Bool.false_ne_true];exact h
theorem iteT{A B:Prop}(h:A):if true=true then A else B:=by
 rw [if_pos rfl];exact h
def Same(H H':Hp):Prop:=∀b o,H b=some o->H' b=some o
theorem Same.refl(H:Hp):Same H H:=fun _ _ h=>h
theorem Same.trans{H H1 H2:Hp}(a:Same H H1)(b:Same H1 H2):Same H H2:=fun c o h=>b c o (a c o h)
theorem Same.free{H H':Hp}(e:Same H H'){l:Addr}(h:H' l=Option.none):H l=Option.none:=by
 cases q:H l with
 | none=>rfl
 | some o=>
  rw [e l o q] at h
  cases h
theorem Same.seq{K:W.Frag}{H H':Hp}{a:Addr}{xs:List V}(e:Same H H')(h:SqL K H a xs):SqL K H' a xs:=by
 rcases h with (h | ⟨o,h⟩) | h
 . exact .inl (.inl (e _ _ h))
 . exact .inl (.inr ⟨o,e _ _ h⟩)
 . exact .inr h
end L2
namespace Tf
open PySem PySem.Spec PyProof.Rows L2
theorem bt_abs:bootBuiltins "abs" = some (.builtin "abs"):=by decide +kernel
theorem bt_len:bootBuiltins "len" = some (.builtin "len"):=by decide +kernel
theorem bt_sum:bootBuiltins "sum" = some (.builtin "sum"):=by decide +kernel
theorem bt_min:bootBuiltins "min" = some (.builtin "min"):=by decide +kernel
theorem bt_int:bootBuiltins "int" = some (.type "int"):=by decide +kernel
theorem bt_list:bootBuiltins "list" = some (.type "list"):=by decide +kernel
theorem bt_tuple:bootBuiltins "tuple" = some (.type "tuple"):=by decide +kernel
theorem bt_range:bootBuiltins "range" = some (.type "range"):=by decide +kernel
theorem bt_zip:bootBuiltins "zip" = some (.type "zip"):=by decide +kernel
theorem bt_enumerate:bootBuiltins "enumerate" = some (.type "enumerate"):=by decide +kernel
theorem bt_reversed:bootBuiltins "reversed" = some (.type "reversed"):=by decide +kernel
def Bt(n:Nat)(i:Int):Prop:=i.natAbs<2 ^ n
theorem Bt.mono{n m:Nat}{i:Int}(h:Bt n i)(k:n<=m):Bt m i:=Nat.lt_of_lt_of_le h (Nat.pow_le_pow_right (by decide) k)
theorem Bt.mul{n m:Nat}{i j:Int}(h:Bt n i)(k:Bt m j):Bt (n+m) (i*j):=by
 unfold Bt at *
 rw [Int.natAbs_mul,Nat.pow_add];exact Nat.mul_lt_mul_of_lt_of_le h (Nat.le_of_lt k) (Nat.lt_of_le_of_lt (Nat.zero_le _) k)
theorem Bt.add{n m:Nat}{i j:Int}(h:Bt n i)(k:Bt m j):Bt (max n m+1) (i+j):=by
 unfold Bt at *
 have h1:i.natAbs<2 ^ (max n m):=Nat.lt_of_lt_of_le h (Nat.pow_le_pow_right (by decide) (Nat.le_max_left _ _));have h2:j.natAbs<2 ^ (max n m):=Nat.lt_of_lt_of_le k (Nat.pow_le_pow_right (by decide) (Nat.le_max_right _ _));have h3:=Int.natAbs_add_le i j;rw [Nat.pow_succ];omega
theorem Bt.neg{n:Nat}{i:Int}(h:Bt n i):Bt n (-i):=by
 unfold Bt at *
 rw [Int.natAbs_neg];exact h
theorem Bt.sub{n m:Nat}{i j:Int}(h:Bt n i)(k:Bt m j):Bt (max n m+1) (i - j):=by
 rw [Int.sub_eq_add_neg];exact h.add k.neg
theorem Bt.natAbs{n:Nat}{i:Int}(h:Bt n i):Bt n (i.natAbs:Int):=by
 unfold Bt at *
 simpa using h
theorem Bt.of_le{n:Nat}{i j:Int}(h:Bt n j)(k:i.natAbs<=j.natAbs):Bt n i:=Nat.lt_of_le_of_lt k h
theorem Bt.fdiv{n:Nat}{i j:Int}(h:Bt n i):Bt n (i.fdiv j):=by
 refine h.of_le ?_
 by_cases hj:j=0
 . subst hj;simp
 . have key : ∀ (a b : Int), 0 < b -> (a.fdiv b).natAbs <= a.natAbs := by
    intro a b hb;rw [Int.fdiv_eq_ediv_of_nonneg a (Int.le_of_lt hb)];exact Int.natAbs_ediv_le_natAbs a b
   rcases (by omega:0<j\/j<0) with p | p
   . exact key i j p
   . have:=key (-i) (-j) (by omega);rw [Int.neg_fdiv_neg] at this
     simpa using this
theorem Bt.fmod{n:Nat}{i j:Int}(hj:j≠0)(h:Bt n j):Bt n (i.fmod j):=by
 refine h.of_le ?_;rcases (by omega:0<j\/j<0) with p | p
 . have h1:=Int.fmod_nonneg_of_pos i p;have h2:=Int.fmod_lt_of_pos i p;omega
 . have e : i.fmod j = -((-i).fmod (-j)) := by
    rw [Int.fmod_def,Int.fmod_def,Int.neg_fdiv_neg];simp [Int.neg_mul];omega
   have h1:=Int.fmod_nonneg_of_pos (-i) (show 0 < -j by omega);have h2:=Int.fmod_lt_of_pos (-i) (show 0 < -j by omega);omega
theorem Bt.zero(n:Nat):Bt n 0:=by
 unfold Bt;simpa using Nat.pow_pos (by decide)
theorem Bt.one{n:Nat}(h:0<n):Bt n 1:=by
 unfold Bt;show 1<2 ^ n;exact Nat.one_lt_pow (by omega) (by decide)
theorem Bt.bits{n:Nat}{i:Int}(h:Bt n i):Builtin.Int.intBits i<=n:=by
 unfold Builtin.Int.intBits
 split
 . exact Nat.zero_le _
 . rename_i hz
   have h0:i.natAbs≠0:=by
    intro e;apply hz;have:i=0:=by omega
    subst this;rfl
   exact (Nat.log2_lt h0).mpr h
theorem Bt.log{n:Nat}{i:Int}(h:Bt n i)(hn:0<n):i.natAbs.log2<n:=by
 by_cases h0:i.natAbs=0
 . rw [h0];simpa using hn
 . exact (Nat.log2_lt h0).mpr h
theorem mulOk{n m:Nat}{i j:Int}(h:Bt n i)(k:Bt m j)(hn:n+m<=134217728):IntMulOk i j:=by
 unfold IntMulOk;have hb1:=h.bits;have hb2:=k.bits
 have:Builtin.Int.intTooBig (Builtin.Int.intBits i+Builtin.Int.intBits j)=false:=by
  unfold Builtin.Int.intTooBig;apply decide_eq_false;unfold bitsLine;have:(2:Nat) ^ 27=134217728:=by decide
  rw [this];omega
 rw [this];simp
def CMulB(i j:Int):Prop:=∃n m,Bt n i/\Bt m j/\n+m<=134217728
def CDivB(_i j:Int):Prop:=j≠0/\Bt 9000 j
section
variable {X:Cx}
theorem op_fdivB:OpR X (binaryOp .FloorDiv) (rI CDivB fun i j=> .int (i.fdiv j)):=opI fun _ _ _ _ _ _ _ hc q=>floordiv_int hc.1 q (.inl (PyProof.noPylong_of_log2 (hc.2.log (by decide))))
theorem Bt.lit{n:Nat}{i:Int}(h:decide (i.natAbs<2 ^ n)=true):Bt n i:=(of_decide_eq_true h:i.natAbs<2 ^ n)
theorem cmulC{i j:Int}{n m:Nat}(h:Bt n i)(k:Bt m j)(e:decide (n+m<=134217728)=true):CMulB i j:=⟨n,m,h,k,of_decide_eq_true e⟩
theorem cpowC{i j:Int}(h:(decide (0<=j) && decide (j<=1000000) && decide (i.natAbs<2 ^ 64))=true):CPow i j:=by
 rw [Bool.and_eq_true,Bool.and_eq_true] at h
 exact ⟨of_decide_eq_true h.1.1,of_decide_eq_true h.1.2,of_decide_eq_true h.2⟩
inductive TyV (K:W.Frag) (H:Hp):V->String->Prop where
 | non:TyV K H .non "NoneType"
 | bl (x:Bool):TyV K H (.bl x) "bool"
 | int (i:Int):TyV K H (.int i) "int"
 | str (x:Str):TyV K H (.str x) "str"
 | lst {a:Addr} {xs:List V} (e:SqL K H a xs):TyV K H (.ref a) "list"
 | tup {a:Addr} {xs:List V} (e:SqT K H a xs):TyV K H (.ref a) "tuple"
mutual
inductive Rep (K:W.Frag) (H:Hp):V->PyData->Prop
 | none:Rep K H .non .none
 | bool (b:Bool):Rep K H (.bl b) (.bool b)
 | int (i:Int):Rep K H (.int i) (.int i)
 | str (x:Str):Rep K H (.str x) (.str x)
 | list {a:Addr} {xs:List V} {ds:List PyData}:SqL K H a xs->Reps K H xs ds->Rep K H (.ref a) (.list ds)
 | tuple {a:Addr} {xs:List V} {ds:List PyData}:SqT K H a xs->Reps K H xs ds->Rep K H (.ref a) (.tuple ds)
inductive Reps (K:W.Frag) (H:Hp):List V->List PyData->Prop
 | nil:Reps K H [] []
 | cons {v:V} {vs:List V} {d:PyData} {ds:List PyData}:Rep K H v d->Reps K H vs ds->Reps K H (v::vs) (d::ds)
end
mutual
theorem Rep.reads{pins:List (Addr×Obj)}{σ:L2.St}{H:Hp}{s:Shared}(I:Inv X pins σ H s):∀ {v:V} {d:PyData} {u:Value},Rep X.K H v d->RelV v u->∃as,Reads s.heap u d as
 | _,_,_, .none,r=>by cases (show _=Value.none from r);exact ⟨_, .none⟩
 | _,_,_, .bool b,r=>by cases (show _=Value.bool b from r);exact ⟨_, .bool b⟩
 | _,_,_, .int i,r=>by obtain ⟨t,q⟩:=(show ∃t,_=Value.int i t from r);cases q;exact ⟨_, .int i t⟩
 | _,_,_, .str x,r=>by obtain ⟨t,q⟩:=(show ∃t,_=Value.str x t from r);cases q;exact ⟨_, .str x t⟩
 | _,_,_, .list (a:=a) h hs,r=>by
  cases (show _=Value.ref a from r)
  obtain ⟨its,rv,⟨o,n,h1,h2,_,h3⟩,_⟩:=I.list h;obtain ⟨as,ra⟩:=Reps.reads I hs rv
  exact ⟨_, .list h1 h2 h3 (by simpa using ra)⟩
 | _,_,_, .tuple (a:=a) h hs,r=>by
  cases (show _=Value.ref a from r)
  obtain ⟨its,rv,⟨o,h1,h2,n,h3⟩,_⟩:=I.tuple h;obtain ⟨as,ra⟩:=Reps.reads I hs rv;exact ⟨_, .tuple h1 h2 h3 (by simpa using ra)⟩
theorem Reps.reads{pins:List (Addr×Obj)}{σ:L2.St}{H:Hp}{s:Shared}(I:Inv X pins σ H s):∀ {vs:List V} {ds:List PyData} {us:List Value},Reps X.K H vs ds->Vals vs us->∃as,ReadsAll s.heap us ds as
 | _,_,_, .nil,r=>by cases r;exact ⟨_, .nil⟩
 | _,_,_, .cons h hs,r=>by
  cases r with
  | cons r1 r2=>
   obtain ⟨as,q⟩:=Rep.reads I h r1;obtain ⟨bs,q2⟩:=Reps.reads I hs r2;exact ⟨_, .cons q q2⟩
end
def rEqD(K:W.Frag):R2:=fun x y H Q=>∃dx dy,Rep K H x dx/\Rep K H y dy/\dx.canLay0=true/\dy.canLay0=true/\min dx.depth dy.depth<=60/\Q (.bl (PyData.eqv dx dy)) H
def rNeD(K:W.Frag):R2:=fun x y H Q=>∃dx dy,Rep K H x dx/\Rep K H y dy/\dx.canLay0=true/\dy.canLay0=true/\min dx.depth dy.depth<=60/\Q (.bl (!PyData.eqv dx dy)) H
theorem op_eqD(hu:X.A.units+64<cLine):OpR X (compareOp .Eq) (rEqD X.K):=by
 intro pins s σ H x y v u Q I rx ry h;obtain ⟨dx,dy,h1,h2,c1,c2,hd,q⟩:=h;obtain ⟨as,r1⟩:=h1.reads I rx;obtain ⟨bs,r2⟩:=h2.reads I ry;exact SeqAt.compareEq_reads r1 r2 c1 c2 (by omega) ⟨.bl _,H,I,rfl,q⟩
theorem op_neD(hu:X.A.units+64<cLine):OpR X (compareOp .NotEq) (rNeD X.K):=by
 intro pins s σ H x y v u Q I rx ry h;obtain ⟨dx,dy,h1,h2,c1,c2,hd,q⟩:=h;obtain ⟨as,r1⟩:=h1.reads I rx;obtain ⟨bs,r2⟩:=h2.reads I ry;exact SeqAt.compareNe_reads r1 r2 c1 c2 (by omega) ⟨.bl _,H,I,rfl,q⟩
end
theorem _root_.L2.Same.upd{H:Hp}{p:Addr}(h:H p=none)(o:HO):Same H (L2.upd H p o):=fun b u q=>by rw [upd_ne (ne_of_none q h)];exact q
theorem _root_.L2.Same.seqT{K:W.Frag}{H H':Hp}{a:Addr}{xs:List V}(e:Same H H')(h:SqT K H a xs):SqT K H' a xs:=by
 rcases h with (h | ⟨o,h⟩) | h
 . exact .inl (.inl (e _ _ h))
 . exact .inl (.inr ⟨o,e _ _ h⟩)
 . exact .inr h
theorem Rd.same{H H':Hp}{a:Addr}{u:HO}(e:Same H H')(h:Rd H a u):Rd H' a u:=by
 rcases h with h | ⟨o,h⟩
 . exact .inl (e _ _ h)
 . exact .inr ⟨o,e _ _ h⟩
mutual
theorem Rep.same{K:W.Frag}{H H':Hp}(e:Same H H'):∀ {v:V} {d:PyData},Rep K H v d->Rep K H' v d
 | _,_, .none=> .none
 | _,_, .bool b=> .bool b
 | _,_, .int i=> .int i
 | _,_, .str x=> .str x
 | _,_, .list h hs=> .list (e.seq h) (Reps.same e hs)
 | _,_, .tuple h hs=> .tuple (Same.seqT e h) (Reps.same e hs)
theorem Reps.same{K:W.Frag}{H H':Hp}(e:Same H H'):∀ {vs:List V} {ds:List PyData},Reps K H vs ds->Reps K H' vs ds
 | _,_, .nil=> .nil
 | _,_, .cons h hs=> .cons (Rep.same e h) (Reps.same e hs)
end
section
variable {CX:CXT} {P:Program} {w:World} {K:W.Frag} {mg:Str->Option Value} {base:Heap} {N:List Str} {qual:Str} {scope:Scope} {f:Addr} {cd:Value} {A:Around} {outer:List Env} {s:Shared} {H:Hp} {E:XK}
end
structure Def (P:Program) (w:World) (K:W.Frag) (mg:Str->Option Value) (base:Heap) (k:Nat) (x:Str) (ps:List Str) (sp:Sp):Prop where
 ex:∃f fd,FnOk P w K mg base CX0 k f fd ps sp/\mg x=some (.ref f)/\W.keepIn K (.ref f)=true/\Binds K fd ps []
section
variable {X:Cx} {k j:Nat} {x:Str} {ps:List Str} {sp:Sp} {p pos:Pos} {e:Expr} {es:List Expr} {t:TA}
theorem pe_callD (D : Def X.prog X.w X.K X.mg X.base j x ps sp) (hr : Room k X.A) (ha : PA X (e :: es) t) (hj : j <= k := by decide) (hg : Gl X x := by rfl)
 (hdb:(x==("__debug__" : Str))=false:=by decide) (he:starEach (e::es) X.env=(false,eval e X.env)::starEach es X.env:=by rfl) (hpl:(backTo pos (starEach es X.env)).any (·.1)=false:=by rfl) :
 PE X (.Call (.Name x p) (e::es) [] pos) (tCall sp [] E0 t):=by
 obtain ⟨f,fd,F,hm,hk,hb⟩:=D.ex;exact pe_call F (hr.mono hj) hg hm hk hb .nil pass0 ha hdb he hpl
end
end Tf
namespace Tf
open PySem L2
theorem gcd_fmod(x y:Int):Int.gcd y (x.fmod y)=Int.gcd x y:=by
 have e:x.fmod y=x - y*x.fdiv y:=Int.fmod_def x y;rw [e,Int.gcd_comm x y];simp
theorem fmod_lt{x y:Int}(h:y≠0):(x.fmod y).natAbs<y.natAbs:=by
 rcases (by omega:0<y\/y<0) with p | p
 . have h1:=Int.fmod_nonneg_of_pos x p;have h2:=Int.fmod_lt_of_pos x p;omega
 . have e : x.fmod y = -((-x).fmod (-y)) := by
    rw [Int.fmod_def,Int.fmod_def,Int.neg_fdiv_neg];simp [Int.neg_mul];omega
   have h1:=Int.fmod_nonneg_of_pos (-x) (show 0 < -y by omega);have h2:=Int.fmod_lt_of_pos (-x) (show 0 < -y by omega);omega
def sg(a b:Int):Int:=if b<0 then -((Int.gcd a b:Nat):Int) else ((Int.gcd a b:Nat):Int)
def fr(a b:Int):Int×Int:=(a.fdiv (sg a b),b.fdiv (sg a b))
theorem sg_ne{a b:Int}(h:b≠0):sg a b≠0:=by
 have:Int.gcd a b≠0:=by
  intro e;exact h (Int.gcd_eq_zero_iff.mp e).2
 unfold sg
 split <;> omega
theorem sg_dvd(a b:Int):sg a b ∣ a/\sg a b ∣ b:=by
 have h1:=Int.gcd_dvd_left a b;have h2:=Int.gcd_dvd_right a b;unfold sg
 split
 . exact ⟨Int.neg_dvd.mpr h1,Int.neg_dvd.mpr h2⟩
 . exact ⟨h1,h2⟩
theorem fdiv_mul{a d:Int}(hd:d≠0)(h:d ∣ a):a.fdiv d*d=a:=Int.fdiv_mul_cancel h
theorem fr_mul(a b:Int)(h:b≠0):(fr a b).1*sg a b=a/\(fr a b).2*sg a b=b:=
 ⟨fdiv_mul (sg_ne h) (sg_dvd a b).1,fdiv_mul (sg_ne h) (sg_dvd a b).2⟩
theorem fr_pos{a b:Int}(h:b≠0):0<(fr a b).2:=by
 have e:=(fr_mul a b h).2
 have s:(b<0/\sg a b<0)\/(0<b/\0<sg a b):=by
  have:=sg_ne (a:=a) h;unfold sg at *
  split at * <;> omega
 rcases s with ⟨s1,s2⟩ | ⟨s1,s2⟩
 . rcases (by omega:0<(fr a b).2\/(fr a b).2<=0) with p | p
   . exact p
   . have:=Int.mul_nonneg_of_nonpos_of_nonpos p (Int.le_of_lt s2);omega
 . rcases (by omega:0<(fr a b).2\/(fr a b).2<=0) with p | p
   . exact p
   . have:=Int.mul_nonpos_of_nonpos_of_nonneg p (Int.le_of_lt s2);omega
theorem sg_abs(a b:Int):(sg a b).natAbs=Int.gcd a b:=by
 unfold sg
 split <;> omega
theorem fr_gcd{a b:Int}(h:b≠0):Int.gcd (fr a b).1 (fr a b).2=1:=by
 have e:=fr_mul a b h;have g:Int.gcd ((fr a b).1*sg a b) ((fr a b).2*sg a b)=Int.gcd (fr a b).1 (fr a b).2*(sg a b).natAbs:=Int.gcd_mul_right _ _ _;rw [e.1,e.2,sg_abs] at g
 have hp:0<Int.gcd a b:=by
  have:=sg_ne (a:=a) h;have:=sg_abs a b;omega
 have:Int.gcd (fr a b).1 (fr a b).2*Int.gcd a b=1*Int.gcd a b:=by omega
 exact Nat.eq_of_mul_eq_mul_right hp this
theorem fr_cross{a b:Int}(h:b≠0):(fr a b).1*b=a*(fr a b).2:=by
 have e:=fr_mul a b h
 calc (fr a b).1*b=(fr a b).1*((fr a b).2*sg a b):=by rw [e.2]
  _=((fr a b).1*sg a b)*(fr a b).2:=by rw [Int.mul_comm (fr a b).2,Int.mul_assoc]
  _=a*(fr a b).2:=by rw [e.1]
theorem fr_bt{n:Nat}{a b:Int}(ha:Bt n a)(hb:Bt n b):Bt n (fr a b).1/\Bt n (fr a b).2:=⟨ha.fdiv,hb.fdiv⟩
theorem sg_bt{n:Nat}{a b:Int}(h:b≠0)(hb:Bt n b):Bt n (sg a b):=by
 refine hb.of_le ?_;rw [sg_abs];have h2:=Int.natAbs_dvd_natAbs.mpr (Int.gcd_dvd_right a b);exact Nat.le_of_dvd (by omega) (by simpa using h2)
def spLaw(K:W.Frag):Sp:=fun vs H Q _=>∃(a:Addr) (ns:List Int),vs = [.ref a]/\SqL K H a (ns.map V.int)/\ns.length<=63/\∀H',Q (.bl true) H'
end Tf
namespace Tf
open PySem PySem.Spec PyProof.Rows L2
def closL(cells:List (Str×Addr)):List (Str×NameKind)->List (Str×Addr)->List (Str×Addr)
 | [],acc=>acc
 | (n,k)::r,acc=>if k == .free then closL cells r ((n,(cells.lookup n).getD 0)::acc) else closL cells r acc
theorem closL_forIn {env : Env} : ∀ (names : List (Str × NameKind)) (acc : List (Str × Addr)), (∀ y ∈ names, y.2 = .free -> ∃ c, env.cells.lookup y.1 = some c) ->
 (forIn names acc fun (x:Str×NameKind) (r:List (Str×Addr))=>(match x with | (name,kind)=>if (kind==NameKind.free)=true then do let a <-cellOf env name;pure (ForInStep.yield ((name,a)::r)) else pure (ForInStep.yield r):Sem (ForInStep (List (Str×Addr)))))=pure (closL env.cells names acc)
 | [],acc,_=>by rw [List.forIn_nil];rfl
 | (n,k)::r,acc,h=>by
  have ih:=fun acc=>closL_forIn r acc fun y hy=>h y (List.mem_cons_of_mem _ hy);rw [List.forIn_cons];unfold closL
  by_cases hk:(k==NameKind.free)=true
  . obtain ⟨c,hc⟩:=h (n,k) List.mem_cons_self (by simpa using hk);have e:cellOf env n=pure c:=by unfold cellOf;rw [hc]
    simp only [hk,if_true,e];rw [hc];exact ih ((n,c)::acc)
  . simp only [hk,if_false];exact ih acc
theorem closureFor_eq{scope:Scope}{env:Env}(h:∀y ∈ scope.names,y.2 = .free->∃c,env.cells.lookup y.1=some c):closureFor scope env=pure (closL env.cells scope.names []):=by
 unfold closureFor;have:=closL_forIn (env:=env) scope.names [] h;simp only [bind_pure];exact this
theorem closL_of{cells:List (Str×Addr)}:∀ {names:List (Str×NameKind)} {acc:List (Str×Addr)} {x:Str} {c:Addr},(closL cells names acc).lookup x=some c->acc.lookup x=some c\/((x,NameKind.free) ∈ names/\c=(cells.lookup x).getD 0)
 | [],_,_,_,h=> .inl h
 | (n,k)::r,acc,x,c,h=>by
  unfold closL at h
  split at h
  . rename_i hk;rcases closL_of h with q | ⟨q,e⟩
    . rw [List.lookup_cons] at q
      cases hx:x==n with
      | true=>
       rw [hx] at q
       have e:=beq_iff_eq.mp hx;subst e;have hk':k = .free:=by simpa using hk
       subst hk'
       exact .inr ⟨List.mem_cons_self,(Option.some.inj q).symm⟩
      | false=>rw [hx] at q;exact .inl q
    . exact .inr ⟨List.mem_cons_of_mem _ q,e⟩
  . rcases closL_of h with q | ⟨q,e⟩
    . exact .inl q
    . exact .inr ⟨List.mem_cons_of_mem _ q,e⟩
theorem closL_acc{cells:List (Str×Addr)}:∀ {names:List (Str×NameKind)} {acc:List (Str×Addr)} {x:Str},acc.lookup x=some ((cells.lookup x).getD 0)->(closL cells names acc).lookup x=some ((cells.lookup x).getD 0)
 | [],_,_,h=>h
 | (n,k)::r,acc,x,h=>by
  unfold closL
  split
  . refine closL_acc ?_;rw [List.lookup_cons]
    cases hx:x==n with
    | true=>have e:=beq_iff_eq.mp hx;subst e;rfl
    | false=>exact h
  . exact closL_acc h
theorem closL_free{cells:List (Str×Addr)}:∀ {names:List (Str×NameKind)} {acc:List (Str×Addr)} {x:Str},(x,NameKind.free) ∈ names->(closL cells names acc).lookup x=some ((cells.lookup x).getD 0)
 | (n,k)::r,acc,x,h=>by
  unfold closL;rcases List.mem_cons.mp h with e | h
  . cases e
    simp only [beq_self_eq_true,if_true];exact closL_acc (by rw [List.lookup_cons,beq_self_eq_true])
  . split
    . exact closL_free h
    . exact closL_free h
theorem cf_app:∀(names:List (Str×NameKind)) (n:Nat) (acc:List (Str×Addr)),cellsFrom n names acc=cellsFrom n names []++acc
 | [],_,_=>rfl
 | (x,k)::r,n,acc=>by
  unfold cellsFrom
  split
  . rw [cf_app r (n+1) ((x,n)::acc),cf_app r (n+1) [(x,n)],List.append_assoc];rfl
  . exact cf_app r n acc
theorem lookup_app{α:Type}(x:Str):∀(a b:List (Str×α)),(a++b).lookup x=(match a.lookup x with | some c=>some c | none=>b.lookup x)
 | [],b=>rfl
 | (k,v)::r,b=>by
  rw [List.cons_append,List.lookup_cons,List.lookup_cons]
  cases hx:x==k with
  | true=>rfl
  | false=>exact lookup_app x r b
theorem cf_has:∀ {names:List (Str×NameKind)} {n:Nat} {acc:List (Str×Addr)} {x:Str},(x,NameKind.cell) ∈ names->∃c,(cellsFrom n names acc).lookup x=some c
 | (y,k)::r,n,acc,x,h=>by
  unfold cellsFrom;rcases List.mem_cons.mp h with e | h
  . obtain ⟨rfl,rfl⟩:=Prod.mk.inj e;simp only [beq_self_eq_true,if_true];rw [cf_app,lookup_app]
    cases q:(cellsFrom (n+1) r []).lookup x with
    | some c=>exact ⟨c,rfl⟩
    | none=>exact ⟨n,by simp [List.lookup_cons]⟩
  . split
    . exact cf_has h
    . exact cf_has h
theorem cf_mem:∀ {names:List (Str×NameKind)} {n:Nat} {x:Str} {c:Addr},(x,c) ∈ cellsFrom n names []->(x,NameKind.cell) ∈ names
 | (y,k)::r,n,x,c,h=>by
  unfold cellsFrom at h
  split at h
  . rename_i hk;rw [cf_app] at h
    rcases List.mem_append.mp h with q | q
    . exact List.mem_cons_of_mem _ (cf_mem q)
    . have hk':k = .cell:=by simpa using hk
      subst hk';have e:(x,c)=(y,n):=by simpa using q
      cases e
      exact List.mem_cons_self
  . exact List.mem_cons_of_mem _ (cf_mem h)
def relabelS(sc osc:Scope):Scope:=
 { sc with names:=sc.names.map fun (n,k)=>if (k == .free && osc.kind == .function && osc.names.lookup n==some .cell) then (n, .cell) else (n,k) }
theorem relabel_eq(sc:Scope)(env:Env):relabel sc env=relabelS sc env.scope:=rfl
theorem relabelS_lookup {osc : Scope} : ∀ {names : List (Str × NameKind)} {x : Str} {k : NameKind}, (names.map fun (p : Str × NameKind) => (match p with | (n, k) => if (k == NameKind.free && osc.kind == .function && osc.names.lookup n == some NameKind.cell) = true then (n, NameKind.cell) else (n, k))).lookup x = some k ->
 ∃k',names.lookup x=some k'/\(k'=k\/(k' = .free/\k = .cell))
 | [],_,_,h=>by simp at h
 | (n,k0)::r,x,k,h=>by
  rw [List.map_cons] at h
  by_cases hc:(k0==NameKind.free && osc.kind == .function && osc.names.lookup n==some NameKind.cell)=true
  . simp only [hc,if_true] at h
    rw [List.lookup_cons] at h
    cases hx:x==n with
    | true=>
     rw [hx] at h
     simp only [Option.some.injEq] at h
     subst h;refine ⟨k0,by rw [List.lookup_cons,hx], .inr ⟨?_,rfl⟩⟩;simp only [Bool.and_eq_true,beq_iff_eq] at hc
     exact hc.1.1
    | false=>
     rw [hx] at h
     obtain ⟨k',e,d⟩:=relabelS_lookup h;exact ⟨k',by rw [List.lookup_cons,hx];exact e,d⟩
  . simp only [if_neg hc] at h
    rw [List.lookup_cons] at h
    cases hx:x==n with
    | true=>
     rw [hx] at h
     simp only [Option.some.injEq] at h
     subst h
     exact ⟨k0,by rw [List.lookup_cons,hx], .inl rfl⟩
    | false=>
     rw [hx] at h
     obtain ⟨k',e,d⟩:=relabelS_lookup h;exact ⟨k',by rw [List.lookup_cons,hx];exact e,d⟩
theorem lookup_of_mem{α:Type}:∀ {l:List (Str×α)} {x:Str} {k:α},(l.map (·.1)).Nodup->(x,k) ∈ l->l.lookup x=some k
 | (y,j)::r,x,k,nd,h=>by
  rw [List.map_cons,List.nodup_cons] at nd
  rw [List.lookup_cons];rcases List.mem_cons.mp h with e | h'
  . cases e;rw [beq_self_eq_true]
  . have : (x == y) = false := by
     apply beq_eq_false_iff_ne.mpr;intro e;subst e;exact nd.1 (List.mem_map.mpr ⟨_,h',rfl⟩)
    rw [this];exact lookup_of_mem nd.2 h'
def csOk(osc sc:Scope)(N N':List Str)(ix:List (Option Nat)):Bool:=
 decide (sc.kind = .function) && decide (osc.kind = .function) && sc.names.all (fun y=>decide (y.2 = .local->sc.names.lookup y.1=some .local)) &&
 sc.names.all (fun y=>decide (y.2 = .free->(osc.names.lookup y.1=some .cell\/osc.names.lookup y.1=some .free))) && decide (N'.Nodup) && decide ((sc.names.map (·.1)).Nodup) && decide (N'.length=ix.length) &&
 (List.range ix.length).all fun i=>match ix[i]? with
  | some (some j)=>decide (N[j]? = N'[i]?) && (match N'[i]? with | some x=>decide (sc.names.lookup x=some .free) | none=>false)
  | _=>true
structure CS (osc sc:Scope) (N N':List Str) (ix:List (Option Nat)):Prop where
 kind:sc.kind = .function
 okind:osc.kind = .function
 names:∀y ∈ sc.names,y.2 = .local->sc.names.lookup y.1=some .local
 free:∀y ∈ sc.names,y.2 = .free->osc.names.lookup y.1=some .cell\/osc.names.lookup y.1=some .free
 nd:N'.Nodup
 ns:(sc.names.map (·.1)).Nodup
 len:N'.length=ix.length
 ixs:∀(i j:Nat),ix[i]? = some (some j)->∃x,N'[i]? = some x/\N[j]? = some x/\sc.names.lookup x=some .free
theorem CS.of{osc sc:Scope}{N N':List Str}{ix:List (Option Nat)}(h:csOk osc sc N N' ix=true):CS osc sc N N' ix:=by
 unfold csOk at h
 simp only [Bool.and_eq_true,List.all_eq_true,decide_eq_true_eq] at h
 obtain ⟨⟨⟨⟨⟨⟨⟨h1,h2⟩,h3⟩,h4⟩,h5⟩,h8⟩,h6⟩,h7⟩:=h;refine ⟨h1,h2,h3,h4,h5,h8,h6,fun i j e=> ?_⟩;have hi:i<ix.length:=(List.getElem?_eq_some_iff.mp e).1;have q:=h7 i (List.mem_range.mpr hi);rw [e] at q
 simp only [Bool.and_eq_true,decide_eq_true_eq] at q
 cases e2:N'[i]? with
 | none=>rw [e2] at q;exact absurd q.2 (by simp)
 | some x=>
  rw [e2] at q
  exact ⟨x,rfl,q.1,by simpa using q.2⟩
def subS(ix:List (Option Nat))(σ:L2.St):L2.St:=ix.map fun o=>match o with | some j=>(σ[j]?).join | none=>none
structure CB where
 C:Addr
 s₀:Shared
 H₀:Hp
 ex:List Addr
def cEnv(osc sc:Scope)(cl:List (Str×Addr))(C:Addr)(env:Env):Env:=
 { scope:=relabelS sc osc,locals:=C,globals:=env.globals,cells:=cellsFrom (C+1) sc.names cl,qual:=env.qual,func:=none,code:=env.code,frame:=env.frame,builtins:=env.builtins }
def cxC(X:Cx)(osc sc:Scope)(N':List Str)(b:CB):Cx where
 prog:=X.prog
 w:=X.w
 K:=X.K
 mg:=X.mg
 base:=X.base
 A:=X.A
 N:=N'
 s₀:=b.s₀
 H₀:=b.H₀
 env:=cEnv osc sc (closL X.env.cells sc.names []) b.C X.env
 outer:=X.stack
 stack:=X.stack
 ex:=b.ex
 fn:=fun x=>decide (sc.names.lookup x=some .cell)
 calm:=X.calm
 pn:= []
 xe:=fun _ _=>False
def accObj:Obj:={ cls:= .type "list",dict:=none,data:= .seq ([]:List Value).toArray }
def dctObj:Obj:={ cls:= .type "dict",data:= .dict #[] }
def blkHeap(h:Heap)(sc:Scope):Heap:=pushCells ((h.push accObj).push dctObj) sc.names
theorem blk_keeps{h:Heap}{sc:Scope}:∀b o,h.get? b=some o->(blkHeap h sc).get? b=some o:=fun b o e=>pushCells_keeps _ _ b o (Heap.get?_push_of_some _ (Heap.get?_push_of_some _ e))
theorem wpAny_newEnv_comp {M : Model} {A : Around} {E : Value -> Shared -> Prop} {s : Shared} {scope : Scope} {globals : Addr} {cl : List (Str × Addr)} {qual : Str} {env : Env} {Q : Env -> Shared -> Prop}
 (h:Q (newEnv scope s.heap.objs.size globals (cellsFrom (s.heap.objs.size+1) scope.names cl) qual none .none (some env) builtinsNs) { s with heap:=pushCells (s.heap.push dctObj) scope.names }) :
 wpAny M A (newFunctionEnv scope globals cl [] qual none .none (some env)) Q E s:=by
 simp only [newFunctionEnv,Option.isSome_some,if_true];refine wpAny_bind (wpAny_alloc ?_);refine wpAny_bind (wpAny_layCells _ (fun name kind cells=>by cases hkc:kind==NameKind.cell <;> simp [hkc]) _ _ _ _ ?_);rw [show ({ s with heap:=s.heap.push { cls:= .type "dict",data:= .dict #[] } }:Shared).heap.objs.size=s.heap.objs.size+1 from Heap.size_push ..];simp only [List.forIn_nil];exact wpAny_bind (wpAny_pure (wpAny_pure h))
section
variable {X:Cx} {pins:List (Addr×Obj)} {σ:L2.St} {H:Hp} {s:Shared} {osc sc:Scope} {N':List Str} {ix:List (Option Nat)} {fp:List Addr}
theorem closes(I:Inv X pins σ H s)(cs:CS osc sc X.N N' ix)(ho:X.env.scope=osc):∀y ∈ sc.names,y.2 = .free->∃c,X.env.cells.lookup y.1=some c:=fun y hy hf=>by
 refine I.ok.has y.1 ?_;have q:=cs.free y hy hf;rw [<-ho] at q
 exact q
theorem blk_cell (I : Inv X pins σ H s) (cs : CS osc sc X.N N' ix) (ho : X.env.scope = osc) {C : Addr} {x : Str} {c : Addr} (h : (cellsFrom (C + 1) sc.names (closL X.env.cells sc.names [])).lookup x = some c) :
 ((x,c) ∈ cellsFrom (C+1) sc.names [] )\/((x,NameKind.free) ∈ sc.names/\X.env.cells.lookup x=some c):=by
 rw [cf_app,lookup_app] at h
 cases e:(cellsFrom (C+1) sc.names []).lookup x with
 | some d=>rw [e] at h;cases h;exact .inl (mem_of_lookup e)
 | none=>
  rw [e] at h
  rcases closL_of h with q | ⟨q,d⟩
  . cases q
  . obtain ⟨c',hc⟩:=closes I cs ho _ q rfl;rw [show X.env.cells.lookup x=some c' from hc] at d
    exact .inr ⟨q,by rw [show X.env.cells.lookup x=some c' from hc];rw [d];rfl⟩
theorem inv_comp (I : Inv X pins σ H s) (cs : CS osc sc X.N N' ix) (ho : X.env.scope = osc) (hfp : ∀ b ∈ fp, FpOk X pins H b) (hlt : ∀ b ∈ fp, b < s.heap.objs.size) :
 Inv (cxC X osc sc N' ⟨s.heap.objs.size+1,s,H,fp ++ [s.heap.objs.size]⟩) [] (subS ix σ) H { s with heap:=blkHeap s.heap sc }:=by
 have okc:=cellsFrom_ok sc.names ((s.heap.push accObj).push dctObj) (s.heap.objs.size+2) [] ⟨fun _ _ hm=>(nomatch hm),List.Pairwise.nil⟩ (by rw [Heap.size_push,Heap.size_push];exact Nat.le_refl _);have esz:((s.heap.push accObj).push dctObj).objs.size=s.heap.objs.size+1+1:=by rw [Heap.size_push,Heap.size_push]
 rw [esz] at okc
 have cell:=fun {x:Str} {c:Addr}=>blk_cell (C:=s.heap.objs.size+1) (x:=x) (c:=c) I cs ho;have oldc:∀ {x:Str} {c:Addr},X.env.cells.lookup x=some c -> @LT.lt Nat _ c s.heap.objs.size:=fun {x c} h=>(I.cell x c h).elim fun v hv=>hv.lt;have ltS:∀ {h:Heap} {b:Addr} {o:Obj},h.get? b=some o -> @LT.lt Nat _ b h.objs.size:=fun e=>Heap.lt_size e;have newc:∀ {x:Str} {c:Addr},(x,c) ∈ cellsFrom (s.heap.objs.size+1+1) sc.names []->s.heap.objs.size+2<=c:=fun {x c} h=>(okc.empty x c h).2
 have nsC:∃m,(blkHeap s.heap sc).Ns (s.heap.objs.size+1) m:=⟨_,by
  have q:=(Heap.Ns.new (s.heap.push accObj) (.type "dict")).keeps (pushCells_keeps sc.names _);rw [Heap.size_push] at q
  exact q⟩
 refine ⟨?ok,rfl,I.bare,Un.kept blk_keeps,?loc,?cell,I.hok.fresh (Nat.le_succ _),?freeC,?pin,I.hok.kept blk_keeps,?len⟩
 case ok=>
  refine ⟨I.ok.mod,cs.kind,I.ok.glob,I.ok.blt,Nat.le_succ _,?inj,?has,?cab,I.ok.hd,I.ok.frames, .inl rfl,?exf,I.bs,?bsz,?noex,?exfs,I.stack,I.stkFree⟩
  case inj=>
   intro x y c hx hy;rcases cell hx with p | ⟨p,p'⟩ <;> rcases cell hy with q | ⟨q,q'⟩
   . exact name_of_addr okc.apart p q
   . have a1:=newc p;have a2:=oldc q';omega
   . have a1:=newc q;have a2:=oldc p';omega
   . exact I.ok.inj x y c p' q'
  case has=>
   intro x hx
   have key:∀k,(relabelS sc osc).names.lookup x=some k->(k = .cell\/k = .free)->∃c,(cellsFrom (s.heap.objs.size+1+1) sc.names (closL X.env.cells sc.names [])).lookup x=some c:=by
    intro k hk hk2;obtain ⟨k',e,d⟩:=relabelS_lookup hk;have hm:=mem_of_lookup e
    have:k' = .cell\/k' = .free:=by
     rcases d with d | d
     . rcases hk2 with r | r
       . exact .inl (d.trans r)
       . exact .inr (d.trans r)
     . exact .inr d.1
    rcases this with r | r
    . subst r;exact cf_has hm
    . subst r;rw [cf_app,lookup_app,closL_free hm]
      cases (cellsFrom (s.heap.objs.size+1+1) sc.names []).lookup x with
      | some c=>exact ⟨c,rfl⟩
      | none=>exact ⟨_,rfl⟩
   rcases hx with hx | hx
   . exact key _ hx (.inl rfl)
   . exact key _ hx (.inr rfl)
  case cab=>
   intro x c hf hc;have hf':sc.names.lookup x=some .cell:=of_decide_eq_true hf;rcases cell hc with p | ⟨p,p'⟩
   . have:=newc p;show s.heap.objs.size<=c;omega
   . rw [lookup_of_mem cs.ns p] at hf'
     cases hf'
  case exf=>
   intro b hb;rcases List.mem_append.mp hb with hb | hb
   . have hl : @LT.lt Nat _ b s.heap.objs.size:=hlt b hb;obtain ⟨f0,f1,f2,f3,f4,f5⟩:=hfp b hb;refine ⟨fun e=> ?_,fun x c hc e=> ?_⟩
     . have e:b=s.heap.objs.size+1:=e;subst e;omega
     . rcases cell hc with p | ⟨p,p'⟩
       . have:=newc p;subst e;omega
       . exact f4 x c p' e
   . have hb:b=s.heap.objs.size:=by simpa using hb
     subst hb;refine ⟨fun e=>Nat.succ_ne_self _ (Eq.symm (show s.heap.objs.size=s.heap.objs.size+1 from e)),fun x c hc e=> ?_⟩;rcases cell hc with p | ⟨p,p'⟩
     . have:=newc p;subst e;omega
     . have:=oldc p';subst e;omega
  case bsz=>exact Nat.le_trans I.ok.bsz I.sz
  case noex=>
   intro b o e hb;have e:X.base.get? b=some o:=e;rcases List.mem_append.mp hb with hb | hb
   . obtain ⟨f0,f1,f2,f3,f4,f5⟩:=hfp b hb;rcases f3 with f3 | f3
     . exact I.ok.noex b o e f3
     . have:=ltS e;have:=I.ok.bsz;omega
   . have hb:b=s.heap.objs.size:=by simpa using hb
     have:=ltS e;have:=I.ok.bsz;have:=I.sz;subst hb;omega
  case exfs=>
   intro b hb hf;have hf:=I.stkSub b hf;rcases List.mem_append.mp hb with hb | hb
   . obtain ⟨f0,f1,f2,f3,f4,f5⟩:=hfp b hb;rcases List.mem_cons.mp hf with e | hf
     . exact f1 e
     . exact f2 hf
   . have hb:b=s.heap.objs.size:=by simpa using hb
     rcases List.mem_cons.mp hf with e | hf
     . have l : @LT.lt Nat _ X.env.locals s.heap.objs.size:=I.lt;rw [hb] at e
       rw [<-e] at l
       omega
     . exact I.nofs (Nat.le_of_eq hb.symm) hf
 case loc=>
  obtain ⟨m',hm'⟩:=nsC;obtain ⟨m,hm,hl⟩:=I.loc;refine ⟨m',hm',fun i x v hx hv hvis=> ?_⟩;unfold subS at hv
  rw [List.getElem?_map] at hv
  cases e:ix[i]? with
  | none=>rw [e] at hv;cases hv
  | some o=>
   rw [e] at hv
   cases o with
   | none=>cases hv
   | some j=>
    simp only [Option.map_some,Option.some.injEq] at hv
    obtain ⟨y,h1,h2,h3⟩:=cs.ixs i j e;have hx':N'[i]? = some x:=hx;rw [h1] at hx'
    cases hx'
    have hj:σ[j]? = some (some v):=by
     cases q:σ[j]? with
     | none=>rw [q] at hv;cases hv
     | some z=>rw [q] at hv;simp only [Option.join_some] at hv;rw [hv]
    have hfree:=mem_of_lookup h3;have hk:=cs.free _ hfree rfl;rw [<-ho] at hk
    have hvis0:Vis X.env.scope x:=by
     rcases hk with r | r
     . exact .inr (.inl r)
     . exact .inr (.inr r)
    obtain ⟨u,ru,lk⟩:=hl j x v h2 hj hvis0;refine ⟨u,ru, .inr ⟨?_,?_⟩⟩
    . rcases hvis with q | q | q
      . obtain ⟨k',e',d⟩:=relabelS_lookup q;rw [h3] at e'
        cases e'
        rcases d with d | d
        . cases d
        . cases d.2
      . exact .inl q
      . exact .inr q
    . rcases lk with ⟨lk,_⟩ | ⟨_,c,hc,hcell⟩
      . have:X.env.scope.names.lookup x=some .local:=lk;rw [this] at hk
        rcases hk with r | r <;> cases r
      . refine ⟨c,?_,hcell.keeps blk_keeps⟩;show (cellsFrom (s.heap.objs.size+1+1) sc.names (closL X.env.cells sc.names [])).lookup x=some c;rw [cf_app,lookup_app,closL_free hfree,hc]
        cases e2:(cellsFrom (s.heap.objs.size+1+1) sc.names []).lookup x with
        | some d=>
         have:=lookup_of_mem cs.ns (cf_mem (mem_of_lookup e2));rw [h3] at this
         cases this
        | none=>rfl
 case cell=>
  intro x c hc;rcases cell hc with p | ⟨p,p'⟩
  . exact ⟨_,(okc.empty x c p).1⟩
  . obtain ⟨v,hv⟩:=I.cell x c p';exact ⟨v,hv.keeps blk_keeps⟩
 case freeC=>
  intro x c hc;rcases cell hc with p | ⟨p,p'⟩
  . have:=newc p;exact I.hok.fresh (by omega)
  . exact I.freeC x c p'
 case pin=>intro p hp;cases hp
 case len=>
  show (subS ix σ).length=N'.length;unfold subS;rw [List.length_map,cs.len]
def GK(S:Nat->Bool)(g:TG):Prop:=∀v σ H Q,g v σ H Q->g v σ H fun σ' H'=>Q σ' H'/\σ'.length=σ.length/\∀i:Nat,S i=false->σ'[i]? = σ[i]?
def PTs(X:Cx)(ifs:List Expr)(t:TT):Prop:=
 ∀(pins:List (Addr×Obj)) (s:Shared) (σ:L2.St) (H:Hp) (Q:Bool->Hp->Prop),Inv X pins σ H s->t σ H Q ->
   wpAny (model X.prog X.w) X.A (forIn ifs true fun c r=>if r=true then do let ok <-isTrue c X.env (eval c X.env);pure (ForInStep.yield ok) else pure (ForInStep.yield r)) (TP X pins σ Q) X.xe s
def tNoTest:TT:=fun _ H Q=>Q true H
theorem pts_nil{X:Cx}:PTs X [] tNoTest:=fun _ _ _ H _ I h=>wpAny_tests_nil ⟨H,I,h⟩
def tLCg(J:It)(σ0:L2.St)(g:TG)(tt:TT)(te:TE)(H1:Hp)(Q:VK):Prop:=∃W:Nat->Nat->List V->Hp->Prop,(∃m,W 0 m [] H1)/\∀i m ys H,W i m ys H->ys.length<sizeLine /\
 ((J.stop i H/\∀p,H p=none->Q (.ref p) (upd H p (.lst ys))) \/
  (J.go i H/\∃N:List V->Hp->Prop,(∀ys' H',N ys' H'->∃m',m'<m/\W (i+1) m' ys' H')/\∀x H',J.yld i H x H'->g x σ0 H' fun σ2 H2=>tt σ2 H2 fun b H3=>if b=true then te σ2 H3 fun y H4=>N (ys ++ [y]) H4 else N ys H3))
theorem codeAny_compLoop_any {prog : Program} {w : World} {A : Around} {R : Result -> Shared -> Prop} {s : Shared} {elt target iter : Expr} {ifs : List Expr} {scope : Scope} {pos : Pos} {it acc : Value} {env : Env} (I : Nat -> Shared -> Prop)
 (turn:∀n s,I n s->wpAny (model prog w) A (pyNext it) (fun r s₁=>match r with
  | none=>R (.ok .next) s₁
  | some v => wpAny (model prog w) A (letOwnedTupleGo target it v) (fun _ s₁ => wpAny (model prog w) A (assign target env v) (fun _ s₂ =>
   wpAny (model prog w) A (forIn ifs true fun c r=>if r=true then do let ok <-isTrue c env (eval c env);pure (ForInStep.yield ok) else pure (ForInStep.yield r)) (fun ok s₃=>
    if ok=true then wpAny (model prog w) A (eval elt env) (fun x s₄=>
     wpAny (model prog w) A (call (.builtin "list.append") [acc,x]) (fun _ s₅=>∃m,m<n/\I m s₅) (fun _ _=>False) s₄) (fun _ _=>False) s₃
    else ∃m,m<n/\I m s₃) (fun _ _=>False) s₂) (fun _ _=>False) s₁) (fun _ _=>False) s₁) (fun _ _=>False) s)
 (n:Nat) (h:I n s) :
 codeAny (model prog w) A (.compLoop (.ListComp elt [⟨target,iter,ifs,0⟩] scope pos) 0 it acc env) R s:=by
 refine codeAny_loop rfl I (fun n s hI=> ?_) n h;show wpAny _ A ((compTurn (.ListComp elt [⟨target,iter,ifs,0⟩] scope pos) 0 it acc env).onRaise (fun x=>do noteFrame x env;theTreesLotGoes x)) _ _ s;refine wpAny_noted ?_;rw [compTurn_list];refine wpAny_bind (wpAny_standAt (wpAny_bind (wpAny_mono (turn n s hI) (fun r s₁ h₁=> ?_) fun _ _ h'=>h'.elim)))
 cases r with
 | none=>exact wpAny_pure h₁
 | some v=>
  refine wpAny_bind (wpAny_mono h₁ (fun _ s₁ h₁=> ?_) fun _ _ h'=>h'.elim);refine wpAny_bind (wpAny_mono h₁ (fun _ s₂ h₂=>wpAny_bind (wpAny_mono h₂ (fun ok s₃ h₃=> ?_) fun _ _ h'=>h'.elim)) fun _ _ h'=>h'.elim)
  cases ok with
  | false=>exact wpAny_pure ⟨rfl,h₃⟩
  | true=>
   exact wpAny_bind (wpAny_bind (wpAny_mono h₃ (fun x s₄ h₄=>wpAny_bind (wpAny_mono h₄ (fun _ s₅ h₅=>wpAny_pure (wpAny_pure ⟨rfl,h₅⟩)) fun _ _ h'=>h'.elim)) fun _ _ h'=>h'.elim))
theorem HOk_add{P:Program}{w:World}{H:Hp}{h:Heap}{a:Addr}{o:HO}(x:HOk P w H h)(hn:H a=none)(new:ObjOk P w (upd H a o) h a o):HOk P w (upd H a o) h:=fun b u e=>by
 by_cases hb:b=a
 . subst hb;rw [upd_same] at e
   cases e
   exact new
 . rw [upd_ne hb] at e
   refine (x b u e).stay (fun _ _ _ q=>q) (fun c q=> ?_) fun c xs q=> ?_
   . rw [upd_ne (ne_of_none q hn)];exact q
   . rw [upd_ne (ne_of_none q hn)];exact q
def slotS(ix:List (Option Nat))(i:Nat):Bool:=match ix[i]? with | some (some _)=>false | _=>true
structure BlkEnd (X:Cx) (pins:List (Addr×Obj)) (σ:L2.St) (C D:Addr) (H:Hp) (ys:List V) (s':Shared):Prop where
 inv:Inv X pins σ (upd H D (.lst ys)) s'
 free:H D=none
 ns:∃m,s'.heap.Ns C m
 cfree:(upd H D (.lst ys)) C=none
 cl:C≠X.env.locals
 cn:X.s₀.heap.objs.size<=C
 cc:∀x c,X.env.cells.lookup x=some c->c≠C
 cp:∀p ∈ X.pn++pins,p.1≠C
theorem run_block {tg elt iter : Expr} {ifs : List Expr} {scope : Scope} {pos : Pos} {J : It} {it : Addr} {tn : Nat -> Heap -> Prop} {g : TG} {tt : TT} {te : TE} {Q : VK} {R : Result -> Shared -> Prop}
 (I2:Inv X pins σ H s) (cs:CS osc sc X.N N' ix) (ho:X.env.scope=osc) (hc:X.calm=true) (T:Turn X.prog X.w X.K tg J fp it tn) (st2:tn 0 s.heap) (f2:∀b ∈ fp,FpOk X pins H b)
 (hg:PG (cxC X osc sc N' ⟨s.heap.objs.size+1,s,H,fp ++ [s.heap.objs.size]⟩) tg g) (gk:GK (slotS ix) g)
 (ht:PTs (cxC X osc sc N' ⟨s.heap.objs.size+1,s,H,fp ++ [s.heap.objs.size]⟩) ifs tt) (he:PE (cxC X osc sc N' ⟨s.heap.objs.size+1,s,H,fp ++ [s.heap.objs.size]⟩) elt te)
 (rd:tLCg J (subS ix σ) g tt te H Q)
 (hR:∀ys H' s',BlkEnd X pins σ (s.heap.objs.size+1) s.heap.objs.size H' ys s'->Q (.ref s.heap.objs.size) (upd H' s.heap.objs.size (.lst ys))->R (.ok .next) s') :
 codeAny (model X.prog X.w) X.A (.compStart (.ListComp elt [⟨tg,iter,ifs,0⟩] scope pos) 0 (.ref it) (.ref s.heap.objs.size) (cEnv osc sc (closL X.env.cells sc.names []) (s.heap.objs.size+1) X.env)) R { s with heap:=blkHeap s.heap sc }:=by
 have ltS:∀ {h:Heap} {b:Addr} {o:Obj},h.get? b=some o -> @LT.lt Nat _ b h.objs.size:=fun e=>Heap.lt_size e;have hlt:∀b ∈ fp,b<s.heap.objs.size:=fun b hb=>(T.obj 0 _ st2 b hb).elim fun o h=>Heap.lt_size h.1;have I3:=inv_comp I2 cs ho f2 hlt;generalize eX:cxC X osc sc N' ⟨s.heap.objs.size+1,s,H,fp ++ [s.heap.objs.size]⟩=X' at *
 have eE:cEnv osc sc (closL X.env.cells sc.names []) (s.heap.objs.size+1) X.env=X'.env:=by rw [<-eX];rfl
 have eP:X'.prog=X.prog:=by rw [<-eX];rfl
 have eW:X'.w=X.w:=by rw [<-eX];rfl
 have eK:X'.K=X.K:=by rw [<-eX];rfl
 have eA:X'.A=X.A:=by rw [<-eX];rfl
 have eC:X'.calm=true:=by rw [<-eX];exact hc
 have eL:X'.env.locals=s.heap.objs.size+1:=by rw [<-eX];rfl
 have eF:X'.fs=frs X.stack:=by rw [<-eX];rfl
 have eEx:X'.ex=fp ++ [s.heap.objs.size]:=by rw [<-eX];rfl
 have eN:X'.pn = []:=by rw [<-eX];rfl
 have eS:X'.s₀=s:=by rw [<-eX];rfl
 have eH:X'.H₀=H:=by rw [<-eX];rfl
 have exe:X'.xe=fun _ _=>False:=by rw [<-eX];rfl
 have okX:=I3.ok;have mD:s.heap.objs.size ∈ X'.ex:=by rw [eEx];exact List.mem_append_right _ (List.mem_singleton.mpr rfl)
 have mF:∀b ∈ fp,b ∈ X'.ex:=fun b hb=>by rw [eEx];exact List.mem_append_left _ hb
 obtain ⟨W,⟨m0,w0⟩,turn⟩:=rd
 have stat:∀ {H':Hp} {o:Obj},(∀b ∈ fp,H' b=none)->∀b ∈ fp,FpOk X' [(s.heap.objs.size,o)] H' b:=fun {H' o} hn b hb=>by
  refine ⟨hn b hb,(okX.exf b (mF b hb)).1,okX.exfs b (mF b hb), .inl (mF b hb),(okX.exf b (mF b hb)).2,fun p hp e=> ?_⟩;rw [eN] at hp
  have hp:p=(s.heap.objs.size,o):=by simpa using hp
  subst hp;have l : @LT.lt Nat _ b s.heap.objs.size:=hlt b hb;have e:s.heap.objs.size=b:=e;rw [<-e] at l
  omega
 have pinD:∀ {σ':L2.St} {H':Hp} {s':Shared} {o:Obj},Inv X' [] σ' H' s'->s'.heap.get? s.heap.objs.size=some o->H' s.heap.objs.size=none->(∀v,o.data ≠ .cell v)->Inv X' [(s.heap.objs.size,o)] σ' H' s':=fun {σ' H' s' o} I e hn hd=>by
  refine I.pins_of fun p hp=> ?_;have hp:p=(s.heap.objs.size,o):=by simpa using hp
  subst hp;exact ⟨e,hn,(okX.exf _ mD).1,okX.exfs _ mD,hd⟩
 rw [eE];have I3':Inv X' [] (subS ix σ) H { s with heap:=blkHeap s.heap sc }:=I3;have dat:∀(its:List Value) (k:Nat) (v:Option Value),({ cls:= .type "list",data:= .seq its.toArray k }:Obj).data ≠ .cell v:=fun _ _ _ z=>nomatch z;have acc0:(blkHeap s.heap sc).get? s.heap.objs.size=some { cls:= .type "list",data:= .seq ([]:List Value).toArray 0 }:=pushCells_keeps _ _ _ _ (Heap.get?_push_of_some _ (Heap.get?_push_size _ rfl));have st3:tn 0 (blkHeap s.heap sc):=T.keep 0 _ _ st2 fun b hb o e=>blk_keeps b o e
 have loop:∀s3:Shared,s3={ s with heap:=blkHeap s.heap sc }->codeAny (model X.prog X.w) X.A (.compLoop (.ListComp elt [⟨tg,iter,ifs,0⟩] scope pos) 0 (.ref it) (.ref s.heap.objs.size) X'.env) R s3:=by
  rintro s3 rfl
  refine codeAny_compLoop_any (fun n s'=>∃i ys H' its k,Inv X' [] (subS ix σ) H' s'/\tn i s'.heap/\(∀b ∈ fp,H' b=none)/\W i n ys H'/\s'.heap.get? s.heap.objs.size=some { cls:= .type "list",data:= .seq its.toArray k }/\Vals ys its/\H' s.heap.objs.size=none)
   ?_ m0 ⟨0,[],H,[],0,I3',st3,fun b hb=>(f2 b hb).1,w0,acc0, .nil,I2.hok.fresh (Nat.le_refl _)⟩
  rintro n s3 ⟨i,ys,H3,its,k,J3,t3,fr3,w3,a3,v3,d3⟩;obtain ⟨hz,w3⟩:=turn i n ys H3 w3;have J3p:=pinD J3 a3 d3 (dat its k);rcases w3 with ⟨stop,q⟩ | ⟨go,N,hN,step⟩
  . have TD:=T.done X' eP eW eK eC i [(s.heap.objs.size,_)] s3 (subS ix σ) H3 (fun _ _=>False) J3p (stat fr3) t3 stop;rw [eA] at TD
    refine thn TD fun r s4 ⟨hr,I4⟩ => ?_;subst hr;have a4:=(I4.pin (s.heap.objs.size,_) (List.mem_append_right _ (List.mem_singleton.mpr rfl))).1;have hd4:=I4.base;rw [eF,eEx,eH,eS] at hd4
    refine hR ys H3 s4 ⟨?_,d3,?_,?_,?_,?_,?_,?_⟩ (q _ d3)
    . refine I2.call' (ch:=fp ++ [s.heap.objs.size]) (by have z:=I4.os;rw [eS] at z;exact z) ?_ ?_ I4.bare ?_
      . refine ⟨hd4.keep,hd4.slot,fun b o e n x=> ?_,hd4.there,fun b xs e=> ?_,fun b o u e=> ?_,fun b ps e=> ?_⟩
        . have l:=ltS e;rw [upd_ne (by intro z;subst z;omega)];exact hd4.free b o e n x
        . have z:=hd4.tups b xs e;rw [upd_ne (ne_of_none z d3)];exact z
        . have z:=hd4.frzs b o u e;rw [upd_ne (ne_of_none z d3)];exact z
        . obtain ⟨more,z⟩:=hd4.tbls b ps e;exact ⟨more,by rw [upd_ne (ne_of_none z d3)];exact z⟩
      . have hk:=I4.hok;rw [eP,eW] at hk
        exact HOk_add hk d3 ⟨Nat.le_of_lt hz,its,k,v3,a4⟩
      . intro b hb;rcases List.mem_append.mp hb with hb | hb
        . obtain ⟨f0,f1,f2,f3,f4,f5⟩:=f2 b hb;exact ⟨f3,f1,f4,f5⟩
        . have hb:b=s.heap.objs.size:=by simpa using hb
          subst hb;refine ⟨.inr I2.sz,fun e=> ?_,fun x c hx e=> ?_,fun p hp e=> ?_⟩
          . have l : @LT.lt Nat _ X.env.locals s.heap.objs.size:=I2.lt;rw [<-e] at l
            omega
          . obtain ⟨v,hv⟩:=I2.cell x c hx;have l : @LT.lt Nat _ c s.heap.objs.size:=hv.lt;rw [e] at l
            omega
          . have l:=ltS (I2.pin p hp).1;rw [e] at l
            omega
    . obtain ⟨m,hm,_⟩:=I4.loc;rw [eL] at hm
      exact ⟨m,hm⟩
    . rw [upd_ne (Nat.succ_ne_self _)];have z:=I4.free;rw [eL] at z
      exact z
    . intro e;have l : @LT.lt Nat _ X.env.locals s.heap.objs.size:=I2.lt;rw [<-e] at l
      omega
    . have:=I2.sz;exact Nat.le_succ_of_le this
    . intro x c hx e;obtain ⟨v,hv⟩:=I2.cell x c hx;have l : @LT.lt Nat _ c s.heap.objs.size:=hv.lt;rw [e] at l
      omega
    . intro p hp e;have l:=ltS (I2.pin p hp).1;rw [e] at l
      omega
  . have TI:=T.item X' eP eW eK eC i [(s.heap.objs.size,_)] s3 (subS ix σ) H3 (fun _ _=>False) J3p (stat fr3) t3 go;rw [eA] at TI
    refine thn TI fun r s4 ⟨u,hr,h4⟩ => ?_;subst hr;refine thn h4 fun _ s5 ⟨x,H5,I5,r5,y5,st5,fr5⟩ => ?_;have I5':=I5.pinned (stat fr5) (T.obj _ _ st5);have HG:=hg _ s5 (subS ix σ) H5 x u _ I5' r5 (gk _ _ _ _ (step x H5 y5));rw [eP,eW,eA,exe] at HG
    refine thn HG fun _ s6 ⟨σ6,H6,I6,q6,l6,k6⟩ => ?_;have HT:=ht _ s6 σ6 H6 _ I6 q6;rw [eP,eW,eA,exe] at HT
    refine thn HT fun b s7 ⟨H7,I7,q7⟩ => ?_
    have weak:∀ {ps:List (Addr×Obj)} {H':Hp} {s':Shared},Inv X' ps σ6 H' s'->Inv X' ps (subS ix σ) H' s':=fun I=>I.weak l6.symm fun j v e=>by
     have hs:slotS ix j=false:=by
      unfold slotS;unfold subS at e
      rw [List.getElem?_map] at e
      cases e2:ix[j]? with
      | none=>rw [e2] at e;cases e
      | some o=>
       rw [e2] at e
       cases o with
       | none=>cases e
       | some z=>rfl
     rw [k6 j hs];exact e
    have pinA : ∀ {σ' : L2.St} {H' : Hp} {s' : Shared}, Inv X' ([(s.heap.objs.size, { cls := .type "list", data := .seq its.toArray k })] ++ pinsAt fp s5.heap) σ' H' s' ->
     s'.heap.get? s.heap.objs.size=some { cls:= .type "list",data:= .seq its.toArray k }/\H' s.heap.objs.size=none/\tn (i+1) s'.heap/\∀b ∈ fp,H' b=none:=fun {σ' H' s'} I=>by
     have z:=I.pin (s.heap.objs.size,_) (List.mem_append_right _ (List.mem_append_left _ (List.mem_singleton.mpr rfl)));refine ⟨z.1,z.2.1,T.keep _ _ _ st5 fun b hb o e=>(I.pin (b,o) (List.mem_append_right _ (List.mem_append_right _ (mem_pinsAt hb e)))).1,fun b hb=> ?_⟩;obtain ⟨o,e,d⟩:=T.obj _ _ st5 b hb;exact (I.pin (b,o) (List.mem_append_right _ (List.mem_append_right _ (mem_pinsAt hb e)))).2.1
    cases b with
    | false=>
     have q7:N ys H7:=q7;obtain ⟨m',hm,w7⟩:=hN ys H7 q7;obtain ⟨p1,p2,p3,p4⟩:=pinA I7
     exact ⟨m',hm,i+1,ys,H7,its,k,(weak I7).pins_of (fun _ z=>(nomatch z)),p3,p4,w7,p1,v3,p2⟩
    | true=>
     have HE:=he _ s7 σ6 H7 _ I7 q7;rw [eP,eW,eA,exe] at HE
     refine thn HE fun y s8 ⟨z,H8,I8,r8,q8⟩ => ?_;obtain ⟨m',hm,w8⟩:=hN _ H8 q8;obtain ⟨p1,p2,p3,p4⟩:=pinA I8;refine call_meets F.slot_list_append ⟨_,p1,rfl⟩ F.entry_list_append (F.args_list_append_2 _ _) (PySem.list_append s.heap.objs.size its.toArray k y (by rw [List.size_toArray, <-v3.length];omega)) ⟨p1,?_⟩;have q:=PySem.IsL.update p1 (fun a=>a.push y);have other:∀b o,b≠s.heap.objs.size->s8.heap.get? b=some o->(s8.heap.update s.heap.objs.size (Obj.mapSeq fun a=>a.push y)).get? b=some o:=fun b o hb e=>(Heap.get?_update_other s8.heap _ (Ne.symm hb)).trans e;have eq:its.toArray.push y=(its ++ [y]).toArray:=by simp
     have q:IsL (s8.heap.update s.heap.objs.size (Obj.mapSeq fun a=>a.push y)) s.heap.objs.size (its.toArray.push y) _:=q;rw [eq] at q
     refine ⟨m',hm,i+1,ys ++ [z],H8,its ++ [y],_,?_,T.keep _ _ _ p3 fun b hb o e=>other b o (fun z=> ?_) e,p4,w8,q,v3.append (.cons r8 .nil),p2⟩
     . have I8w:Inv X' [] (subS ix σ) H8 s8:=(weak I8).pins_of fun _ z=>nomatch z;refine I8w.turned (it:=s.heap.objs.size) other p2 (okX.exf _ mD).1 (.inl mD) (okX.exf _ mD).2 fun p hp=> ?_;rw [eN] at hp
       cases hp
     . have l : @LT.lt Nat _ b s.heap.objs.size:=hlt b hb;rw [z] at l
       omega
 exact codeAny_compStart_list (loop _ rfl) (T.self X.A 0 _ _ _ st3 (loop _ rfl))
def tLC(ix:List (Option Nat))(wi:TI)(g:CB->TG)(tt:CB->TT)(te:CB->TE):TE:=fun σ H Q=>wi σ H fun J H1=>∀b:CB,tLCg J (subS ix σ) (g b) (tt b) (te b) H1 Q
theorem pe_lc {tg elt iter : Expr} {ifs : List Expr} {pos : Pos} {wi : TI} {g : CB -> TG} {tt : CB -> TT} {te : CB -> TE} (hc : X.calm = true) (ho : X.env.scope = osc) {N : List Str} (hN : X.N = N) (hcs : csOk osc sc N N' ix = true) (hi : PI X tg iter wi)
 (hb:∀b:CB,PG (cxC X osc sc N' b) tg (g b)/\PTs (cxC X osc sc N' b) ifs (tt b)/\PE (cxC X osc sc N' b) elt (te b)) (gk:∀b:CB,GK (slotS ix) (g b))
 (hs:∀x,foldedSetIterable iter X.env x=pure x:=by intro _;rfl):PE X (.ListComp elt [⟨tg,iter,ifs,0⟩] sc pos) (tLC ix wi g tt te):=by
 subst hN;have cs:=CS.of hcs;intro pins s σ H Q I h;rw [eval_ListComp];have hcl:=closureFor_eq (closes I cs ho);refine wpAny_comprehension_free (use:=none) rfl hs hcl cs.kind cs.names (thn (hi pins s σ H _ I h) fun v s1 h1=>thn h1 fun itv s2 h2=> ?_);obtain ⟨it,fp,tn,J,H2,e,I2,T,st2,f2,rd⟩:=h2;subst e;refine wpAny_newObj_type ?_;refine wpAny_newEnv_comp ?_;have hb':=hb ⟨s2.heap.objs.size+1,s2,H2,fp ++ [s2.heap.objs.size]⟩
 have rb:=run_block (scope:=sc) (pos:=pos) (iter:=iter) (R:=compPost (model X.prog X.w) X.A X.xe none (EP X pins σ Q) (.ref s2.heap.objs.size) (s2.heap.objs.size+1)) I2 cs ho hc T st2 f2 hb'.1 (gk _) hb'.2.1 hb'.2.2 (rd _) (fun ys H' s' B q=>by
  obtain ⟨m,hm⟩:=B.ns;refine ⟨m,hm,fun h' hsb=> ?_⟩;refine ⟨.ref s2.heap.objs.size,upd H' s2.heap.objs.size (.lst ys),?_,rfl,q⟩;exact B.inv.turned (it:=s2.heap.objs.size+1) (fun b o hb e=>hsb.extBut b o hb e) B.cfree B.cl (.inr B.cn) B.cc B.cp)
 have sz:(s2.heap.push accObj).objs.size=s2.heap.objs.size+1:=Heap.size_push ..;show codeAny _ _ (.compStart _ 0 (.ref it) (.ref s2.heap.objs.size) { newEnv sc (s2.heap.push accObj).objs.size X.env.globals (cellsFrom ((s2.heap.push accObj).objs.size+1) sc.names (closL X.env.cells sc.names [])) X.env.qual none .none (some X.env) builtinsNs with scope:=relabel sc X.env }) (compPost _ _ _ none _ (.ref s2.heap.objs.size) (s2.heap.push accObj).objs.size) _;rw [sz,relabel_eq,ho];exact rb
def tSetC(i:Nat)(t:TE):TS:=fun D σ H=>t σ H fun v H1=>D.nx (σ.set i (some v)) H1
theorem ps_setC {tg elt iter : Expr} {ifs : List Expr} {pos py spos : Pos} {wi : TI} {g : CB -> TG} {tt : CB -> TT} {te : CB -> TE} {i : Nat} {y : Str} (hnd : X.N.Nodup) (hi' : X.N[i]? = some y) (hy : X.env.scope.names.lookup y = some .local)
 (hsw:swapsWith (.ListComp elt [⟨tg,iter,ifs,0⟩] sc pos) (some (.Name y py)) spos.line X.env=pure true)
 (hc:X.calm=true) (ho:X.env.scope=osc) {N:List Str} (hN:X.N=N) (hcs:csOk osc sc N N' ix=true) (hi:PI X tg iter wi)
 (hb:∀b:CB,PG (cxC X osc sc N' b) tg (g b)/\PTs (cxC X osc sc N' b) ifs (tt b)/\PE (cxC X osc sc N' b) elt (te b)) (gk:∀b:CB,GK (slotS ix) (g b))
 (hs:∀x,foldedSetIterable iter X.env x=pure x:=by intro _;rfl):PS X (.Assign [.Name y py] (.ListComp elt [⟨tg,iter,ifs,0⟩] sc pos) spos) (tSetC i (tLC ix wi g tt te)):=by
 have hN':=hN;subst hN;have cs:=CS.of hcs;intro pins s σ H D I h;rw [exec_Assign_Name_used _ _ _ _ hsw];have hcl:=closureFor_eq (closes I cs ho);refine wpAny_bind (wpAny_standAt (wpAny_bind ?_));show wpAny _ X.A (do let _ <-comprehension (.ListComp elt [⟨tg,iter,ifs,0⟩] sc pos) sc X.env _ (newList []) false (eval iter X.env) (some (assign (.Name y py) X.env))) _ _ s
 refine wpAny_bind (wpAny_mono (wpAny_comprehension_free (use:=some (assign (.Name y py) X.env)) (Q:=fun _ s'=>SP X pins D .next s') rfl hs hcl cs.kind cs.names
  (thn (hi pins s σ H _ I h) fun v s1 h1=>thn h1 fun itv s2 h2=> ?_)) (fun _ s' hq=>wpAny_pure (wpAny_pure hq)) fun _ _ e=>e)
 obtain ⟨it,fp,tn,J,H2,e,I2,T,st2,f2,rd⟩:=h2;subst e;refine wpAny_newObj_type ?_;refine wpAny_newEnv_comp ?_;have hb':=hb ⟨s2.heap.objs.size+1,s2,H2,fp ++ [s2.heap.objs.size]⟩
 have rb:=run_block (scope:=sc) (pos:=pos) (iter:=iter) (R:=compPost (model X.prog X.w) X.A X.xe (some (assign (.Name y py) X.env)) (fun _ s'=>SP X pins D .next s') (.ref s2.heap.objs.size) (s2.heap.objs.size+1)) I2 cs ho hc T st2 f2 hb'.1 (gk _) hb'.2.1 hb'.2.2 (rd _) (fun ys H' s' B q=>by
  show wpAny _ X.A (assign (.Name y py) X.env (.ref s2.heap.objs.size)) _ _ s';refine wpAny_assign_Name (store_ok2 (v:= .ref s2.heap.objs.size) B.inv hnd hi' (.inl hy) rfl (fun s'' I'' ⟨a,sb,ha⟩ => ?_) (.inr hy))
  have hne:s2.heap.objs.size+1≠a:=by
   rcases ha with ha | ha
   . rw [ha];exact B.cl
   . exact (B.cc y a ha).symm
  obtain ⟨m,hm⟩:=B.ns;refine ⟨m,hm.sameBut sb hne,fun h' hsb=> ?_⟩;exact ⟨_,_,I''.turned (it:=s2.heap.objs.size+1) (fun b o hb e=>hsb.extBut b o hb e) B.cfree B.cl (.inr B.cn) B.cc B.cp,q⟩)
 have sz:(s2.heap.push accObj).objs.size=s2.heap.objs.size+1:=Heap.size_push ..;show codeAny _ _ (.compStart _ 0 (.ref it) (.ref s2.heap.objs.size) { newEnv sc (s2.heap.push accObj).objs.size X.env.globals (cellsFrom ((s2.heap.push accObj).objs.size+1) sc.names (closL X.env.cells sc.names [])) X.env.qual none .none (some X.env) builtinsNs with scope:=relabel sc X.env }) (compPost _ _ _ _ _ (.ref s2.heap.objs.size) (s2.heap.push accObj).objs.size) _;rw [sz,relabel_eq,ho];exact rb
end
end Tf
namespace Tf
open PySem PySem.Spec PyProof.Rows L2
def Itz(K:W.Frag)(a b:Addr):It:=
 ⟨fun i H=>∃xs ys x y,SqL K H a xs/\SqL K H b ys/\xs[i]? = some x/\ys[i]? = some y,
  fun i H v H'=>∃p x y,H p=none/\v = .ref p/\H'=upd H p (.tup [x,y])/\(∀xs,SqL K H a xs->xs[i]? = some x)/\(∀ys,SqL K H b ys->ys[i]? = some y),
  fun i H=>∃xs ys,SqL K H a xs/\SqL K H b ys/\(xs.length<=i\/ys.length<=i)⟩
def tnZip(z TI TO i1 i2 l1 l2:Addr)(i:Nat)(h:Heap):Prop:=IsZip h z TI TO .none/\IsPair h TI (.ref i1) (.ref i2)/\(∃a b,IsPair h TO a b)/\h.IsListIter i1 l1 i/\h.IsListIter i2 l2 i
theorem turn_zip {P : Program} {w : World} {K : W.Frag} {elts : List Expr} {k : Nat} {pos : Pos} {z TI TO i1 i2 l1 l2 : Addr} (D : ZipApart z TI TO i1 i2 l1 l2) :
 Turn P w K (.Tuple elts k pos) (Itz K l1 l2) [z,TI,TO,i1,i2] z (tnZip z TI TO i1 i2 l1 l2) where
 mem:=by simp
 obj:=fun i h st b hb=>by
  obtain ⟨h1,h2,⟨a,c,h3⟩,⟨o4,h4,_,d4⟩,⟨o5,h5,_,d5⟩⟩:=st;simp only [List.mem_cons,List.not_mem_nil,or_false] at hb
  rcases hb with rfl | rfl | rfl | rfl | rfl
  . exact ⟨_,h1,fun v e=>(nomatch e)⟩
  . exact ⟨_,h2,fun v e=>(nomatch e)⟩
  . exact ⟨_,h3,fun v e=>(nomatch e)⟩
  . exact ⟨_,h4,fun v e=>by rw [d4] at e;cases e⟩
  . exact ⟨_,h5,fun v e=>by rw [d5] at e;cases e⟩
 keep:=fun i h h' st kk=>by
  obtain ⟨h1,h2,⟨a,c,h3⟩,h4,h5⟩:=st;exact ⟨kk z (by simp) _ h1,kk TI (by simp) _ h2,⟨a,c,kk TO (by simp) _ h3⟩,h4.at fun o e=>kk i1 (by simp) o e,h5.at fun o e=>kk i2 (by simp) o e⟩
 item:=by
  intro X hP hw hK hc i pins s σ H E I hf st hg;subst hP hw hK;obtain ⟨h1,h2,⟨a,c,h3⟩,h4,h5⟩:=st;obtain ⟨xs,ys,x,y,q1,q2,hx,hy⟩:=hg;obtain ⟨its,rv,p,hz⟩:=I.list q1;obtain ⟨jts,rw',p',hz'⟩:=I.list q2;obtain ⟨u,hu,ru⟩:=rv.get hx;obtain ⟨u',hu',ru'⟩:=rw'.get hy;have ltS:∀ {h:Heap} {b:Addr} {o:Obj},h.get? b=some o -> @LT.lt Nat _ b h.objs.size:=fun e=>Heap.lt_size e;refine wpAny_pyNext_zip_item D h1 h2 h3 h4 h5 p.isList p'.isList (x:=u) (y:=u') (by simpa using hu) (by simpa using hu') fun h' a1 a2 a3 a4 a5 a6 hk=> ?_;refine ⟨_,rfl,wpAny_letOwnedTupleGo_zip a1 fun h'' a1' sb=> ?_⟩;have ch:∀b ∈ [z,TI,TO,i1,i2],H b=none:=fun b hb=>(hf b hb).1
  have kk:∀b o,b ∉ [z,TO,i1,i2]->s.heap.get? b=some o->h''.get? b=some o:=fun b o hb e=>by
   simp only [List.mem_cons,List.not_mem_nil,or_false,not_or] at hb
   exact sb.extBut b o hb.1 (hk b o hb.1 hb.2.1 hb.2.2.1 hb.2.2.2 e)
  have eT:h''.get? s.heap.objs.size=some { cls:= .type "tuple",data:= .seq #[u,u'] }:=sb.extBut _ _ (fun e=>by have l:=ltS h1;rw [<-e] at l;omega) a5
  have sub:∀b,b ∈ [z,TO,i1,i2]->b ∈ [z,TI,TO,i1,i2]:=fun b hb=>by
   simp only [List.mem_cons,List.not_mem_nil,or_false] at hb ⊢
   rcases hb with r | r | r | r
   . exact .inl r
   . exact .inr (.inr (.inl r))
   . exact .inr (.inr (.inr (.inl r)))
   . exact .inr (.inr (.inr (.inr r)))
  have nT:H s.heap.objs.size=none:=I.hok.fresh (Nat.le_refl _)
  have hok1 : HOk X.prog X.w H h'' := fun b o e => (I.hok b o e).stay (fun d v hd q => kk d v (fun hm => by
   have n:=ch d (sub d hm);rcases hd with hd | hd
   . rw [hd,e] at n;cases n
   . rw [hd] at n;cases n) q) (fun _ q=>q) fun _ _ q=>q
  have hok2:HOk X.prog X.w (upd H s.heap.objs.size (.tup [x,y])) h'':=HOk_add hok1 nT ⟨by show 2<=sizeLine;decide,[u,u'], .cons ru (.cons ru' .nil),⟨_,eT,rfl,_,rfl⟩⟩
  have un:Un (frs X.stack) [z,TO,i1,i2] H (upd H s.heap.objs.size (.tup [x,y])) s.heap h'':=by
   refine ⟨fun b o e _ _ hx=>kk b o hx e,fun b o e _ _ hx=>⟨o.slots,kk b o hx e⟩,fun b o e n _=> ?_,fun b o e hx=>⟨o,kk b o hx e⟩,fun b zs e=> ?_,fun b o v e=> ?_,fun b ps e=>⟨#[],?_⟩⟩
   . have l:=ltS e;rw [upd_ne (by intro q;subst q;omega)];exact n
   . rw [upd_ne (ne_of_none e nT)];exact e
   . rw [upd_ne (ne_of_none e nT)];exact e
   . rw [upd_ne (ne_of_none e nT)];simpa using e
  have I2:Inv X pins σ (upd H s.heap.objs.size (.tup [x,y])) { s with heap:=h'' }:=I.call' rfl un hok2 I.bare fun b hb=>by
   obtain ⟨f0,f1,f2,f3,f4,f5⟩:=hf b (sub b hb);exact ⟨f3,f1,f4,f5⟩
  refine ⟨.ref s.heap.objs.size,_,I2,rfl,⟨s.heap.objs.size,x,y,nT,rfl,rfl,fun zs hq=> ?_,fun zs hq=> ?_⟩,⟨a1',?_,⟨_,_,sb.extBut _ _ D.TOz a2⟩,a3.extBut sb.extBut D.i1z,a4.extBut sb.extBut D.i2z⟩,fun b hb=> ?_⟩
  . rw [I.list_inj hq q1];exact hx
  . rw [I.list_inj hq q2];exact hy
  . exact sb.extBut _ _ D.TIz (hk TI _ D.TIz D.TITO D.TIi1 D.TIi2 h2)
  . have n:=ch b hb
    obtain ⟨o,e⟩:∃o,s.heap.get? b=some o:=by
     simp only [List.mem_cons,List.not_mem_nil,or_false] at hb
     rcases hb with rfl | rfl | rfl | rfl | rfl
     . exact ⟨_,h1⟩
     . exact ⟨_,h2⟩
     . exact ⟨_,h3⟩
     . obtain ⟨o,e,_⟩:=h4;exact ⟨o,e⟩
     . obtain ⟨o,e,_⟩:=h5;exact ⟨o,e⟩
    have l:=ltS e;rw [upd_ne (by intro q;subst q;omega)];exact n
 done:=by
  intro X hP hw hK hc i pins s σ H E I hf st hg;subst hP hw hK;obtain ⟨h1,h2,⟨a,c,h3⟩,h4,h5⟩:=st;obtain ⟨xs,ys,q1,q2,he⟩:=hg;obtain ⟨its,rv,p,hz⟩:=I.list q1;obtain ⟨jts,rw',p',hz'⟩:=I.list q2;have l1:=rv.length;have l2:=rw'.length
  refine wpAny_pyNext_zip_end (I.ok.hd hc) D h1 h2 h3 h4 h5 p.isList p'.isList (by rcases he with e | e; · left; simp; omega
                                                                                   . right;simp;omega) fun h' hk=>⟨rfl,?_⟩
  have ch:∀b ∈ [z,TI,TO,i1,i2],H b=none:=fun b hb=>(hf b hb).1
  have sub:∀b,b ∈ [z,TO,i1,i2]->b ∈ [z,TI,TO,i1,i2]:=fun b hb=>by
   simp only [List.mem_cons,List.not_mem_nil,or_false] at hb ⊢
   rcases hb with r | r | r | r
   . exact .inl r
   . exact .inr (.inr (.inl r))
   . exact .inr (.inr (.inr (.inl r)))
   . exact .inr (.inr (.inr (.inr r)))
  have kk:∀b o,b ∉ [z,TO,i1,i2]->s.heap.get? b=some o->h'.get? b=some o:=fun b o hb e=>by
   simp only [List.mem_cons,List.not_mem_nil,or_false,not_or] at hb
   exact hk b o hb.1 hb.2.1 hb.2.2.1 hb.2.2.2 e
  have hok1 : HOk X.prog X.w H h' := fun b o e => (I.hok b o e).stay (fun d v hd q => kk d v (fun hm => by
   have n:=ch d (sub d hm);rcases hd with hd | hd
   . rw [hd,e] at n;cases n
   . rw [hd] at n;cases n) q) (fun _ q=>q) fun _ _ q=>q
  have un:Un (frs X.stack) [z,TO,i1,i2] H H s.heap h' :=
   ⟨fun b o e _ _ hx=>kk b o hx e,fun b o e _ _ hx=>⟨o.slots,kk b o hx e⟩,fun b o e n _=>n,fun b o e hx=>⟨o,kk b o hx e⟩,fun b zs e=>e,fun b o v e=>e,fun b ps e=>⟨#[],by simpa using e⟩⟩
  exact I.call' rfl un hok1 I.bare fun b hb=>by
   obtain ⟨f0,f1,f2,f3,f4,f5⟩:=hf b (sub b hb);exact ⟨f3,f1,f4,f5⟩
 self:=fun _ _ _ _ _ st h=>wpAny_pyIter_zip st.1 h
section
variable {X:Cx}
def iZip(K:W.Frag)(ta:TA):TI:=fun σ H R=>ta σ H fun vs H1=>∃l1 l2,vs = [.ref l1, .ref l2]/\(∃xs,SqL K H1 l1 xs)/\(∃ys,SqL K H1 l2 ys)/\R (Itz K l1 l2) H1
theorem pi_zip {a b : Expr} {ta : TA} {elts : List Expr} {k : Nat} {tp p pos : Pos} (hg : Gl X "zip") (hm : X.mg "zip" = none) (ha : PA X [a, b] ta) (hs : starEach [a, b] X.env = [(false, eval a X.env), (false, eval b X.env)] := by rfl) (hs2 : starEach [b] X.env = [(false, eval b X.env)] := by rfl) :
 PI X (.Tuple elts k tp) (.Call (.Name "zip" p) [a,b] [] pos) (iZip X.K ta):=by
 intro pins s σ H R I h;refine Call_ (ld_blt I hg hm bt_zip (PyProof.Rows.callWith_type1 (thn (ha pos pins s σ H _ I h) fun us s1 ⟨vs,H1,I1,r1,q1⟩ => ?_) (by rw [hs,hs2]) (by rw [hs2];rfl)));obtain ⟨l1,l2,e,⟨xs,q1⟩,⟨ys,q2⟩,q⟩:=q1;subst e;obtain ⟨u,w',rfl,ru,rw'⟩:=vals2 r1
 cases (show u=Value.ref l1 from ru)
 cases (show w'=Value.ref l2 from rw')
 obtain ⟨its,rv,p1,hz⟩:=I1.list q1;obtain ⟨jts,rv',p2,hz'⟩:=I1.list q2;have lt1:l1<s1.heap.objs.size:=by obtain ⟨o,n,e,_⟩:=p1;exact Heap.lt_size e
 have lt2:l2<s1.heap.objs.size:=by obtain ⟨o,n,e,_⟩:=p2;exact Heap.lt_size e
 refine call_zip_2 p1.isList p2.isList fun h' a1 a2 a3 a4 a5 a6 hk=> ?_;refine wpAny_pyIter_zip (s:={ s1 with heap:=h' }) a1 ?_;refine ⟨_,[s1.heap.objs.size+4,s1.heap.objs.size+2,s1.heap.objs.size+3,s1.heap.objs.size,s1.heap.objs.size+1],_,_,H1,rfl,I1.kept (t':=s1.toks) hk,turn_zip (zipApart_new lt1 lt2),⟨a1,a2,⟨_,_,a3⟩,a4,a5⟩,fun b hb=> ?_,q⟩
 have hb:s1.heap.objs.size<=b:=by
  simp only [List.mem_cons,List.not_mem_nil,or_false] at hb
  rcases hb with rfl | rfl | rfl | rfl | rfl
  . exact Nat.le_add_right _ _
  . exact Nat.le_add_right _ _
  . exact Nat.le_add_right _ _
  . exact Nat.le_refl _
  . exact Nat.le_add_right _ _
 exact I1.fpOk hb (I1.hok.fresh hb)
def Itd(hi:Int)(n:Nat):It:=⟨fun i _=>i<n,fun i H x H'=>H'=H/\x = .int (hi - i),fun i _=>n<=i⟩
theorem turn_down{P:Program}{w:World}{K:W.Frag}{tg:Expr}(it:Addr)(hi:Int)(n:Nat):Turn P w K tg (Itd hi n) [it] it (fun i h=>IsRangeIter h it (hi+(i:Nat)*(-1)) ((n:Int) - (i:Nat)) (-1)) where
 mem:=by simp
 obj:=fun i h st b hb=>by
  have e:b=it:=by simpa using hb
  subst e
  exact ⟨_,st,fun v z=>by
   have z':Data.fields _=Data.cell v:=z
   cases z'⟩
 keep:=fun i h h' st k=>k it (by simp) _ st
 item:=by
  intro X hP hw hK hc i pins s σ H E I hf st hg;subst hP hw hK;obtain ⟨f0,f1,f2,f3,f4,f5⟩:=hf it (by simp);have W:=Walks.range (prog:=X.prog) (w:=X.w) (I.ok.hd hc) it hi (-1) n;refine W.item i s _ _ hg st fun v h' tk hv st' kk=> ?_;obtain ⟨t,rfl⟩:=hv;have I1:Inv X pins σ H { s with heap:=h',toks:=tk }:=I.turned (fun b o hb e=>kk b o (by simpa using hb) e) f0 f1 f3 f4 f5;refine ⟨_,rfl,go_of (s:={ s with heap:=h',toks:=tk }) (n:= "range_iterator") st' rfl rfl (by decide) ⟨.int (hi - i),H,I1,⟨t,?_⟩,⟨rfl,rfl⟩,st',fun b hb=>(hf b hb).1⟩⟩;have:hi+(i:Int)*(-1)=hi - i:=by omega
  rw [this]
 done:=by
  intro X hP hw hK hc i pins s σ H E I hf st hg;subst hP hw hK;obtain ⟨f0,f1,f2,f3,f4,f5⟩:=hf it (by simp);exact wpAny_pyNext_range_end (I.ok.hd hc) st (by have:n<=i:=hg;omega) fun h' eb=>⟨rfl,I.turned (t':=s.toks) (fun b o hb e=>eb b o hb e) f0 f1 f3 f4 f5⟩
 self:=fun _ _ _ _ _ st h=>wpAny_pyIter_rangeiter st h
theorem small_down{a b:Int}(ha : -(2 ^ 62)<=a)(ha':a<2 ^ 62)(hb : -(2 ^ 62)<=b)(hb':b<2 ^ 62):Builtin.Range.small a b (-1)=true:=by
 unfold Builtin.Range.small;unfold Builtin.Range.rangeSize;simp only [Builtin.Range.rangeFitsLong,Bool.and_eq_true,Bool.or_eq_true,decide_eq_true_eq,beq_iff_eq,show ¬((-1:Int)>0) by decide,if_false,show -(-1:Int)=1 by decide,Int.ediv_one]
 split <;> omega
def iRngD(ta:TA):TI:=fun σ H R=>ta σ H fun vs H1=>∃i j:Int,vs = [.int i, .int j, .int (-1)]/\(-(2 ^ 62)<=i/\i<2 ^ 62 /\ -(2 ^ 62)<=j/\j<2 ^ 62)/\R (Itd i (i - j).toNat) H1
theorem pi_rangeD {tg : Expr} {a b c : Expr} {ta : TA} {p pos : Pos} (hg : Gl X "range") (hm : X.mg "range" = none) (ha : PA X [a, b, c] ta) (hs : starEach [a, b, c] X.env = (false, eval a X.env) :: starEach [b, c] X.env := by rfl) (hs2 : (backTo pos (starEach [b, c] X.env)).any (·.1) = false := by rfl) :
 PI X tg (.Call (.Name "range" p) [a,b,c] [] pos) (iRngD ta):=by
 intro pins s σ H R I h;refine Call_ (ld_blt I hg hm bt_range (PyProof.Rows.callWith_type1 (thn (ha pos pins s σ H _ I h) fun us s1 ⟨vs,H1,I1,r1,q1⟩ => ?_) hs hs2));obtain ⟨i,j,e,⟨q1,q2,q3,q4⟩,q⟩:=q1;subst e
 cases r1 with
 | cons r rr=>
  cases rr with
  | cons r' rr=>
   obtain ⟨u,rfl,t'',rfl⟩:=vals1 rr;obtain ⟨t,rfl⟩:=r;obtain ⟨t',rfl⟩:=r';refine call_range_3 (by decide) ?_ (.inl (PyProof.noPylong_of_log2 (by decide +kernel)));refine wpAny_pyIter_range (IsRange.new ..) (small_down q1 q2 q3 q4) ?_;have I2:Inv X pins σ H1 { s1 with heap:=s1.heap.push { cls:= .type "range",data:= .fields #[.int i t, .int j t', .int (-1) t''] },toks:=s1.toks }:=I1.kept fun b o e=>Heap.get?_push_of_some _ e
   refine ⟨(s1.heap.push { cls:= .type "range",data:= .fields #[.int i t, .int j t', .int (-1) t''] }).objs.size,[(s1.heap.push { cls:= .type "range",data:= .fields #[.int i t, .int j t', .int (-1) t''] }).objs.size],_,_,H1,rfl,
    I2.kept (t':=s1.toks) fun b o e=>Heap.get?_push_of_some _ e,turn_down _ i (i - j).toNat,?_,fun b hb=> ?_,q⟩
   . have e1:i+((0:Nat):Int)*(-1)=i:=by simp
     have e2:(((i - j).toNat:Nat):Int) - ((0:Nat):Int)=Builtin.Range.rangeSize i j (-1):=by
      unfold Builtin.Range.rangeSize;rw [if_neg (by decide),show -(-1:Int)=1 by decide,Int.ediv_one]
      split <;> omega
     show IsRangeIter _ _ (i+((0:Nat):Int)*(-1)) ((((i - j).toNat:Nat):Int) - ((0:Nat):Int)) (-1);rw [e1,e2];exact Heap.get?_push_size _ rfl
   . have e:b=(s1.heap.push { cls:= .type "range",data:= .fields #[.int i t, .int j t', .int (-1) t''] }).objs.size:=by simpa using hb
     subst e;exact I2.fpOk (Nat.le_refl _) (I2.hok.fresh (Nat.le_refl _))
theorem call_sum(hc:X.calm=true):CallR X (.builtin "sum") (fun xs H Q=>∃p ns,xs = [.ref p]/\SqL X.K H p (ns.map V.int)/\Q (.int (List.sum ns)) H):=by
 intro pins s σ H xs us Q I r h;obtain ⟨p,ns,rfl,hq,q⟩:=h;obtain ⟨u,rfl,ru⟩:=vals1 r
 cases (show u=Value.ref p from ru)
 obtain ⟨its,rv,pl,hz⟩:=I.list hq;have hi:=intsAre_of rv;obtain ⟨zs,ez⟩:=hi.allInts.items;have hl:s.heap.IsList p (intItems zs):=ez ▸ pl.isList
 have en:preSum (numAt zs) zs.size=ns.sum:=by
  rw [preSum_eq,List.take_of_length_le (by simp)];have:=hi.numsOf;rw [<-this];have e2:its=(intItems zs).toList:=by rw [<-ez]
  rw [e2,nums_intItems]
 refine sum_intListG (I.ok.hd hc) hl fun h' tk t' hk=> ?_;rw [en];exact ⟨.int ns.sum,H,I.kept hk,⟨t',rfl⟩,q⟩
section
variable {K:W.Frag} {σ0:L2.St} {g:TG} {tt:TT} {te:TE} {H:Hp} {Q:VK}
theorem Reps.snoc{vs:List V}{ds:List PyData}{v:V}{d:PyData}(h:Reps K H vs ds)(k:Rep K H v d):Reps K H (vs ++ [v]) (ds ++ [d]):=by
 induction vs generalizing ds with
 | nil=>cases h;exact .cons k .nil
 | cons x xs ih=>cases h with | cons a b=>exact .cons a (ih b)
theorem Reps.length:∀ {vs:List V} {ds:List PyData},Reps K H vs ds->vs.length=ds.length
 | _,_, .nil=>rfl
 | _,_, .cons _ h=>by rw [List.length_cons,List.length_cons,Reps.length h]
theorem Reps.get:∀ {vs:List V} {ds:List PyData} {i:Nat} {d:PyData},Reps K H vs ds->ds[i]? = some d->∃v,vs[i]? = some v/\Rep K H v d
 | _,_,_,_, .nil,e=>by simp at e
 | _,_,0,_, .cons r _,e=>by simp at e;subst e;exact ⟨_,rfl,r⟩
 | _,_,i+1,d, .cons _ t,e=>by
  obtain ⟨u,h1,h2⟩:=Reps.get (i:=i) (d:=d) t (by simpa using e);exact ⟨u,by simpa using h1,h2⟩
end
end
end Tf
namespace Dm
open PySem PySem.Spec PyProof.Rows L2 Tf
inductive Sl where
 | val (d:PyData)
 | own (ds:List PyData)
def Sl.dat:Sl->PyData
 | .val d=>d
 | .own ds=> .list ds
abbrev En:=List (Option Sl)
theorem same_upd2{H0 H:Hp}{p:Addr}{o:HO}(h:Same H0 H):Same (upd H0 p o) (upd H p o):=fun b u e=>by
 by_cases hb:b=p
 . subst hb;rw [upd_same] at e ⊢;exact e
 . rw [upd_ne hb] at e ⊢;exact h b u e
structure Ext (H0 H H0' H':Hp):Prop where
 s:Same H H'
 s0:Same H0 H0'
 s1:Same H0' H'
 own:∀a o,H a=some o->H0 a=none->H0' a=none
theorem Ext.refl{H0 H:Hp}(h:Same H0 H):Ext H0 H H0 H:=⟨Same.refl _,Same.refl _,h,fun _ _ _ h=>h⟩
theorem Ext.trans{H0 H H1 J1 H2 J2:Hp}(a:Ext H0 H H1 J1)(b:Ext H1 J1 H2 J2):Ext H0 H H2 J2:=
 ⟨a.s.trans b.s,a.s0.trans b.s0,b.s1,fun x o h h0=>b.own x o (a.s x o h) (a.own x o h h0)⟩
theorem Ext.chain{S0 HB H0 H H1 J1:Hp}(a:Ext S0 HB H0 H)(b:Ext H0 H H1 J1):Ext S0 HB H1 J1:=
 ⟨a.s.trans b.s,a.s0.trans b.s0,b.s1,fun x o h h0=>b.own x o (a.s x o h) (a.own x o h h0)⟩
theorem Ext.rebase{S0 HB H0 H:Hp}(a:Ext S0 HB H0 H):Ext H0 HB H0 H:=⟨a.s,Same.refl _,a.s1,fun _ _ _ h=>h⟩
theorem Ext.unbase{S0 HB H0 H H1 J1:Hp}(a:Ext S0 HB H0 H)(b:Ext H0 HB H1 J1):Ext S0 HB H1 J1:=
 ⟨b.s,a.s0.trans b.s0,b.s1,fun x o h h0=>b.own x o h (a.own x o h h0)⟩
theorem Ext.alloc{H0 H:Hp}{p:Addr}(h:Same H0 H)(hp:H p=none)(o:HO):Ext H0 H H0 (upd H p o) :=
 ⟨Same.upd hp o,Same.refl _,h.trans (Same.upd hp o),fun _ _ _ h=>h⟩
theorem Ext.allocF{H0 H:Hp}{p:Addr}(h:Same H0 H)(hp:H p=none)(o:HO):Ext H0 H (upd H0 p o) (upd H p o) :=
 ⟨Same.upd hp o,Same.upd (h.free hp) o,same_upd2 h,fun a o' ha h0=>by rw [upd_ne (ne_of_none ha hp)];exact h0⟩
section
variable {K:W.Frag}
def SlP(K:W.Frag)(H0 H:Hp)(v:V):Sl->Prop
 | .val d=>Rep K H0 v d
 | .own ds=>∃a vs,v = .ref a/\H a=some (.lst vs)/\Reps K H0 vs ds
def SlH(K:W.Frag)(HB H0 H:Hp)(v:V):Sl->Prop
 | .val d=>Rep K H0 v d
 | .own ds=>∃a vs,v = .ref a/\HB a=none/\H0 a=none/\H a=some (.lst vs)/\Reps K H0 vs ds
theorem SlH.p{HB H0 H:Hp}{v:V}:∀ {s:Sl},SlH K HB H0 H v s->SlP K H0 H v s
 | .val _,h=>h
 | .own _,⟨a,vs,e,_,_,h1,h2⟩=>⟨a,vs,e,h1,h2⟩
theorem SlH.base{HB HB' H0 H:Hp}{v:V}(s:Same HB HB'):∀ {r:Sl},SlH K HB' H0 H v r->SlH K HB H0 H v r
 | .val _,h=>h
 | .own _,⟨a,vs,e,h0,h1,h2,h3⟩=>⟨a,vs,e,s.free h0,h1,h2,h3⟩
theorem SlH.ext{HB H0 H H0' H':Hp}{v:V}(x:Ext H0 H H0' H'):∀ {r:Sl},SlH K HB H0 H v r->SlH K HB H0' H' v r
 | .val _,h=>Rep.same x.s0 h
 | .own _,⟨a,vs,e,h0,h1,h2,h3⟩=>⟨a,vs,e,h0,x.own a _ h2 h1,x.s _ _ h2,Reps.same x.s0 h3⟩
theorem SlP.ext{H0 H H0' H':Hp}{v:V}(x:Ext H0 H H0' H'):∀ {r:Sl},SlP K H0 H v r->SlP K H0' H' v r
 | .val _,h=>Rep.same x.s0 h
 | .own _,⟨a,vs,e,h2,h3⟩=>⟨a,vs,e,x.s _ _ h2,Reps.same x.s0 h3⟩
theorem SlP.rep{H0 H:Hp}{v:V}(s:Same H0 H):∀ {r:Sl},SlP K H0 H v r->Rep K H v r.dat
 | .val _,h=>Rep.same s h
 | .own _,⟨a,vs,e,h2,h3⟩=>by subst e;exact .list (SqL.of h2) (Reps.same s h3)
theorem SlP.lst{H0 H:Hp}{v:V}{ds:List PyData}(s:Same H0 H):∀ {r:Sl},SlP K H0 H v r->r.dat = .list ds->∃a vs,v = .ref a/\SqL K H a vs/\Reps K H0 vs ds
 | .val _,h,e=>by
  cases h with
  | list h1 h2=>cases e;exact ⟨_,_,rfl,s.seq h1,h2⟩
  | _=>cases e
 | .own _,⟨a,vs,e,h2,h3⟩,e2=>by cases e2;exact ⟨a,vs,e,SqL.of h2,h3⟩
theorem SlP.tup{H0 H:Hp}{v:V}{ds:List PyData}:∀ {r:Sl},SlP K H0 H v r->r.dat = .tuple ds->∃a vs,v = .ref a/\SqT K H0 a vs/\Reps K H0 vs ds
 | .val _,h,e=>by
  cases h with
  | tuple h1 h2=>cases e;exact ⟨_,_,rfl,h1,h2⟩
  | _=>cases e
 | .own _,_,e=>by cases e
theorem SlP.int{H0 H:Hp}{v:V}{i:Int}(h:SlP K H0 H v (.val (.int i))):v = .int i:=by cases (show Rep K H0 v (.int i) from h);rfl
theorem SlP.bool{H0 H:Hp}{v:V}{i:Bool}(h:SlP K H0 H v (.val (.bool i))):v = .bl i:=by cases (show Rep K H0 v (.bool i) from h);rfl
theorem SlP.str{H0 H:Hp}{v:V}{i:Str}(h:SlP K H0 H v (.val (.str i))):v = .str i:=by cases (show Rep K H0 v (.str i) from h);rfl
theorem SlP.none{H0 H:Hp}{v:V}(h:SlP K H0 H v (.val .none)):v = .non:=by cases (show Rep K H0 v .none from h);rfl
theorem rep_non{H:Hp}{v:V}{d:PyData}(h:Rep K H v d):v = .non↔d = .none:=by
 cases h <;> simp
structure ER (K:W.Frag) (HB H0 H:Hp) (σ:L2.St) (ρ:En):Prop where
 len:σ.length=ρ.length
 get:∀(i:Nat) s,ρ[i]? = some (some s)->∃v,σ[i]? = some (some v)/\SlH K HB H0 H v s
 apart:∀(i j:Nat) a ds es,i≠j->ρ[i]? = some (some (.own ds))->ρ[j]? = some (some (.own es))->σ[i]? = some (some (.ref a))->σ[j]? ≠ some (some (.ref a))
theorem ER.ext{HB H0 H H0' H':Hp}{σ:L2.St}{ρ:En}(x:Ext H0 H H0' H')(e:ER K HB H0 H σ ρ):ER K HB H0' H' σ ρ:=
 ⟨e.len,fun i s h=>by obtain ⟨v,h1,h2⟩:=e.get i s h;exact ⟨v,h1,h2.ext x⟩,e.apart⟩
structure Rl where
 r:Hp->Hp->Hp->L2.St->En->Prop
 slot:Nat->Prop
structure ST (R:Rl) (HB H0 H:Hp) (σ:L2.St) (ρ:En):Prop where
 r:R.r HB H0 H σ ρ
class RelOk (K:outParam W.Frag) (R:Rl):Prop where
 ext:∀ {HB H0 H H0' H':Hp} {σ:L2.St} {ρ:En},Ext H0 H H0' H'->R.r HB H0 H σ ρ->R.r HB H0' H' σ ρ
 get:∀ {HB H0 H:Hp} {σ:L2.St} {ρ:En} {i:Nat} {s:Sl},R.r HB H0 H σ ρ->R.slot i->ρ[i]? = some (some s)->∃v,σ[i]? = some (some v)/\SlH K HB H0 H v s
 set:∀ {HB H0 H H0' H':Hp} {σ:L2.St} {ρ:En} {i:Nat} {v:V} {s:Sl},R.r HB H0 H σ ρ->R.slot i->Ext H0 H H0' H'->Same HB H->SlH K H H0' H' v s->R.r HB H0' H' (σ.set i (some v)) (ρ.set i (some s))
 write:∀ {HB H0 H:Hp} {σ:L2.St} {ρ:En} {i:Nat} {a:Addr} {ds es:List PyData} {vs ys:List V},R.r HB H0 H σ ρ->R.slot i->ρ[i]? = some (some (.own ds))->σ[i]? = some (some (.ref a))->HB a=none->H0 a=none->H a=some (.lst vs)->Reps K H0 ys es->R.r HB H0 (upd H a (.lst ys)) σ (ρ.set i (some (.own es)))
 frz:∀ {S0 HB H0 H:Hp} {σ:L2.St} {ρ:En} {i:Nat} {ds:List PyData},R.r HB H0 H σ ρ->R.slot i->ρ[i]? = some (some (.own ds))->Ext S0 HB H0 H->∃H0',Ext S0 HB H0' H/\R.r HB H0' H σ (ρ.set i (some (.val (.list ds))))
theorem ST.ext{R:Rl} [RelOk K R] {HB H0 H H0' H':Hp} {σ:L2.St} {ρ:En} (x:Ext H0 H H0' H') (e:ST R HB H0 H σ ρ):ST R HB H0' H' σ ρ:=⟨RelOk.ext (K:=K) x e.r⟩
def PR(K:W.Frag):Rl:=⟨ER K,fun _=>True⟩
variable {R:Rl} [RelOk K R]
def RX{α:Type}(K:W.Frag)(R:Rl)(P:Hp->Hp->Hp->V->α->Prop)(te:TE)(f:En->Option α):Prop:=
 ∀(HB:Hp) (σ:L2.St) (ρ:En) (H0 H:Hp),Same H0 H->ST R HB H0 H σ ρ->∀r,f ρ=some r->∀Q:VK,(∀v H0' H',Ext H0 H H0' H'->P H H0' H' v r->Q v H')->te σ H Q
abbrev RE (K:W.Frag) (R:Rl):TE->(En->Option Sl)->Prop:=RX K R (fun H H0' H' v r=>SlH K H H0' H' v r)
abbrev RP (K:W.Frag) (R:Rl):TE->(En->Option Sl)->Prop:=RX K R (fun _ H0' H' v r=>SlP K H0' H' v r)
abbrev RV (K:W.Frag) (R:Rl):TE->(En->Option PyData)->Prop:=RX K R (fun _ H0' _ v d=>Rep K H0' v d)
def RT(K:W.Frag)(R:Rl)(tt:TT)(f:En->Option Bool):Prop:=
 ∀(HB:Hp) (σ:L2.St) (ρ:En) (H0 H:Hp),Same H0 H->ST R HB H0 H σ ρ->∀b,f ρ=some b->∀Q:Bool->Hp->Prop,(∀H0' H',Ext H0 H H0' H'->Q b H')->tt σ H Q
def RA(K:W.Frag)(R:Rl)(ta:TA)(f:En->Option (List PyData)):Prop:=
 ∀(HB:Hp) (σ:L2.St) (ρ:En) (H0 H:Hp),Same H0 H->ST R HB H0 H σ ρ->∀ds,f ρ=some ds->∀Q:List V->Hp->Prop,(∀vs H0' H',Ext H0 H H0' H'->Reps K H0' vs ds->Q vs H')->ta σ H Q
def RQ(K:W.Frag)(R:Rl)(ta:TA)(f:En->Option (List Sl)):Prop:=
 ∀(HB:Hp) (σ:L2.St) (ρ:En) (H0 H:Hp),Same H0 H->ST R HB H0 H σ ρ->∀ss,f ρ=some ss->∀Q:List V->Hp->Prop,(∀vs H0' H',Ext H0 H H0' H'->Paired (SlP K H0' H') vs ss->Q vs H')->ta σ H Q
theorem RE.rp{te:TE}{f:En->Option Sl}(h:RE K R te f):RP K R te f:=fun HB σ ρ H0 H s e r hr Q q=>h HB σ ρ H0 H s e r hr Q fun v H0' H' x p=>q v H0' H' x p.p
theorem frz_ext{H0 H H0' H':Hp}{a:Addr}{vs:List V}(x:Ext H0 H H0' H')(hn:H a=none)(h1:H0' a=none)(h2:H' a=some (.lst vs)):Ext H0 H (upd H0' a (.lst vs)) H' :=
 ⟨x.s,x.s0.trans (Same.upd h1 _),fun b u e=>by
  by_cases hb:b=a
  . subst hb;rw [upd_same] at e;rw [h2];exact e
  . rw [upd_ne hb] at e;exact x.s1 b u e,fun b o hb h0=>by
  rw [upd_ne (ne_of_none hb hn)];exact x.own b o hb h0⟩
def mDat(f:En->Option Sl):En->Option PyData:=fun ρ=>(f ρ).map Sl.dat
theorem RE.rv{te:TE}{f:En->Option Sl}(h:RE K R te f):RV K R te (mDat f):=fun HB σ ρ H0 H s e d hd Q q=>by
 obtain ⟨r,hr,rfl⟩:=Option.map_eq_some_iff.mp hd;refine h HB σ ρ H0 H s e r hr Q fun v H0' H' x p=> ?_
 cases r with
 | val d=>exact q v H0' H' x p
 | own ds=>
  obtain ⟨a,vs,rfl,hn,h1,h2,h3⟩:=p;exact q _ _ _ (frz_ext x hn h1 h2) (.list (SqL.of upd_same) (Reps.same (Same.upd h1 _) h3))
def mPk(i:Nat):En->Option Sl:=fun ρ=>(ρ[i]?).join
def mVar(i:Nat):En->Option Sl:=fun ρ=>match (ρ[i]?).join with
 | some (.val d)=>some (.val d)
 | _=>none
def mK(d:PyData):En->Option Sl:=fun _=>some (.val d)
theorem join_some{α:Type}{o:Option (Option α)}{a:α}(h:o.join=some a):o=some (some a):=by
 cases o with
 | none=>cases h
 | some b=>exact congrArg some h
theorem rp_var(i:Nat)(hs:R.slot i):RP K R (tVar i) (mPk i):=fun HB σ ρ H0 H s e r hr Q q=>by
 obtain ⟨v,h1,h2⟩:=RelOk.get (K:=K) e.r hs (join_some hr);exact ⟨v,h1,q v H0 H (Ext.refl s) h2.p⟩
theorem re_var(i:Nat)(hs:R.slot i):RE K R (tVar i) (mVar i):=fun HB σ ρ H0 H s e r hr Q q=>by
 unfold mVar at hr
 cases ej:(ρ[i]?).join with
 | none=>rw [ej] at hr;cases hr
 | some r' =>
  rw [ej] at hr
  cases r' with
  | own _=>cases hr
  | val d=>
   cases hr
   obtain ⟨v,h1,h2⟩:=RelOk.get (K:=K) e.r hs (join_some ej);exact ⟨v,h1,q v H0 H (Ext.refl s) h2⟩
theorem re_k{v:V}{d:PyData}(h:∀H0:Hp,Rep K H0 v d):RE K R (tC v) (mK d):=fun HB σ ρ H0 H s e r hr Q q=>by
 cases hr
 exact q v H0 H (Ext.refl s) (h H0)
def OpD(K:W.Frag)(r:R2)(op:Sl->Sl->Option Sl):Prop:=
 ∀(H0 H:Hp) (x y:V) (sx sy z:Sl),Same H0 H->SlP K H0 H x sx->SlP K H0 H y sy->op sx sy=some z->∀Q:VK,(∀v H0' H',Ext H0 H H0' H'->SlH K H H0' H' v z->Q v H')->r x y H Q
def UnD(K:W.Frag)(r:V->Hp->VK->Prop)(op:Sl->Option Sl):Prop:=
 ∀(H0 H:Hp) (x:V) (sx z:Sl),Same H0 H->SlP K H0 H x sx->op sx=some z->∀Q:VK,(∀v H0' H',Ext H0 H H0' H'->SlH K H H0' H' v z->Q v H')->r x H Q
def mBin(op:Sl->Sl->Option Sl)(fa fb:En->Option Sl):En->Option Sl:=fun ρ=>(fa ρ).bind fun a=>(fb ρ).bind fun b=>op a b
def mUn(op:Sl->Option Sl)(fa:En->Option Sl):En->Option Sl:=fun ρ=>(fa ρ).bind op
theorem re_bin{r:R2}{op:Sl->Sl->Option Sl}{ta tb:TE}{fa fb:En->Option Sl}(ho:OpD K r op)(ha:RP K R ta fa)(hb:RP K R tb fb):RE K R (tOp r ta tb) (mBin op fa fb):=fun HB σ ρ H0 H s e z hz Q q=>by
 obtain ⟨x,hx,hz⟩:=Option.bind_eq_some_iff.mp hz;obtain ⟨y,hy,hz⟩:=Option.bind_eq_some_iff.mp hz;refine ha HB σ ρ H0 H s e x hx _ fun v H1 J1 x1 p1=> ?_;refine hb HB σ ρ H1 J1 x1.s1 (e.ext (K:=K) x1) y hy _ fun u H2 J2 x2 p2=> ?_;exact ho H2 J2 v u x y z x2.s1 (p1.ext x2) p2 hz Q fun w H3 J3 x3 p3=>q w H3 J3 ((x1.trans x2).trans x3) (p3.base (x1.trans x2).s)
theorem re_un{r:V->Hp->VK->Prop}{op:Sl->Option Sl}{ta:TE}{fa:En->Option Sl}(ho:UnD K r op)(ha:RP K R ta fa):RE K R (tUn r ta) (mUn op fa):=fun HB σ ρ H0 H s e z hz Q q=>by
 obtain ⟨x,hx,hz⟩:=Option.bind_eq_some_iff.mp hz;refine ha HB σ ρ H0 H s e x hx _ fun v H1 J1 x1 p1=> ?_;exact ho H1 J1 v x z x1.s1 p1 hz Q fun w H3 J3 x3 p3=>q w H3 J3 (x1.trans x3) (p3.base x1.s)
def iop(g:Int->Int->Int):Sl->Sl->Option Sl
 | .val (.int i), .val (.int j)=>some (.val (.int (g i j)))
 | _,_=>none
open Classical in
noncomputable def iopC(C:Int->Int->Prop)(g:Int->Int->Int):Sl->Sl->Option Sl
 | .val (.int i), .val (.int j)=>if C i j then some (.val (.int (g i j))) else none
 | _,_=>none
def icmp(g:Int->Int->Bool):Sl->Sl->Option Sl
 | .val (.int i), .val (.int j)=>some (.val (.bool (g i j)))
 | _,_=>none
def iun(g:Int->Int):Sl->Option Sl
 | .val (.int i)=>some (.val (.int (g i)))
 | _=>none
theorem opd_iop{g:Int->Int->Int}:OpD K (rI0 fun i j=> .int (g i j)) (iop g):=fun H0 H x y sx sy z s px py hz Q q=>by
 unfold iop at hz
 split at hz
 . cases hz
   exact ⟨_,_,px.int,py.int,q _ _ _ (Ext.refl s) (.int _)⟩
 . cases hz
theorem opd_iopC{C:Int->Int->Prop}{g:Int->Int->Int}:OpD K (rI C fun i j=> .int (g i j)) (iopC C g):=fun H0 H x y sx sy z s px py hz Q q=>by
 unfold iopC at hz
 split at hz
 . split at hz
   . rename_i hc
     cases hz
     exact ⟨_,_,px.int,py.int,hc,q _ _ _ (Ext.refl s) (.int _)⟩
   . cases hz
 . cases hz
theorem opd_icmp{g:Int->Int->Bool}:OpD K (rI0 fun i j=> .bl (g i j)) (icmp g):=fun H0 H x y sx sy z s px py hz Q q=>by
 unfold icmp at hz
 split at hz
 . cases hz
   exact ⟨_,_,px.int,py.int,q _ _ _ (Ext.refl s) (.bool _)⟩
 . cases hz
theorem und_iun{g:Int->Int}:UnD K (rU fun i=> .int (g i)) (iun g):=fun H0 H x sx z s px hz Q q=>by
 unfold iun at hz
 split at hz
 . cases hz
   exact ⟨_,px.int,q _ _ _ (Ext.refl s) (.int _)⟩
 . cases hz
def eqD(a b:PyData):Option Bool:=if a.canLay0=true/\b.canLay0=true/\min a.depth b.depth<=60 then some (PyData.eqv a b) else none
def deq:Sl->Sl->Option Sl:=fun a b=>(eqD a.dat b.dat).map fun k=> .val (.bool k)
def dne:Sl->Sl->Option Sl:=fun a b=>(eqD a.dat b.dat).map fun k=> .val (.bool (!k))
theorem opd_eq:OpD K (rEqD K) deq:=fun H0 H x y sx sy z s px py hz Q q=>by
 obtain ⟨k,hk,rfl⟩:=Option.map_eq_some_iff.mp hz;unfold eqD at hk
 split at hk
 . rename_i hc
   cases hk
   exact ⟨_,_,px.rep s,py.rep s,hc.1,hc.2.1,hc.2.2,q _ _ _ (Ext.refl s) (.bool _)⟩
 . cases hk
theorem opd_ne:OpD K (rNeD K) dne:=fun H0 H x y sx sy z s px py hz Q q=>by
 obtain ⟨k,hk,rfl⟩:=Option.map_eq_some_iff.mp hz;unfold eqD at hk
 split at hk
 . rename_i hc
   cases hk
   exact ⟨_,_,px.rep s,py.rep s,hc.1,hc.2.1,hc.2.2,q _ _ _ (Ext.refl s) (.bool _)⟩
 . cases hk
def isNone:PyData->Bool
 | .none=>true
 | _=>false
def disN:Sl->Sl->Option Sl
 | a, .val .none=>some (.val (.bool (isNone a.dat)))
 | _,_=>none
def disNN:Sl->Sl->Option Sl
 | a, .val .none=>some (.val (.bool (!isNone a.dat)))
 | _,_=>none
theorem isNone_of{H0 H:Hp}{v:V}{r:Sl}(s:Same H0 H)(p:SlP K H0 H v r):decide (v = .non)=isNone r.dat:=by
 have h:=rep_non (p.rep s)
 cases e:r.dat <;> simp_all [isNone]
theorem opd_isN:OpD K (fun x y H Q=>y = .non/\Q (.bl (decide (x = .non))) H) disN:=fun H0 H x y sx sy z s px py hz Q q=>by
 unfold disN at hz
 split at hz
 . cases hz
   refine ⟨py.none,?_⟩;rw [isNone_of s px];exact q _ _ _ (Ext.refl s) (.bool _)
 . cases hz
def dix:Sl->Sl->Option Sl
 | a, .val (.int i)=>match a.dat with
  | .list ds=>(atI ds i).map .val
  | .tuple ds=>(atI ds i).map .val
  | _=>none
 | _,_=>none
theorem Reps.atI{H:Hp}{vs:List V}{ds:List PyData}{i:Int}{d:PyData}(h:Reps K H vs ds)(e:atI ds i=some d):∃v,atI vs i=some v/\Rep K H v d:=by
 unfold L2.atI at e ⊢
 rw [h.length]
 cases ej:ixN ds.length i with
 | none=>rw [ej] at e;cases e
 | some j=>
  rw [ej] at e
  obtain ⟨v,h1,h2⟩:=Tf.Reps.get h (show ds[j]? = some d from e);exact ⟨v,h1,h2⟩
theorem opd_ix:OpD K (rIx K) dix:=fun H0 H x y sx sy z s px py hz Q q=>by
 unfold dix at hz
 split at hz
 . split at hz
   . rename_i i ds hd;obtain ⟨d,he,rfl⟩:=Option.map_eq_some_iff.mp hz;obtain ⟨a,vs,rfl,h1,h2⟩:=px.lst s hd;obtain ⟨v,h3,h4⟩:=Reps.atI h2 he;exact .inl ⟨a,vs,_,v,rfl,py.int,h1,h3,q _ _ _ (Ext.refl s) h4⟩
   . rename_i i ds hd;obtain ⟨d,he,rfl⟩:=Option.map_eq_some_iff.mp hz;obtain ⟨a,vs,rfl,h1,h2⟩:=px.tup hd;obtain ⟨v,h3,h4⟩:=Reps.atI h2 he;exact .inr (.inl ⟨a,vs,_,v,rfl,py.int,s.seqT h1,h3,q _ _ _ (Ext.refl s) h4⟩)
   . cases hz
 . cases hz
end
end Dm
namespace Dm
open PySem PySem.Spec PyProof.Rows L2 Tf
section
variable {K:W.Frag} {R:Rl} [RelOk K R]
def mNil:En->Option (List PyData):=fun _=>some []
def mCons(f:En->Option Sl)(g:En->Option (List PyData)):En->Option (List PyData):=fun ρ=>(f ρ).bind fun a=>(g ρ).bind fun as=>some (a.dat::as)
theorem ra_nil:RA K R tNil mNil:=fun HB σ ρ H0 H s e ds hd Q q=>by
 cases hd
 exact q [] H0 H (Ext.refl s) .nil
theorem ra_cons{te:TE}{ta:TA}{f:En->Option Sl}{g:En->Option (List PyData)}(hf:RE K R te f)(hg:RA K R ta g):RA K R (tCons te ta) (mCons f g):=fun HB σ ρ H0 H s e ds hd Q q=>by
 obtain ⟨a,ha,hd⟩:=Option.bind_eq_some_iff.mp hd;obtain ⟨as,has,hd⟩:=Option.bind_eq_some_iff.mp hd
 cases hd
 refine hf.rv HB σ ρ H0 H s e a.dat (by unfold mDat;rw [ha];rfl) _ fun v H1 J1 x1 p1=> ?_;exact hg HB σ ρ H1 J1 x1.s1 (e.ext (K:=K) x1) as has _ fun vs H2 J2 x2 p2=>q _ H2 J2 (x1.trans x2) (.cons (Rep.same x2.s0 p1) p2)
def mNilP:En->Option (List Sl):=fun _=>some []
def mConsP(f:En->Option Sl)(g:En->Option (List Sl)):En->Option (List Sl):=fun ρ=>(f ρ).bind fun a=>(g ρ).bind fun as=>some (a::as)
theorem rq_nil:RQ K R tNil mNilP:=fun HB σ ρ H0 H s e ds hd Q q=>by
 cases hd
 exact q [] H0 H (Ext.refl s) .nil
theorem rq_cons{te:TE}{ta:TA}{f:En->Option Sl}{g:En->Option (List Sl)}(hf:RP K R te f)(hg:RQ K R ta g):RQ K R (tCons te ta) (mConsP f g):=fun HB σ ρ H0 H s e ds hd Q q=>by
 obtain ⟨a,ha,hd⟩:=Option.bind_eq_some_iff.mp hd;obtain ⟨as,has,hd⟩:=Option.bind_eq_some_iff.mp hd
 cases hd
 refine hf HB σ ρ H0 H s e a ha _ fun v H1 J1 x1 p1=> ?_;exact hg HB σ ρ H1 J1 x1.s1 (e.ext (K:=K) x1) as has _ fun vs H2 J2 x2 p2=>q _ H2 J2 (x1.trans x2) (.cons (p1.ext x2) p2)
def mTup(f:En->Option (List PyData)):En->Option Sl:=fun ρ=>(f ρ).bind fun ds=>if ds.length<=sizeLine then some (.val (.tuple ds)) else none
def mLst(f:En->Option (List PyData)):En->Option Sl:=fun ρ=>(f ρ).bind fun ds=>if ds.length<=sizeLine then some (.own ds) else none
theorem re_tup{ta:TA}{f:En->Option (List PyData)}(h:RA K R ta f):RE K R (tTup ta) (mTup f):=fun HB σ ρ H0 H s e z hz Q q=>by
 obtain ⟨ds,hd,hz⟩:=Option.bind_eq_some_iff.mp hz
 split at hz
 . rename_i hl
   cases hz
   refine h HB σ ρ H0 H s e ds hd _ fun vs H1 J1 x1 p1=>⟨by rw [p1.length];exact hl,fun p hp=> ?_⟩;exact q _ _ _ (x1.trans (Ext.allocF x1.s1 hp _)) (.tuple (SqT.of upd_same) (Reps.same (Same.upd (x1.s1.free hp) _) p1))
 . cases hz
theorem re_lst{ta:TA}{f:En->Option (List PyData)}(h:RA K R ta f):RE K R (tLst ta) (mLst f):=fun HB σ ρ H0 H s e z hz Q q=>by
 obtain ⟨ds,hd,hz⟩:=Option.bind_eq_some_iff.mp hz
 split at hz
 . rename_i hl
   cases hz
   refine h HB σ ρ H0 H s e ds hd _ fun vs H1 J1 x1 p1=>⟨by rw [p1.length];exact hl,fun p hp=> ?_⟩;exact q _ _ _ (x1.trans (Ext.alloc x1.s1 hp _)) ⟨p,vs,rfl,x1.s.free hp,x1.s1.free hp,upd_same,p1⟩
 . cases hz
def spD(K:W.Frag)(F:List PyData->Option Sl):Sp:=fun vs H Q _=>∃H0 ds r,Same H0 H/\Reps K H0 vs ds/\F ds=some r/\∀v H0' H',Ext H0 H H0' H'->SlH K H H0' H' v r->Q v H'
def mCall(F:List PyData->Option Sl)(f:En->Option (List PyData)):En->Option Sl:=fun ρ=>(f ρ).bind F
theorem re_call{F:List PyData->Option Sl}{E:XK}{ta:TA}{f:En->Option (List PyData)}(h:RA K R ta f):RE K R (tCall (spD K F) [] E ta) (mCall F f):=fun HB σ ρ H0 H s e z hz Q q=>by
 obtain ⟨ds,hd,hz⟩:=Option.bind_eq_some_iff.mp hz;refine h HB σ ρ H0 H s e ds hd _ fun vs H1 J1 x1 p1=> ?_;rw [List.append_nil];exact ⟨H1,ds,z,x1.s1,p1,hz,fun v H2 J2 x2 p2=>q v H2 J2 (x1.trans x2) (p2.base x1.s)⟩
def CallD(K:W.Frag)(r:List V->Hp->VK->Prop)(F:List Sl->Option Sl):Prop:=
 ∀(H0 H:Hp) (vs:List V) (ss:List Sl) (z:Sl),Same H0 H->Paired (SlP K H0 H) vs ss->F ss=some z->∀Q:VK,(∀v H0' H',Ext H0 H H0' H'->SlH K H H0' H' v z->Q v H')->r vs H Q
def mCallP(F:List Sl->Option Sl)(f:En->Option (List Sl)):En->Option Sl:=fun ρ=>(f ρ).bind F
theorem re_callB{r:List V->Hp->VK->Prop}{F:List Sl->Option Sl}{ta:TA}{f:En->Option (List Sl)}(hc:CallD K r F)(h:RQ K R ta f):RE K R (tCB r ta) (mCallP F f):=fun HB σ ρ H0 H s e z hz Q q=>by
 obtain ⟨ss,hd,hz⟩:=Option.bind_eq_some_iff.mp hz;refine h HB σ ρ H0 H s e ss hd _ fun vs H1 J1 x1 p1=> ?_;exact hc H1 J1 vs ss z x1.s1 p1 hz Q fun v H2 J2 x2 p2=>q v H2 J2 (x1.trans x2) (p2.base x1.s)
theorem paired1{H0 H:Hp}{vs:List V}{a:Sl}(h:Paired (SlP K H0 H) vs [a]):∃v,vs = [v]/\SlP K H0 H v a:=by
 cases h with | cons h t=>cases t;exact ⟨_,rfl,h⟩
theorem paired2{H0 H:Hp}{vs:List V}{a b:Sl}(h:Paired (SlP K H0 H) vs [a,b]):∃v w,vs = [v,w]/\SlP K H0 H v a/\SlP K H0 H w b:=by
 cases h with | cons h t=>cases t with | cons h2 t=>cases t;exact ⟨_,_,rfl,h,h2⟩
def dLen:List Sl->Option Sl
 | [a]=>match a.dat with
  | .list ds=>some (.val (.int ds.length))
  | .tuple ds=>some (.val (.int ds.length))
  | _=>none
 | _=>none
theorem cd_len:CallD K (fun xs H Q=>∃p ys,xs = [.ref p]/\(SqL K H p ys\/SqT K H p ys)/\Q (.int ys.length) H) dLen:=fun H0 H vs ss z s p hz Q q=>by
 unfold dLen at hz
 split at hz
 . obtain ⟨v,rfl,pa⟩:=paired1 p
   split at hz
   . rename_i ds hd
     cases hz
     obtain ⟨a,vs,rfl,h1,h2⟩:=pa.lst s hd;refine ⟨a,vs,rfl, .inl h1,?_⟩;rw [h2.length];exact q _ _ _ (Ext.refl s) (.int _)
   . rename_i ds hd
     cases hz
     obtain ⟨a,vs,rfl,h1,h2⟩:=pa.tup hd;refine ⟨a,vs,rfl, .inr (s.seqT h1),?_⟩;rw [h2.length];exact q _ _ _ (Ext.refl s) (.int _)
   . cases hz
 . cases hz
def dAbs:List Sl->Option Sl
 | [.val (.int i)]=>some (.val (.int (if i<0 then -i else i)))
 | _=>none
theorem cd_abs:CallD K (fun xs H Q=>∃i,xs = [.int i]/\Q (.int (if i<0 then -i else i)) H) dAbs:=fun H0 H vs ss z s p hz Q q=>by
 unfold dAbs at hz
 split at hz
 . obtain ⟨v,rfl,pa⟩:=paired1 p
   cases hz
   exact ⟨_,by rw [pa.int],q _ _ _ (Ext.refl s) (.int _)⟩
 . cases hz
def dList:List Sl->Option Sl
 | [a]=>match a.dat with
  | .list ds=>some (.own ds)
  | .tuple ds=>some (.own ds)
  | _=>none
 | _=>none
theorem cd_list:CallD K (fun xs H Q=>∃p ys,xs = [.ref p]/\(SqL K H p ys\/SqT K H p ys)/\∀l,H l=none->Q (.ref l) (upd H l (.lst ys))) dList:=fun H0 H vs ss z s p hz Q q=>by
 unfold dList at hz
 split at hz
 . obtain ⟨v,rfl,pa⟩:=paired1 p
   split at hz
   . rename_i ds hd
     cases hz
     obtain ⟨a,vs,rfl,h1,h2⟩:=pa.lst s hd;exact ⟨a,vs,rfl, .inl h1,fun l hl=>q _ _ _ (Ext.alloc s hl _) ⟨l,vs,rfl,hl,s.free hl,upd_same,h2⟩⟩
   . rename_i ds hd
     cases hz
     obtain ⟨a,vs,rfl,h1,h2⟩:=pa.tup hd;exact ⟨a,vs,rfl, .inr (s.seqT h1),fun l hl=>q _ _ _ (Ext.alloc s hl _) ⟨l,vs,rfl,hl,s.free hl,upd_same,h2⟩⟩
   . cases hz
 . cases hz
def dTuple:List Sl->Option Sl
 | [a]=>match a.dat with
  | .list ds=>some (.val (.tuple ds))
  | .tuple ds=>some (.val (.tuple ds))
  | _=>none
 | _=>none
theorem cd_tuple:CallD K (fun xs H Q=>∃p ys,xs = [.ref p]/\((SqL K H p ys/\∀l,H l=none->Q (.ref l) (upd H l (.tup ys)))\/(SqT K H p ys/\Q (.ref p) H))) dTuple:=fun H0 H vs ss z s p hz Q q=>by
 unfold dTuple at hz
 split at hz
 . obtain ⟨v,rfl,pa⟩:=paired1 p
   split at hz
   . rename_i ds hd
     cases hz
     obtain ⟨a,vs,rfl,h1,h2⟩:=pa.lst s hd;exact ⟨a,vs,rfl, .inl ⟨h1,fun l hl=>q _ _ _ (Ext.allocF s hl _) (.tuple (SqT.of upd_same) (Reps.same (Same.upd (s.free hl) _) h2))⟩⟩
   . rename_i ds hd
     cases hz
     obtain ⟨a,vs,rfl,h1,h2⟩:=pa.tup hd;exact ⟨a,vs,rfl, .inr ⟨s.seqT h1,q _ _ _ (Ext.refl s) (.tuple h1 h2)⟩⟩
   . cases hz
 . cases hz
def intsOf:List PyData->Option (List Int)
 | []=>some []
 | .int i::r=>(intsOf r).map (i :: ·)
 | _::_=>none
theorem intsOf_eq:∀ {ds:List PyData} {ns:List Int},intsOf ds=some ns->ds=ns.map .int
 | [],ns,h=>by cases h;rfl
 | .int i::r,ns,h=>by
  obtain ⟨ms,h1,rfl⟩:=Option.map_eq_some_iff.mp (show (intsOf r).map (i :: ·)=some ns from h);rw [intsOf_eq h1];rfl
theorem intsOf_map:∀ns:List Int,intsOf (ns.map .int)=some ns
 | []=>rfl
 | i::r=>by show (intsOf (r.map .int)).map (i :: ·)=_;rw [intsOf_map r];rfl
theorem reps_ints{H:Hp}:∀ {vs:List V} {ns:List Int},Reps K H vs (ns.map .int)->vs=ns.map .int
 | _,[],h=>by cases h;rfl
 | _,n::r,h=>by
  cases h with
  | cons h t=>cases h;rw [reps_ints t];rfl
def dSum:List Sl->Option Sl
 | [a]=>match a.dat with
  | .list ds=>(intsOf ds).map fun ns=> .val (.int (List.sum ns))
  | _=>none
 | _=>none
theorem cd_sum:CallD K (fun xs H Q=>∃p ns,xs = [.ref p]/\SqL K H p (ns.map V.int)/\Q (.int (List.sum ns)) H) dSum:=fun H0 H vs ss z s p hz Q q=>by
 unfold dSum at hz
 split at hz
 . obtain ⟨v,rfl,pa⟩:=paired1 p
   split at hz
   . rename_i ds hd;obtain ⟨ns,hn,rfl⟩:=Option.map_eq_some_iff.mp hz;obtain ⟨a,vs,rfl,h1,h2⟩:=pa.lst s hd;rw [intsOf_eq hn] at h2
     rw [reps_ints h2] at h1
     exact ⟨a,ns,rfl,h1,q _ _ _ (Ext.refl s) (.int _)⟩
   . cases hz
 . cases hz
def dInt:List Sl->Option Sl
 | [.val (.int i)]=>some (.val (.int i))
 | [.val (.bool k)]=>some (.val (.int (if k then 1 else 0)))
 | _=>none
theorem cd_int:CallD K (fun xs H Q=>(∃i,xs = [.int i]/\Q (.int i) H)\/∃k,xs = [.bl k]/\Q (.int (if k then 1 else 0)) H) dInt:=fun H0 H vs ss z s p hz Q q=>by
 unfold dInt at hz
 split at hz
 . obtain ⟨v,rfl,pa⟩:=paired1 p
   cases hz
   exact .inl ⟨_,by rw [pa.int],q _ _ _ (Ext.refl s) (.int _)⟩
 . obtain ⟨v,rfl,pa⟩:=paired1 p
   cases hz
   exact .inr ⟨_,by rw [pa.bool],q _ _ _ (Ext.refl s) (.int _)⟩
 . cases hz
def dMin:List Sl->Option Sl
 | [.val (.int i), .val (.int j)]=>some (.val (.int (if j<i then j else i)))
 | _=>none
theorem cd_min:CallD K (fun xs H Q=>∃i j,xs = [.int i, .int j]/\Q (.int (if j<i then j else i)) H) dMin:=fun H0 H vs ss z s p hz Q q=>by
 unfold dMin at hz
 split at hz
 . obtain ⟨v,w,rfl,pa,pb⟩:=paired2 p
   cases hz
   exact ⟨_,_,by rw [pa.int,pb.int],q _ _ _ (Ext.refl s) (.int _)⟩
 . cases hz
def tyD:PyData->Option String
 | .none=>some "NoneType"
 | .bool _=>some "bool"
 | .int _=>some "int"
 | .str _=>some "str"
 | .list _=>some "list"
 | .tuple _=>some "tuple"
 | _=>none
def isiD(n:String)(t:String):Option Bool:=
 if n = "int" then some (t == "int" || t == "bool") else if n = "bool" \/ n = "str" \/ n = "list" \/ n = "tuple" then some (t==n) else none
def mIsi(n:String)(f:En->Option Sl):En->Option Sl:=fun ρ=>(f ρ).bind fun a=>(tyD a.dat).bind fun t=>(isiD n t).map fun b=> .val (.bool b)
def mTest(f:En->Option Sl):En->Option Bool:=fun ρ=>(f ρ).bind fun a=>match a with
 | .val (.bool b)=>some b
 | _=>none
theorem mTest_some{f:En->Option Sl}{ρ:En}{b:Bool}(h:mTest f ρ=some b):f ρ=some (.val (.bool b)):=by
 obtain ⟨a,ha,h⟩:=Option.bind_eq_some_iff.mp h;rw [ha]
 split at h
 . cases h;rfl
 . cases h
theorem rt_test{te:TE}{f:En->Option Sl}(h:RP K R te f):RT K R (tTest te) (mTest f):=fun HB σ ρ H0 H s e b hb Q q=>
 h HB σ ρ H0 H s e _ (mTest_some hb) _ fun v H1 J1 x1 p1=>⟨b,p1.bool,q _ _ x1⟩
theorem rt_b{te:TE}{f:En->Option Sl}(h:RP K R te f):RT K R (tB te) (mTest f):=fun HB σ ρ H0 H s e b hb Q q=>
 h HB σ ρ H0 H s e _ (mTest_some hb) _ fun v H1 J1 x1 p1=>⟨b,p1.bool,q _ _ x1⟩
def mAnd(f g:En->Option Bool):En->Option Bool:=fun ρ=>(f ρ).bind fun b=>if b then g ρ else some false
def mOr(f g:En->Option Bool):En->Option Bool:=fun ρ=>(f ρ).bind fun b=>if b then some true else g ρ
def mNot(f:En->Option Bool):En->Option Bool:=fun ρ=>(f ρ).map (!·)
theorem rt_or{t u:TT}{f g:En->Option Bool}(h:RT K R t f)(k:RT K R u g):RT K R (tOr t u) (mOr f g):=fun HB σ ρ H0 H s e b hb Q q=>by
 obtain ⟨c,hc,hb⟩:=Option.bind_eq_some_iff.mp hb;refine h HB σ ρ H0 H s e c hc _ fun H1 J1 x1=> ?_
 cases c with
 | false=>exact iteF (k HB σ ρ H1 J1 x1.s1 (e.ext (K:=K) x1) b hb Q fun H2 J2 x2=>q _ _ (x1.trans x2))
 | true=>cases hb;exact iteT (q _ _ x1)
theorem rt_not{t:TT}{f:En->Option Bool}(h:RT K R t f):RT K R (tNot t) (mNot f):=fun HB σ ρ H0 H s e b hb Q q=>by
 obtain ⟨c,hc,rfl⟩:=Option.map_eq_some_iff.mp hb;exact h HB σ ρ H0 H s e c hc _ fun H1 J1 x1=>q _ _ x1
def mAndV(f g:En->Option Sl):En->Option Sl:=fun ρ=>(mTest f ρ).bind fun b=>if b then g ρ else some (.val (.bool false))
def mOrV(f g:En->Option Sl):En->Option Sl:=fun ρ=>(mTest f ρ).bind fun b=>if b then some (.val (.bool true)) else g ρ
def mNotV(f:En->Option Sl):En->Option Sl:=fun ρ=>(mTest f ρ).map fun b=> .val (.bool (!b))
def mIfE(c:En->Option Bool)(f g:En->Option Sl):En->Option Sl:=fun ρ=>(c ρ).bind fun b=>if b then f ρ else g ρ
theorem re_ifE{c:TT}{t u:TE}{fc:En->Option Bool}{f g:En->Option Sl}(hc:RT K R c fc)(h:RE K R t f)(k:RE K R u g):RE K R (tIf c t u) (mIfE fc f g):=fun HB σ ρ H0 H s e z hz Q q=>by
 obtain ⟨b,hb,hz⟩:=Option.bind_eq_some_iff.mp hz;refine hc HB σ ρ H0 H s e b hb _ fun H1 J1 x1=> ?_
 cases b with
 | true=>exact iteT (h HB σ ρ H1 J1 x1.s1 (e.ext (K:=K) x1) z hz Q fun v H2 J2 x2 p2=>q _ _ _ (x1.trans x2) (p2.base x1.s))
 | false=>exact iteF (k HB σ ρ H1 J1 x1.s1 (e.ext (K:=K) x1) z hz Q fun v H2 J2 x2 p2=>q _ _ _ (x1.trans x2) (p2.base x1.s))
def RO(K:W.Frag)(R:Rl)(to:TO)(f:En->Option (Option Int)):Prop:=
 ∀(HB:Hp) (σ:L2.St) (ρ:En) (H0 H:Hp),Same H0 H->ST R HB H0 H σ ρ->∀o,f ρ=some o->∀Q:Option Int->Hp->Prop,(∀H0' H',Ext H0 H H0' H'->Q o H')->to σ H Q
def mNoPart:En->Option (Option Int):=fun _=>some none
def mPart(f:En->Option Sl):En->Option (Option Int):=fun ρ=>(f ρ).bind fun a=>match a with
 | .val (.int i)=>some (some i)
 | _=>none
theorem ro_none:RO K R tNoPart mNoPart:=fun HB σ ρ H0 H s e o ho Q q=>by cases ho;exact q _ _ (Ext.refl s)
theorem ro_some{te:TE}{f:En->Option Sl}(h:RP K R te f):RO K R (tPart te) (mPart f):=fun HB σ ρ H0 H s e o ho Q q=>by
 obtain ⟨a,ha,ho⟩:=Option.bind_eq_some_iff.mp ho
 split at ho
 . cases ho
   exact h HB σ ρ H0 H s e _ ha _ fun v H1 J1 x1 p1=>⟨_,p1.int,q _ _ x1⟩
 . cases ho
def cutD{α:Type}(xs:List α)(lo hi:Option Int):List α:=(xs.drop (HT.sIx xs.length 0 lo)).take (HT.sIx xs.length xs.length hi - HT.sIx xs.length 0 lo)
theorem Reps.drop{H:Hp}:∀ {vs:List V} {ds:List PyData} (n:Nat),Reps K H vs ds->Reps K H (vs.drop n) (ds.drop n)
 | _,_,0,h=>h
 | _,_,_+1, .nil=> .nil
 | _,_,n+1, .cons _ t=>Reps.drop n t
theorem Reps.take{H:Hp}:∀ {vs:List V} {ds:List PyData} (n:Nat),Reps K H vs ds->Reps K H (vs.take n) (ds.take n)
 | _,_,0,_=> .nil
 | _,_,_+1, .nil=> .nil
 | _,_,n+1, .cons h t=> .cons h (Reps.take n t)
theorem Reps.cut{H:Hp}{vs:List V}{ds:List PyData}(h:Reps K H vs ds)(lo hi:Option Int):Reps K H (cutV vs lo hi) (cutD ds lo hi):=by
 unfold cutV cutD;rw [h.length];exact Reps.take _ (Reps.drop _ h)
def dSl(a:Sl)(lo hi:Option Int):Option Sl:=match a.dat with
 | .list ds=>some (.own (cutD ds lo hi))
 | .tuple ds=>if HT.sIx ds.length 0 lo=0/\HT.sIx ds.length ds.length hi=ds.length then none else some (.val (.tuple (cutD ds lo hi)))
 | _=>none
def mSl(f:En->Option Sl)(l h:En->Option (Option Int)):En->Option Sl:=fun ρ=>(f ρ).bind fun a=>(l ρ).bind fun lo=>(h ρ).bind fun hi=>dSl a lo hi
theorem re_sl{te:TE}{tl th:TO}{f:En->Option Sl}{fl fh:En->Option (Option Int)}(h:RP K R te f)(hl:RO K R tl fl)(hh:RO K R th fh):RE K R (tSl (fun x lo hi H Q=>rSlL K x lo hi H Q\/rSlT K x lo hi H Q) te tl th) (mSl f fl fh):=fun HB σ ρ H0 H s e z hz Q q=>by
 obtain ⟨a,ha,hz⟩:=Option.bind_eq_some_iff.mp hz;obtain ⟨lo,hlo,hz⟩:=Option.bind_eq_some_iff.mp hz;obtain ⟨hi,hhi,hz⟩:=Option.bind_eq_some_iff.mp hz;refine h HB σ ρ H0 H s e a ha _ fun v H1 J1 x1 p1=> ?_;refine hl HB σ ρ H1 J1 x1.s1 (e.ext (K:=K) x1) lo hlo _ fun H2 J2 x2=> ?_;refine hh HB σ ρ H2 J2 x2.s1 ((e.ext (K:=K) x1).ext (K:=K) x2) hi hhi _ fun H3 J3 x3=> ?_;have x:=(x1.trans x2).trans x3;have p:=p1.ext (x2.trans x3);unfold dSl at hz
 split at hz
 . rename_i ds hd
   cases hz
   obtain ⟨b,vs,rfl,h1,h2⟩:=p.lst x.s1 hd;exact .inl ⟨b,vs,rfl,h1,fun l hl=>q _ _ _ (x.trans (Ext.alloc x.s1 hl _)) ⟨l,_,rfl,x.s.free hl,x.s1.free hl,upd_same,Reps.cut h2 lo hi⟩⟩
 . rename_i ds hd
   split at hz
   . cases hz
   . rename_i hw
     cases hz
     obtain ⟨b,vs,rfl,h1,h2⟩:=p.tup hd;refine .inr ⟨b,vs,rfl,x.s1.seqT h1,by rw [h2.length];exact hw,fun l hl=>q _ _ _ (x.trans (Ext.allocF x.s1 hl _)) (.tuple (SqT.of upd_same) (Reps.same (Same.upd (x.s1.free hl) _) (Reps.cut h2 lo hi)))⟩
 . cases hz
end
end Dm
namespace Dm
open PySem PySem.Spec PyProof.Rows L2 Tf
inductive Out where
 | nx (ρ:En) | rt (r:Sl) (ρ:En) | bk (ρ:En) | ct (ρ:En)
section
variable {K:W.Frag} {R:Rl} [RelOk K R]
def EndR(K:W.Frag)(R:Rl)(HB S0:Hp)(D:Ends):Out->Prop
 | .nx ρ=>∀σ H0 H,Ext S0 HB H0 H->ST R HB H0 H σ ρ->D.nx σ H
 | .bk ρ=>∀σ H0 H,Ext S0 HB H0 H->ST R HB H0 H σ ρ->D.bk σ H
 | .ct ρ=>∀σ H0 H,Ext S0 HB H0 H->ST R HB H0 H σ ρ->D.ct σ H
 | .rt r ρ=>∀v σ H0 H,Ext S0 HB H0 H->ST R HB H0 H σ ρ->SlH K HB H0 H v r->D.rt v H
def RS(K:W.Frag)(R:Rl)(ts:TS)(g:En->Option Out):Prop:=
 ∀(HB S0:Hp) (σ:L2.St) (ρ:En) (H0 H:Hp),Ext S0 HB H0 H->ST R HB H0 H σ ρ->∀o,g ρ=some o->∀D:Ends,EndR K R HB S0 D o->ts D σ H
def mNext:En->Option Out:=fun ρ=>some (.nx ρ)
def mBrk:En->Option Out:=fun ρ=>some (.bk ρ)
def mCt:En->Option Out:=fun ρ=>some (.ct ρ)
def mRetN:En->Option Out:=fun ρ=>some (.rt (.val .none) ρ)
theorem rs_next:RS K R tNext mNext:=fun HB S0 σ ρ H0 H x e o ho D d=>by cases ho;exact d σ H0 H x e
theorem rs_retN:RS K R tRetN mRetN:=fun HB S0 σ ρ H0 H x e o ho D d=>by cases ho;exact d .non σ H0 H x e .none
def mSeq(f g:En->Option Out):En->Option Out:=fun ρ=>(f ρ).bind fun o=>match o with
 | .nx ρ'=>g ρ'
 | o=>some o
theorem rs_seq{t u:TS}{f g:En->Option Out}(h:RS K R t f)(k:RS K R u g):RS K R (tSeq t u) (mSeq f g):=fun HB S0 σ ρ H0 H x e o ho D d=>by
 obtain ⟨o1,h1,ho⟩:=Option.bind_eq_some_iff.mp ho;refine h HB S0 σ ρ H0 H x e o1 h1 { D with nx:=u D } ?_
 cases o1 with
 | nx ρ'=>exact fun σ' H0' H' x' e'=>k HB S0 σ' ρ' H0' H' x' e' o ho D d
 | rt r _=>cases ho;exact d
 | bk r=>cases ho;exact d
 | ct r=>cases ho;exact d
theorem ER.set{HB H0 H H0' H':Hp}{σ:L2.St}{ρ:En}{i:Nat}{v:V}{r:Sl}(e:ER K HB H0 H σ ρ)(x:Ext H0 H H0' H')(sb:Same HB H)(h:SlH K H H0' H' v r):ER K HB H0' H' (σ.set i (some v)) (ρ.set i (some r)):=by
 have e':=e.ext x;refine ⟨by rw [List.length_set,List.length_set];exact e.len,fun j s hs=> ?_,fun j k a ds es hjk hj hk h1 h2=> ?_⟩
 . by_cases hj:i=j
   . subst hj;rw [List.getElem?_set_self'] at hs ⊢
     cases hq:ρ[i]? with
     | none=>rw [hq] at hs;cases hs
     | some q=>
      rw [hq] at hs
      have hi:i<σ.length:=by rw [e.len];exact (List.getElem?_eq_some_iff.mp hq).1
      rw [List.getElem?_eq_getElem hi]
      cases hs
      exact ⟨v,rfl,h.base sb⟩
   . rw [List.getElem?_set_ne hj] at hs ⊢
     exact e'.get j s hs
 . have key : ∀ (j' k' : Nat) (b : Addr) ds' es', i = j' -> i ≠ k' -> (ρ.set i (some r))[j']? = some (some (.own ds')) -> ρ[k']? = some (some (.own es')) -> (σ.set i (some v))[j']? = some (some (.ref b)) -> σ[k']? ≠ some (some (.ref b)) := by
    clear hj hk h1 h2 hjk;intro j' k' b ds' es' hij hik hj hk h1 h2;subst hij;rw [List.getElem?_set_self'] at hj h1
    cases hq:ρ[i]? with
    | none=>rw [hq] at hj;cases hj
    | some q=>
     rw [hq] at hj
     cases hj
     have hi:i<σ.length:=by rw [e.len];exact (List.getElem?_eq_some_iff.mp hq).1
     rw [List.getElem?_eq_getElem hi] at h1
     cases h1
     obtain ⟨a',vs,ea,hn,_⟩:=h
     cases ea
     obtain ⟨w,hw,hb⟩:=e.get k' _ hk;rw [h2] at hw
     cases hw
     obtain ⟨b',ws,eb,_,_,hs,_⟩:=hb
     cases eb
     rw [hn] at hs
     cases hs
   by_cases hij:i=j
   . have hik:i≠k:=fun z=>hjk (hij.symm.trans z);rw [List.getElem?_set_ne hik] at hk h2
     exact key j k a ds es hij hik hj hk h1 h2
   . rw [List.getElem?_set_ne hij] at hj h1
     by_cases hik:i=k
     . exact key k j a es ds hik hij hk hj h2 h1
     . rw [List.getElem?_set_ne hik] at hk h2
       exact e.apart j k a ds es hjk hj hk h1 h2
def mAsg(i:Nat)(f:En->Option Sl):En->Option Out:=fun ρ=>(f ρ).map fun r=> .nx (ρ.set i (some r))
theorem rs_asg{te:TE}{f:En->Option Sl}{i:Nat}(hsl:R.slot i)(h:RE K R te f):RS K R (tAsg te (gName i)) (mAsg i f):=fun HB S0 σ ρ H0 H x e o ho D d=>by
 obtain ⟨r,hr,rfl⟩:=Option.map_eq_some_iff.mp ho;exact h HB σ ρ H0 H x.s1 e r hr _ fun v H1 J1 x1 p1=>d _ H1 J1 (x.chain x1) ⟨RelOk.set e.r hsl x1 x.s p1⟩
theorem rs_asgC{te:TE}{f:En->Option Sl}{i:Nat}(hsl:R.slot i)(h:RE K R te f):RS K R (tSetC i te) (mAsg i f):=fun HB S0 σ ρ H0 H x e o ho D d=>by
 obtain ⟨r,hr,rfl⟩:=Option.map_eq_some_iff.mp ho;exact h HB σ ρ H0 H x.s1 e r hr _ fun v H1 J1 x1 p1=>d _ H1 J1 (x.chain x1) ⟨RelOk.set e.r hsl x1 x.s p1⟩
def mRet(f:En->Option Sl):En->Option Out:=fun ρ=>(f ρ).map fun r=> .rt r ρ
theorem rs_ret{te:TE}{f:En->Option Sl}(h:RE K R te f):RS K R (tRet te) (mRet f):=fun HB S0 σ ρ H0 H x e o ho D d=>by
 obtain ⟨r,hr,rfl⟩:=Option.map_eq_some_iff.mp ho;exact h HB σ ρ H0 H x.s1 e r hr _ fun v H1 J1 x1 p1=>d v σ H1 J1 (x.chain x1) (e.ext (K:=K) x1) (p1.base x.s)
theorem rs_retV(i:Nat)(hsl:R.slot i):RS K R (tRet (tVar i)) (mRet (mPk i)):=fun HB S0 σ ρ H0 H x e o ho D d=>by
 obtain ⟨r,hr,rfl⟩:=Option.map_eq_some_iff.mp ho;obtain ⟨v,h1,h2⟩:=RelOk.get (K:=K) e.r hsl (join_some hr);exact ⟨v,h1,d v σ H0 H x e h2⟩
def mIf(c:En->Option Bool)(f g:En->Option Out):En->Option Out:=fun ρ=>(c ρ).bind fun b=>if b then f ρ else g ρ
theorem rs_if{c:TT}{t u:TS}{fc:En->Option Bool}{f g:En->Option Out}(hc:RT K R c fc)(h:RS K R t f)(k:RS K R u g):RS K R (tIfS c t u) (mIf fc f g):=fun HB S0 σ ρ H0 H x e o ho D d=>by
 obtain ⟨b,hb,ho⟩:=Option.bind_eq_some_iff.mp ho;refine hc HB σ ρ H0 H x.s1 e b hb _ fun H1 J1 x1=> ?_
 cases b with
 | true=>exact iteT (h HB S0 σ ρ H1 J1 (x.chain x1) (e.ext (K:=K) x1) o ho D d)
 | false=>exact iteF (k HB S0 σ ρ H1 J1 (x.chain x1) (e.ext (K:=K) x1) o ho D d)
def mDrop(f:En->Option Sl):En->Option Out:=fun ρ=>(f ρ).map fun _=> .nx ρ
theorem Ext.write{S0 HB H0 H:Hp}{a:Addr}(x:Ext S0 HB H0 H)(hb:HB a=none)(h0:H0 a=none)(o:HO):Ext S0 HB H0 (upd H a o) :=
 ⟨fun b u e=>by rw [upd_ne (ne_of_none e hb)];exact x.s b u e,x.s0,fun b u e=>by rw [upd_ne (ne_of_none e h0)];exact x.s1 b u e,x.own⟩
theorem ER.write {HB H0 H : Hp} {σ : L2.St} {ρ : En} {i : Nat} {a : Addr} {ds es : List PyData} {ys : List V} (e : ER K HB H0 H σ ρ) (hi : ρ[i]? = some (some (.own ds))) (hs : σ[i]? = some (some (.ref a))) (hb : HB a = none) (h0 : H0 a = none) (hr : Reps K H0 ys es) :
 ER K HB H0 (upd H a (.lst ys)) σ (ρ.set i (some (.own es))):=by
 have own:∀(j:Nat),∀ts,(ρ.set i (some (.own es)))[j]? = some (some (.own ts))->∃ts',ρ[j]? = some (some (.own ts')):=by
  intro j ts h
  by_cases hj:i=j
  . subst hj;exact ⟨_,hi⟩
  . rw [List.getElem?_set_ne hj] at h;exact ⟨_,h⟩
 refine ⟨by rw [List.length_set];exact e.len,fun j s hq=> ?_,fun j k b ts us hjk hj hk h1 h2=> ?_⟩
 . by_cases hj:i=j
   . subst hj;rw [List.getElem?_set_self',hi] at hq
     cases hq
     exact ⟨.ref a,hs,a,ys,rfl,hb,h0,upd_same,hr⟩
   . rw [List.getElem?_set_ne hj] at hq
     obtain ⟨v,h1,h2⟩:=e.get j s hq;refine ⟨v,h1,?_⟩
     cases s with
     | val d=>exact h2
     | own ts=>
      obtain ⟨b,vs,rfl,g1,g2,g3,g4⟩:=h2;refine ⟨b,vs,rfl,g1,g2,?_,g4⟩;rw [upd_ne]
      . exact g3
      . rintro rfl;exact e.apart i j b ds ts hj hi hq hs h1
 . obtain ⟨ts',hj⟩:=own j ts hj;obtain ⟨us',hk⟩:=own k us hk;exact e.apart j k b ts' us' hjk hj hk h1 h2
def mApp(i:Nat)(f:En->Option Sl):En->Option Out:=fun ρ=>match (ρ[i]?).join with
 | some (.own ds)=>(f ρ).bind fun r=>if ds.length<sizeLine then some (.nx (ρ.set i (some (.own (ds ++ [r.dat]))))) else none
 | _=>none
theorem own_of {HB H0 H : Hp} {σ : L2.St} {ρ : En} {i : Nat} {ds : List PyData} (e : ST R HB H0 H σ ρ) (hsl : R.slot i) (h : (ρ[i]?).join = some (.own ds)) :
 ∃a vs,ρ[i]? = some (some (.own ds))/\σ[i]? = some (some (.ref a))/\HB a=none/\H0 a=none/\H a=some (.lst vs)/\Reps K H0 vs ds:=by
 obtain ⟨v,h1,a,vs,rfl,g1,g2,g3,g4⟩:=RelOk.get (K:=K) e.r hsl (join_some h);exact ⟨a,vs,join_some h,h1,g1,g2,g3,g4⟩
theorem rs_app{te:TE}{f:En->Option Sl}{i:Nat}(hsl:R.slot i)(h:RE K R te f):RS K R (tDrop (tBM K "list" rAppend (tVar i) (tCons te tNil))) (mApp i f):=fun HB S0 σ ρ H0 H x e o ho D d=>by
 unfold mApp at ho
 split at ho
 . rename_i ds hj;obtain ⟨r,hr,ho⟩:=Option.bind_eq_some_iff.mp ho
   split at ho
   . rename_i hl
     cases ho
     obtain ⟨a,vs,hi,hs,g1,g2,g3,g4⟩:=own_of (K:=K) e hsl hj;refine ⟨.ref a,hs, .inl ⟨rfl,vs,SqL.of g3⟩,?_⟩;refine h.rv HB σ ρ H0 H x.s1 e r.dat (by unfold mDat;rw [hr];rfl) _ fun v H1 J1 x1 p1=> ?_;have l0:=x1.own a _ g3 g2;refine ⟨a,vs,v,rfl,rfl,x1.s _ _ g3,by rw [g4.length];exact hl,?_⟩;exact d σ H1 _ ((x.chain x1).write g1 l0 _) ⟨RelOk.write (K:=K) (e.ext (K:=K) x1).r hsl hi hs g1 l0 (x1.s _ _ g3) (Tf.Reps.snoc (Reps.same x1.s0 g4) p1)⟩
   . cases ho
 . cases ho
def mSet(i:Nat)(fj f:En->Option Sl):En->Option Out:=fun ρ=>(f ρ).bind fun r=>match (ρ[i]?).join with
 | some (.own ds)=>(fj ρ).bind fun k=>match k with
  | .val (.int k)=>(ixN ds.length k).map fun j=> .nx (ρ.set i (some (.own (ds.set j r.dat))))
  | _=>none
 | _=>none
theorem Reps.set{H:Hp}{v:V}{d:PyData}(r:Rep K H v d):∀ {vs:List V} {ds:List PyData} (i:Nat),Reps K H vs ds->Reps K H (vs.set i v) (ds.set i d)
 | _,_,_, .nil=> .nil
 | _,_,0, .cons _ t=> .cons r t
 | _,_,i+1, .cons q t=> .cons q (Reps.set r i t)
theorem rs_set{te tj:TE}{f fj:En->Option Sl}{i:Nat}(hsl:R.slot i)(h:RE K R te f)(hj:RP K R tj fj):RS K R (tAsg te (gSub (tVar i) tj rSetL)) (mSet i fj f):=fun HB S0 σ ρ H0 H x e o ho D d=>by
 obtain ⟨r,hr,ho⟩:=Option.bind_eq_some_iff.mp ho
 split at ho
 . rename_i ds hown;obtain ⟨k,hk,ho⟩:=Option.bind_eq_some_iff.mp ho
   split at ho
   . rename_i k;obtain ⟨j,hix,rfl⟩:=Option.map_eq_some_iff.mp ho;refine h.rv HB σ ρ H0 H x.s1 e r.dat (by unfold mDat;rw [hr];rfl) _ fun v H1 J1 x1 p1=> ?_;obtain ⟨a,vs,hi,hs,g1,g2,g3,g4⟩:=own_of (K:=K) (e.ext (K:=K) x1) hsl hown;refine ⟨.ref a,hs,?_⟩;refine hj HB σ ρ H1 J1 x1.s1 (e.ext (K:=K) x1) _ hk _ fun w H2 J2 x2 p2=> ?_;have l0:=x2.own a _ g3 g2;refine ⟨a,vs,k,j,rfl,p2.int,x2.s _ _ g3,by rw [g4.length];exact hix,?_⟩;exact d σ H2 _ (((x.chain x1).chain x2).write g1 l0 _) ⟨RelOk.write (K:=K) ((e.ext (K:=K) x1).ext (K:=K) x2).r hsl hi hs g1 l0 (x2.s _ _ g3) (Reps.set (Rep.same x2.s0 p1) j (Reps.same x2.s0 g4))⟩
   . cases ho
 . cases ho
def frz1(i:Nat)(ρ:En):En:=match (ρ[i]?).join with
 | some (.own ds)=>ρ.set i (some (.val (.list ds)))
 | _=>ρ
def mFrz(i:Nat)(g:En->Option Out):En->Option Out:=fun ρ=>g (frz1 i ρ)
theorem ER.frz{S0 HB H0 H:Hp}{σ:L2.St}{ρ:En}{i:Nat}{ds:List PyData}(e:ER K HB H0 H σ ρ)(hi:ρ[i]? = some (some (.own ds)))(x:Ext S0 HB H0 H):∃a vs,H a=some (.lst vs)/\Ext S0 HB (upd H0 a (.lst vs)) H/\ER K HB (upd H0 a (.lst vs)) H σ (ρ.set i (some (.val (.list ds)))):=by
 obtain ⟨v,hs,a,vs,rfl,g1,g2,g3,g4⟩:=e.get i _ hi;have s0:Same H0 (upd H0 a (.lst vs)):=Same.upd g2 _
 have x' : Ext S0 HB (upd H0 a (.lst vs)) H := ⟨x.s, x.s0.trans s0, fun b u q => by
  by_cases hb:b=a
  . subst hb;rw [upd_same] at q;rw [g3];exact q
  . rw [upd_ne hb] at q;exact x.s1 b u q,fun b u q q0=>by rw [upd_ne (ne_of_none q g1)];exact x.own b u q q0⟩
 refine ⟨a,vs,g3,x',⟨by rw [List.length_set];exact e.len,fun j s hq=> ?_,fun j k b ts us hjk h1 h2 h3 h4=> ?_⟩⟩
 . by_cases hij:i=j
   . subst hij;rw [List.getElem?_set_self',hi] at hq
     cases hq
     exact ⟨.ref a,hs, .list (SqL.of upd_same) (Reps.same s0 g4)⟩
   . rw [List.getElem?_set_ne hij] at hq
     obtain ⟨v,h1,h2⟩:=e.get j s hq;refine ⟨v,h1,?_⟩
     cases s with
     | val d=>exact Rep.same s0 h2
     | own ts=>
      obtain ⟨b,ws,rfl,q1,q2,q3,q4⟩:=h2;refine ⟨b,ws,rfl,q1,?_,q3,Reps.same s0 q4⟩;rw [upd_ne]
      . exact q2
      . rintro rfl;exact e.apart i j b ds ts hij hi hq hs h1
 . have hij : i ≠ j := by
    rintro rfl;rw [List.getElem?_set_self',hi] at h1
    cases h1
   have hik:i≠k:=by
    rintro rfl;rw [List.getElem?_set_self',hi] at h2
    cases h2
   rw [List.getElem?_set_ne hij] at h1
   rw [List.getElem?_set_ne hik] at h2
   exact e.apart j k b ts us hjk h1 h2 h3 h4
instance relOk_PR:RelOk K (PR K) where
 ext:=fun x e=>ER.ext x e
 get:=fun e _ h=>ER.get e _ _ h
 set:=fun e _ x s h=>ER.set e x s h
 write:=fun e _ h1 h2 h3 h4 _ h5=>ER.write e h1 h2 h3 h4 h5
 frz:=fun e _ h x=>by obtain ⟨a,vs,_,h1,h2⟩:=ER.frz e h x;exact ⟨_,h1,h2⟩
theorem rs_frz{ts:TS}{g:En->Option Out}(i:Nat)(hsl:R.slot i)(h:RS K R ts g):RS K R ts (mFrz i g):=fun HB S0 σ ρ H0 H x e o ho D d=>by
 unfold mFrz frz1 at ho
 split at ho
 . rename_i ds hj;obtain ⟨H0',x',e'⟩:=RelOk.frz (K:=K) e.r hsl (join_some hj) x;exact h HB S0 σ _ H0' H x' ⟨e'⟩ o ho D d
 . exact h HB S0 σ ρ H0 H x e o ho D d
def RG(K:W.Frag)(R:Rl)(g:TG)(fg:PyData->En->Option En):Prop:=
 ∀(HB:Hp) (σ:L2.St) (ρ ρ':En) (H0 H:Hp) (v:V) (d:PyData),Same H0 H->Same HB H->ST R HB H0 H σ ρ->Rep K H0 v d->fg d ρ=some ρ'->∀Q:L2.St->Hp->Prop,(∀σ',ST R HB H0 H σ' ρ'->Q σ' H)->g v σ H Q
def gVar(i:Nat):PyData->En->Option En:=fun d ρ=>some (ρ.set i (some (.val d)))
theorem rg_name(i:Nat)(hsl:R.slot i):RG K R (gName i) (gVar i):=fun HB σ ρ ρ' H0 H v d s sb e r h Q q=>by
 cases h
 exact q _ ⟨RelOk.set (K:=K) e.r hsl (Ext.refl s) sb (show SlH K H H0 H v (.val d) from r)⟩
def gsAll:List (PyData->En->Option En)->List PyData->En->Option En
 | [],[],ρ=>some ρ
 | g::gs,d::ds,ρ=>(g d ρ).bind fun ρ'=>gsAll gs ds ρ'
 | _,_,_=>none
def gTupD(gs:List (PyData->En->Option En)):PyData->En->Option En:=fun d ρ=>match d with
 | .tuple ds=>if ds.length=gs.length then gsAll gs ds ρ else none
 | _=>none
def RGs(K:W.Frag)(R:Rl)(g:TGs)(gs:List (PyData->En->Option En)):Prop:=
 ∀(HB:Hp) (σ:L2.St) (ρ ρ':En) (H0 H:Hp) (vs:List V) (ds:List PyData),Same H0 H->Same HB H->ST R HB H0 H σ ρ->Reps K H0 vs ds->gsAll gs ds ρ=some ρ'->∀Q:L2.St->Hp->Prop,(∀σ',ST R HB H0 H σ' ρ'->Q σ' H)->g vs σ H Q
theorem rgs_nil:RGs K R gNil []:=fun HB σ ρ ρ' H0 H vs ds s sb e r h Q q=>by
 cases r with
 | nil=>cases h;exact ⟨rfl,q _ e⟩
 | cons _ _=>cases h
theorem rgs_cons{g:TG}{u:TGs}{fg:PyData->En->Option En}{gs:List (PyData->En->Option En)}(h1:RG K R g fg)(h2:RGs K R u gs):RGs K R (gCons g u) (fg::gs):=fun HB σ ρ ρ' H0 H vs ds s sb e r h Q q=>by
 cases r with
 | nil=>cases h
 | cons r1 r2=>
  obtain ⟨ρ1,e1,h⟩:=Option.bind_eq_some_iff.mp (show (fg _ ρ).bind _=some ρ' from h);exact ⟨_,_,rfl,h1 HB σ ρ ρ1 H0 H _ _ s sb e r1 e1 _ fun σ' e'=>h2 HB σ' ρ1 ρ' H0 H _ _ s sb e' r2 h Q q⟩
theorem rg_tup{g:TGs}{gs:List (PyData->En->Option En)}{n:Nat}(hn:n=gs.length)(h:RGs K R g gs):RG K R (gTup K n g) (gTupD gs):=fun HB σ ρ ρ' H0 H v d s sb e r hd Q q=>by
 unfold gTupD at hd
 split at hd
 . split at hd
   . rename_i ds hl
     cases r with
     | tuple r1 r2=>exact ⟨_,_,rfl,s.seqT r1,by rw [r2.length,hl,hn],h HB σ ρ ρ' H0 H _ _ s sb e r2 hd Q q⟩
   . cases hd
 . cases hd
def ItR(K:W.Frag)(H0:Hp)(J:It)(ds:List PyData):Prop:=∀H0' H',Same H0 H0'->Same H0' H'->∀i:Nat,(∀d,ds[i]? = some d->J.go i H'/\∀x H2,J.yld i H' x H2->∃H02,Ext H0' H' H02 H2/\Rep K H02 x d)/\(ds.length<=i->J.stop i H')
def RI(K:W.Frag)(R:Rl)(wi:TI)(f:En->Option (List PyData)):Prop:=
 ∀(HB:Hp) (σ:L2.St) (ρ:En) (H0 H:Hp),Same H0 H->ST R HB H0 H σ ρ->∀ds,f ρ=some ds->∀R:It->Hp->Prop,(∀J H0' H',Ext H0 H H0' H'->ItR K H0' J ds->R J H')->wi σ H R
def mItems(f:En->Option Sl):En->Option (List PyData):=fun ρ=>(f ρ).bind fun a=>match a.dat with
 | .list ds=>some ds
 | _=>none
def mItemsT(f:En->Option Sl):En->Option (List PyData):=fun ρ=>(f ρ).bind fun a=>match a.dat with
 | .tuple ds=>some ds
 | _=>none
theorem it_list{H0:Hp}{a:Addr}{vs:List V}{ds:List PyData}(h:SqL K H0 a vs)(r:Reps K H0 vs ds):ItR K H0 (Itl K a) ds:=fun H0' H' s s' i=>by
 have h':=s'.seq (s.seq h);refine ⟨fun d hd=> ?_,fun hi=>⟨vs,h',by rw [r.length];exact hi⟩⟩;obtain ⟨v,e1,e2⟩:=Tf.Reps.get r hd;refine ⟨⟨vs,v,h',e1⟩,fun x H2 y=> ?_⟩;obtain ⟨rfl,y⟩:=y;have:=y vs h';rw [e1] at this
 cases this
 exact ⟨H0',Ext.refl s',Rep.same s e2⟩
theorem it_tup{H0:Hp}{a:Addr}{vs:List V}{ds:List PyData}(h:SqT K H0 a vs)(r:Reps K H0 vs ds):ItR K H0 (Itt K a) ds:=fun H0' H' s s' i=>by
 have h':=s'.seqT (s.seqT h);refine ⟨fun d hd=> ?_,fun hi=>⟨vs,h',by rw [r.length];exact hi⟩⟩;obtain ⟨v,e1,e2⟩:=Tf.Reps.get r hd;refine ⟨⟨vs,v,h',e1⟩,fun x H2 y=> ?_⟩;obtain ⟨rfl,y⟩:=y;have:=y vs h';rw [e1] at this
 cases this
 exact ⟨H0',Ext.refl s',Rep.same s e2⟩
theorem ri_list{te:TE}{f:En->Option Sl}(h:RE K R te f):RI K R (iList K te) (mItems f):=fun HB σ ρ H0 H s e ds hd R q=>by
 obtain ⟨a,ha,hd⟩:=Option.bind_eq_some_iff.mp hd
 split at hd
 . rename_i es he
   cases hd
   refine h.rv HB σ ρ H0 H s e a.dat (by unfold mDat;rw [ha];rfl) _ fun v H1 J1 x1 p1=> ?_;rw [he] at p1
   cases p1 with
   | list h1 h2=>exact ⟨_,rfl,⟨_,x1.s1.seq h1⟩,q _ _ _ x1 (it_list h1 h2)⟩
 . cases hd
def rngD(lo:Int)(n:Nat):List PyData:=(List.range n).map fun i=> .int (lo+(i:Nat))
theorem rngD_get{lo:Int}{n i:Nat}:(rngD lo n)[i]? = if i<n then some (.int (lo+(i:Nat))) else none:=by
 unfold rngD;rw [List.getElem?_map]
 by_cases h:i<n
 . rw [List.getElem?_range h,if_pos h];rfl
 . rw [if_neg h,List.getElem?_eq_none (by simpa using h)];rfl
theorem it_range{H0:Hp}{lo:Int}{n:Nat}:ItR K H0 (Itr lo n) (rngD lo n):=fun H0' H' s s' i=>by
 refine ⟨fun d hd=> ?_,fun hi=>show n<=i by simpa [rngD] using hi⟩;rw [rngD_get] at hd
 split at hd
 . rename_i hi
   cases hd
   exact ⟨hi,fun x H2 y=>by obtain ⟨rfl,rfl⟩:=y;exact ⟨H0',Ext.refl s', .int _⟩⟩
 . cases hd
def inB(i:Int):Prop:= -(2 ^ 62)<=i/\i<2 ^ 62
noncomputable instance (i:Int):Decidable (inB i):=Classical.propDecidable _
noncomputable def mRng1(f:En->Option (List Sl)):En->Option (List PyData):=fun ρ=>(f ρ).bind fun a=>match a with
 | [.val (.int j)]=>if inB j then some (rngD 0 j.toNat) else none
 | _=>none
theorem ri_range1{ta:TA}{f:En->Option (List Sl)}(h:RQ K R ta f):RI K R (iRng1 ta) (mRng1 f):=fun HB σ ρ H0 H s e ds hd R q=>by
 obtain ⟨a,ha,hd⟩:=Option.bind_eq_some_iff.mp hd
 split at hd
 . split at hd
   . rename_i j hb
     cases hd
     refine h HB σ ρ H0 H s e _ ha _ fun vs H1 J1 x1 p1=> ?_;obtain ⟨v,rfl,pa⟩:=paired1 p1;exact ⟨j,by rw [pa.int],hb.1,hb.2,q _ _ _ x1 it_range⟩
   . cases hd
 . cases hd
noncomputable def mRng2(f:En->Option (List Sl)):En->Option (List PyData):=fun ρ=>(f ρ).bind fun a=>match a with
 | [.val (.int i), .val (.int j)]=>if inB i/\inB j then some (rngD i (j - i).toNat) else none
 | _=>none
theorem ri_range2{ta:TA}{f:En->Option (List Sl)}(h:RQ K R ta f):RI K R (iRng2 ta) (mRng2 f):=fun HB σ ρ H0 H s e ds hd R q=>by
 obtain ⟨a,ha,hd⟩:=Option.bind_eq_some_iff.mp hd
 split at hd
 . split at hd
   . rename_i i j hb
     cases hd
     refine h HB σ ρ H0 H s e _ ha _ fun vs H1 J1 x1 p1=> ?_;obtain ⟨v,w,rfl,pa,pb⟩:=paired2 p1;exact ⟨i,j,by rw [pa.int,pb.int],⟨hb.1.1,hb.1.2,hb.2.1,hb.2.2⟩,q _ _ _ x1 it_range⟩
   . cases hd
 . cases hd
def rngDn(hi:Int)(n:Nat):List PyData:=(List.range n).map fun i=> .int (hi - (i:Nat))
theorem it_down{H0:Hp}{hi:Int}{n:Nat}:ItR K H0 (Itd hi n) (rngDn hi n):=fun H0' H' s s' i=>by
 refine ⟨fun d hd=> ?_,fun h=>show n<=i by simpa [rngDn] using h⟩;unfold rngDn at hd
 rw [List.getElem?_map] at hd
 by_cases h:i<n
 . rw [List.getElem?_range h] at hd
   cases hd
   exact ⟨h,fun x H2 y=>by obtain ⟨rfl,rfl⟩:=y;exact ⟨H0',Ext.refl s', .int _⟩⟩
 . rw [List.getElem?_eq_none (by simpa using h)] at hd;cases hd
noncomputable def mRngD(f:En->Option (List Sl)):En->Option (List PyData):=fun ρ=>(f ρ).bind fun a=>match a with
 | [.val (.int i), .val (.int j), .val (.int (-1))]=>if inB i/\inB j then some (rngDn i (i - j).toNat) else none
 | _=>none
theorem paired3{H0 H:Hp}{vs:List V}{a b c:Sl}(h:Paired (SlP K H0 H) vs [a,b,c]):∃v w u,vs = [v,w,u]/\SlP K H0 H v a/\SlP K H0 H w b/\SlP K H0 H u c:=by
 cases h with | cons h t=>cases t with | cons h2 t=>cases t with | cons h3 t=>cases t;exact ⟨_,_,_,rfl,h,h2,h3⟩
theorem ri_rangeD{ta:TA}{f:En->Option (List Sl)}(h:RQ K R ta f):RI K R (iRngD ta) (mRngD f):=fun HB σ ρ H0 H s e ds hd R q=>by
 obtain ⟨a,ha,hd⟩:=Option.bind_eq_some_iff.mp hd
 split at hd
 . split at hd
   . rename_i i j hb
     cases hd
     refine h HB σ ρ H0 H s e _ ha _ fun vs H1 J1 x1 p1=> ?_;obtain ⟨v,w,u,rfl,pa,pb,pc⟩:=paired3 p1;exact ⟨i,j,by rw [pa.int,pb.int,pc.int],⟨hb.1.1,hb.1.2,hb.2.1,hb.2.2⟩,q _ _ _ x1 it_down⟩
   . cases hd
 . cases hd
def zipD(xs ys:List PyData):List PyData:=List.zipWith (fun x y=> .tuple [x,y]) xs ys
theorem it_zip{H0:Hp}{a b:Addr}{vs ws:List V}{ds es:List PyData}(h:SqL K H0 a vs)(r:Reps K H0 vs ds)(h2:SqL K H0 b ws)(r2:Reps K H0 ws es):ItR K H0 (Itz K a b) (zipD ds es):=fun H0' H' s s' i=>by
 have h':=s'.seq (s.seq h);have h2':=s'.seq (s.seq h2);refine ⟨fun d hd=> ?_,fun hi=>⟨vs,ws,h',h2',?_⟩⟩
 . unfold zipD at hd
   rw [List.getElem?_zipWith] at hd
   cases e1:ds[i]? with
   | none=>rw [e1] at hd;cases hd
   | some x=>
    cases e2:es[i]? with
    | none=>rw [e1,e2] at hd;cases hd
    | some y=>
     rw [e1,e2] at hd
     cases hd
     obtain ⟨v,q1,q2⟩:=Tf.Reps.get r e1;obtain ⟨w,q3,q4⟩:=Tf.Reps.get r2 e2;refine ⟨⟨vs,ws,v,w,h',h2',q1,q3⟩,fun z H2 yl=> ?_⟩;obtain ⟨p,x',y',hp,rfl,rfl,hx,hy⟩:=yl;have:=hx vs h';rw [q1] at this
     cases this
     have:=hy ws h2';rw [q3] at this
     cases this
     refine ⟨_,Ext.allocF s' hp _, .tuple (SqT.of upd_same) ?_⟩;have s2:=s.trans (Same.upd (s'.free hp) (.tup [v,w]));exact .cons (Rep.same s2 q2) (.cons (Rep.same s2 q4) .nil)
 . rw [r.length,r2.length];unfold zipD at hi
   rw [List.length_zipWith] at hi
   omega
def mZip(f:En->Option (List PyData)):En->Option (List PyData):=fun ρ=>(f ρ).bind fun a=>match a with
 | [.list xs, .list ys]=>some (zipD xs ys)
 | _=>none
theorem ri_zip{ta:TA}{f:En->Option (List PyData)}(h:RA K R ta f):RI K R (iZip K ta) (mZip f):=fun HB σ ρ H0 H s e ds hd R q=>by
 obtain ⟨a,ha,hd⟩:=Option.bind_eq_some_iff.mp hd
 split at hd
 . cases hd
   refine h HB σ ρ H0 H s e _ ha _ fun vs H1 J1 x1 p1=> ?_
   cases p1 with | cons p1 t=>cases t with | cons p2 t=>
    cases t
    cases p1 with | list a1 a2=>cases p2 with | list b1 b2=>
     exact ⟨_,_,rfl,⟨_,x1.s1.seq a1⟩,⟨_,x1.s1.seq b1⟩,q _ _ _ x1 (it_zip a1 a2 b1 b2)⟩
 . cases hd
def forM(fg:PyData->En->Option En)(gb:En->Option Out):List PyData->En->Option Out
 | [],ρ=>some (.nx ρ)
 | d::ds,ρ=>(fg d ρ).bind fun ρ1=>(gb ρ1).bind fun o=>match o with
  | .nx ρ2=>forM fg gb ds ρ2
  | .ct ρ2=>forM fg gb ds ρ2
  | .bk ρ2=>some (.nx ρ2)
  | .rt r ρ2=>some (.rt r ρ2)
def mFor(fi:En->Option (List PyData))(fg:PyData->En->Option En)(gb:En->Option Out):En->Option Out:=fun ρ=>(fi ρ).bind fun ds=>forM fg gb ds ρ
theorem forM_drop {fg : PyData -> En -> Option En} {gb : En -> Option Out} {ds : List PyData} {i : Nat} {d : PyData} {ρ : En} (h : ds[i]? = some d) : forM fg gb (ds.drop i) ρ = (fg d ρ).bind fun ρ1 => (gb ρ1).bind fun o => match o with
 | .nx ρ2=>forM fg gb (ds.drop (i+1)) ρ2
 | .ct ρ2=>forM fg gb (ds.drop (i+1)) ρ2
 | .bk ρ2=>some (.nx ρ2)
 | .rt r ρ2=>some (.rt r ρ2):=by
 obtain ⟨hi,e⟩:=List.getElem?_eq_some_iff.mp h;rw [List.drop_eq_getElem_cons hi,e];rfl
theorem rs_for{wi:TI}{g:TG}{tb:TS}{fi:En->Option (List PyData)}{fg:PyData->En->Option En}{gb:En->Option Out}(hi:RI K R wi fi)(hg:RG K R g fg)(hb:RS K R tb gb):RS K R (tFor wi g tb) (mFor fi fg gb):=fun HB S0 σ ρ H0 H x e o ho D d=>by
 obtain ⟨ds,hds,ho⟩:=Option.bind_eq_some_iff.mp ho;refine hi HB σ ρ H0 H x.s1 e ds hds _ fun J H1 J1 x1 it=> ?_;have x':=x.chain x1;refine ⟨fun i m σ H=>m=ds.length - i/\((∃ρ H0',i<=ds.length/\Ext H1 HB H0' H/\ST R HB H0' H σ ρ/\forM fg gb (ds.drop i) ρ=some o)),⟨_,rfl,ρ,H1,Nat.zero_le _,x'.rebase,e.ext (K:=K) x1,ho⟩,?_⟩;rintro i m σ1 H2 ⟨rfl,ρ1,H0',hile,xx,e1,hf⟩;obtain ⟨ig,is⟩:=it H0' H2 xx.s0 xx.s1 i
 by_cases hlt:i<ds.length
 . right;obtain ⟨go,yl⟩:=ig ds[i] (by simp [hlt]);rw [forM_drop (d:=ds[i]) (by simp [hlt])] at hf
   obtain ⟨ρ2,hr2,hf⟩:=Option.bind_eq_some_iff.mp hf;obtain ⟨o2,ho2,hf⟩:=Option.bind_eq_some_iff.mp hf;refine ⟨go,fun σ' H'=>∃ρ H0',Ext H1 HB H0' H'/\ST R HB H0' H' σ' ρ/\forM fg gb (ds.drop (i+1)) ρ=some o,fun σ' H' ⟨ρ',H0'',a1,a2,a3⟩=>⟨ds.length - (i+1),by omega,rfl,ρ',H0'',hlt,a1,a2,a3⟩,fun v H3 y=> ?_⟩;obtain ⟨H03,x3,r3⟩:=yl v H3 y;have xx3:=xx.chain x3;refine hg HB σ1 ρ1 ρ2 H03 H3 v _ xx3.s1 xx3.s (e1.ext (K:=K) x3) r3 hr2 _ fun σ2 e2=> ?_;refine hb HB H1 σ2 ρ2 H03 H3 xx3 e2 o2 ho2 _ ?_
   cases o2 with
   | nx ρ3=>exact fun σ' H0'' H' a b=>⟨ρ3,H0'',a,b,hf⟩
   | ct ρ3=>exact fun σ' H0'' H' a b=>⟨ρ3,H0'',a,b,hf⟩
   | bk ρ3=>cases hf;exact fun σ' H0'' H' a b=>d σ' H0'' H' (x'.unbase a) b
   | rt r ρ3=>cases hf;exact fun v σ' H0'' H' a b c=>d v σ' H0'' H' (x'.unbase a) b c
 . left;refine ⟨is (by omega),?_⟩;rw [List.drop_eq_nil_of_le (by omega)] at hf
   cases hf
   exact d σ1 H0' H2 (x'.unbase xx) e1
def whileF(c:En->Option Bool)(b:En->Option Out):Nat->En->Option Out
 | 0,_=>none
 | n + 1, ρ => (c ρ).bind fun k => if k then (b ρ).bind fun o => match o with
  | .nx ρ2=>whileF c b n ρ2
  | .ct ρ2=>whileF c b n ρ2
  | .bk ρ2=>some (.nx ρ2)
  | .rt r ρ2=>some (.rt r ρ2)
  else some (.nx ρ)
open Classical in
noncomputable def mWhile(c:En->Option Bool)(b:En->Option Out):En->Option Out:=fun ρ=>if h:∃o n,whileF c b n ρ=some o then some h.choose else none
theorem whileF_mono{c:En->Option Bool}{b:En->Option Out}:∀ {n:Nat} {ρ:En} {o:Out},whileF c b n ρ=some o->∀m,n<=m->whileF c b m ρ=some o
 | 0,_,_,h,_,_=>by cases h
 | n+1,ρ,o,h,m,hm=>by
  obtain ⟨m,rfl⟩:∃k,m=k+1:=⟨m - 1,by omega⟩;unfold whileF at h ⊢
  obtain ⟨k,hk,h⟩:=Option.bind_eq_some_iff.mp h;rw [hk]
  cases k with
  | false=>exact h
  | true=>
   show Option.bind _ _=_;simp only [if_true] at h
   obtain ⟨o2,h2,h⟩:=Option.bind_eq_some_iff.mp h;rw [h2]
   cases o2 with
   | nx ρ2=>exact whileF_mono (n:=n) h m (by omega)
   | ct ρ2=>exact whileF_mono (n:=n) h m (by omega)
   | bk ρ2=>exact h
   | rt r _=>exact h
theorem mWhile_of{c:En->Option Bool}{b:En->Option Out}{ρ:En}{o:Out}{n:Nat}(h:whileF c b n ρ=some o):mWhile c b ρ=some o:=by
 have hx:∃o n,whileF c b n ρ=some o:=⟨o,n,h⟩;unfold mWhile;rw [dif_pos hx];obtain ⟨m,hm⟩:=hx.choose_spec;have h1:=whileF_mono h (max n m) (Nat.le_max_left _ _);have h2:=whileF_mono hm (max n m) (Nat.le_max_right _ _);rw [<-h2,h1]
theorem mWhile_fuel{c:En->Option Bool}{b:En->Option Out}{ρ:En}{o:Out}(h:mWhile c b ρ=some o):∃n,whileF c b n ρ=some o:=by
 unfold mWhile at h
 split at h
 . rename_i hx;obtain ⟨m,hm⟩:=hx.choose_spec
   cases h
   exact ⟨m,hm⟩
 . cases h
theorem rs_while{c:TT}{tb:TS}{fc:En->Option Bool}{gb:En->Option Out}(hc:RT K R c fc)(hb:RS K R tb gb):RS K R (tWhile c tb) (mWhile fc gb):=fun HB S0 σ ρ H0 H x e o ho D d=>by
 obtain ⟨n,hn⟩:=mWhile_fuel ho;refine ⟨fun m σ H=>∃ρ H0,Ext S0 HB H0 H/\ST R HB H0 H σ ρ/\whileF fc gb m ρ=some o,⟨n,ρ,H0,x,e,hn⟩,?_⟩;rintro m σ1 H1 ⟨ρ1,H01,x1,e1,hw⟩
 cases m with
 | zero=>cases hw
 | succ m=>
  unfold whileF at hw
  obtain ⟨k,hk,hw⟩:=Option.bind_eq_some_iff.mp hw;refine hc HB σ1 ρ1 H01 H1 x1.s1 e1 k hk _ fun H2 J2 x2=> ?_;have x12:=x1.chain x2
  cases k with
  | false=>cases hw;exact iteF (d σ1 H2 J2 x12 (e1.ext (K:=K) x2))
  | true=>
   simp only [if_true] at hw
   obtain ⟨o2,h2,hw⟩:=Option.bind_eq_some_iff.mp hw;refine iteT ⟨fun σ' H'=>∃ρ H0,Ext S0 HB H0 H'/\ST R HB H0 H' σ' ρ/\whileF fc gb m ρ=some o,fun σ' H' h=>⟨m,Nat.lt_succ_self m,h⟩,?_⟩;refine hb HB S0 σ1 ρ1 H2 J2 x12 (e1.ext (K:=K) x2) o2 h2 _ ?_
   cases o2 with
   | nx ρ3=>exact fun σ' H0'' H' a b=>⟨ρ3,H0'',a,b,hw⟩
   | ct ρ3=>exact fun σ' H0'' H' a b=>⟨ρ3,H0'',a,b,hw⟩
   | bk ρ3=>cases hw;exact fun σ' H0'' H' a b=>d σ' H0'' H' a b
   | rt r ρ3=>cases hw;exact fun v σ' H0'' H' a b c=>d v σ' H0'' H' a b c
def mAsgT(g:PyData->En->Option En)(f:En->Option Sl):En->Option Out:=fun ρ=>(f ρ).bind fun r=>(g r.dat ρ).map .nx
def mPar(i j:Nat)(f:En->Option (List PyData)):En->Option Out:=fun ρ=>(f ρ).bind fun ds=>match ds with
 | [a,b]=>some (.nx ((ρ.set i (some (.val a))).set j (some (.val b))))
 | _=>none
theorem rs_par{i j:Nat}(hsi:R.slot i)(hsj:R.slot j){ta:TA}{f:En->Option (List PyData)}(h:RA K R ta f):RS K R (tPar i j ta) (mPar i j f):=fun HB S0 σ ρ H0 H x e o ho D d=>by
 obtain ⟨ds,hd,ho⟩:=Option.bind_eq_some_iff.mp ho
 split at ho
 . cases ho
   refine h HB σ ρ H0 H x.s1 e _ hd _ fun vs H1 J1 x1 p1=> ?_
   cases p1 with | cons p1 t=>cases t with | cons p2 t=>
    cases t
    have x':=x.chain x1;have e1:=RelOk.set (K:=K) (e.ext (K:=K) x1).r hsi (Ext.refl x'.s1) x'.s (show SlH K J1 H1 J1 _ (.val _) from p1);have e2:=RelOk.set (K:=K) e1 hsj (Ext.refl x'.s1) x'.s (show SlH K J1 H1 J1 _ (.val _) from p2);exact ⟨_,_,rfl,d _ H1 J1 x' ⟨e2⟩⟩
 . cases ho
end
end Dm
namespace Dm
open PySem PySem.Spec PyProof.Rows L2 Tf
section
variable {K:W.Frag}
def subE(ix:List (Option Nat))(ρ:En):En:=ix.map fun o=>match o with | some j=>(ρ[j]?).join | none=>none
theorem ix_inj:∀ {ix:List (Option Nat)},(ix.filterMap id).Nodup->∀ {i k j:Nat},ix[i]? = some (some j)->ix[k]? = some (some j)->i=k
 | [],_,i,k,j,h,_=>by simp at h
 | o::r,hn,i,k,j,h1,h2=>by
  have hr:(r.filterMap id).Nodup:=by
   cases o with
   | none=>simpa using hn
   | some a=>have hn:(a::r.filterMap id).Nodup:=hn;exact (List.nodup_cons.mp hn).2
  have out:∀ {k:Nat},o=some j->r[k]? = some (some j)->False:=by
   intro k ho hk;subst ho;have hn:(j::r.filterMap id).Nodup:=hn;exact (List.nodup_cons.mp hn).1 (List.mem_filterMap.mpr ⟨some j,List.mem_of_getElem? hk,rfl⟩)
  cases i with
  | zero=>
   cases k with
   | zero=>rfl
   | succ k=>simp at h1 h2;exact (out h1 h2).elim
  | succ i=>
   cases k with
   | zero=>simp at h1 h2;exact (out h2 h1).elim
   | succ k=>simp at h1 h2;rw [ix_inj hr h1 h2]
theorem subE_get{ix:List (Option Nat)}{ρ:En}{i:Nat}{s:Sl}(h:(subE ix ρ)[i]? = some (some s)):∃j,ix[i]? = some (some j)/\ρ[j]? = some (some s):=by
 unfold subE at h
 rw [List.getElem?_map] at h
 cases e:ix[i]? with
 | none=>rw [e] at h;cases h
 | some o=>
  rw [e] at h
  cases o with
  | none=>cases h
  | some j=>exact ⟨j,rfl,join_some (Option.some.inj h)⟩
theorem subS_get{ix:List (Option Nat)}{σ:L2.St}{i j:Nat}(h:ix[i]? = some (some j)):(subS ix σ)[i]? = some (σ[j]?).join:=by
 unfold subS;rw [List.getElem?_map,h];rfl
theorem ER.sub{HB H0 H:Hp}{σ:L2.St}{ρ:En}{ix:List (Option Nat)}(hx:(ix.filterMap id).Nodup)(e:ER K HB H0 H σ ρ):ER K (fun _=>none) H0 H (subS ix σ) (subE ix ρ):=by
 refine ⟨by unfold subS subE;rw [List.length_map,List.length_map],fun i s h=> ?_,fun i k a ds es hik h1 h2 h3 h4=> ?_⟩
 . obtain ⟨j,h1,h2⟩:=subE_get h;obtain ⟨v,h3,h4⟩:=e.get j s h2;refine ⟨v,by rw [subS_get h1,h3];rfl,?_⟩
   cases s with
   | val d=>exact h4
   | own ds=>
    obtain ⟨a,vs,q1,_,q2⟩:=h4;exact ⟨a,vs,q1,rfl,q2⟩
 . obtain ⟨j,g1,g2⟩:=subE_get h1;obtain ⟨l,g3,g4⟩:=subE_get h2
   have hjl:j≠l:=by
    rintro rfl;exact hik (ix_inj hx g1 g3)
   rw [subS_get g1] at h3
   rw [subS_get g3] at h4
   exact e.apart j l a ds es hjl g2 g4 (join_some (Option.some.inj h3)) (join_some (Option.some.inj h4))
def compM(f:PyData->Option (Option PyData)):List PyData->Option (List PyData)
 | []=>some []
 | d::ds=>(f d).bind fun r=>(compM f ds).map fun rest=>match r with
  | some x=>x::rest
  | none=>rest
def elM(fg:PyData->En->Option En)(ft:En->Option Bool)(fe:En->Option Sl)(ρ0:En):PyData->Option (Option PyData):=fun d=>(fg d ρ0).bind fun ρ'=>(ft ρ').bind fun b=>if b then (fe ρ').map (fun r=>some r.dat) else some none
def mLC(sb:En->En)(fi:En->Option (List PyData))(fg:PyData->En->Option En)(ft:En->Option Bool)(fe:En->Option Sl):En->Option Sl:=fun ρ=>(fi ρ).bind fun ds=>
 if ds.length<sizeLine then (compM (elM fg ft fe (sb ρ)) ds).map .own else none
def mYes:En->Option Bool:=fun _=>some true
theorem rt_yes{R:Rl}:RT K R tNoTest mYes:=fun HB σ ρ H0 H s e b hb Q q=>by cases hb;exact q _ _ (Ext.refl s)
theorem re_lc {R R' : Rl} [RelOk K R] [RelOk K R'] {sb : En -> En} {ix : List (Option Nat)} {wi : TI} {g : CB -> TG} {tt : CB -> TT} {te : CB -> TE} {fi : En -> Option (List PyData)} {fg : PyData -> En -> Option En} {ft : En -> Option Bool} {fe : En -> Option Sl}
 (hx:∀(HB:Hp) (σ:L2.St) (ρ:En) (H0 H:Hp),R.r HB H0 H σ ρ->R'.r (fun _=>none) H0 H (subS ix σ) (sb ρ))
 (hi:RI K R wi fi) (hg:∀b,RG K R' (g b) fg) (ht:∀b,RT K R' (tt b) ft) (he:∀b,RE K R' (te b) fe):RE K R (tLC ix wi g tt te) (mLC sb fi fg ft fe):=fun HB σ ρ H0 H s e z hz Q q=>by
 obtain ⟨ds,hds,hz⟩:=Option.bind_eq_some_iff.mp hz
 split at hz
 . rename_i hlen;obtain ⟨all,hall,rfl⟩:=Option.map_eq_some_iff.mp hz;refine hi HB σ ρ H0 H s e ds hds _ fun J H1 J1 x1 it b=> ?_;have e1:ST R' (fun _=>none) H1 J1 (subS ix σ) (sb ρ):=⟨hx HB σ ρ H1 J1 (e.ext (K:=K) x1).r⟩;refine ⟨fun i m ys H=>m=ds.length - i/\i<=ds.length/\∃H0' es rest,Ext H1 J1 H0' H/\Reps K H0' ys es/\es.length<=i/\compM (elM fg ft fe (sb ρ)) (ds.drop i)=some rest/\es++rest=all,⟨_,rfl,Nat.zero_le _,H1,[],all,Ext.refl x1.s1, .nil,Nat.le_refl _,hall,rfl⟩,?_⟩;rintro i m ys H2 ⟨rfl,hile,H0',es,rest,xx,hr,hel,hc,hsum⟩;obtain ⟨ig,is⟩:=it H0' H2 xx.s0 xx.s1 i;refine ⟨by rw [hr.length];omega,?_⟩
   by_cases hlt:i<ds.length
   . right;obtain ⟨go,yl⟩:=ig ds[i] (by simp [hlt]);rw [List.drop_eq_getElem_cons hlt] at hc
     obtain ⟨r,hr1,hc⟩:=Option.bind_eq_some_iff.mp (show (elM fg ft fe (sb ρ) ds[i]).bind _=some rest from hc);obtain ⟨rest',hr2,hc⟩:=Option.map_eq_some_iff.mp hc;refine ⟨go,fun ys' H'=>∃H0' es rest,Ext H1 J1 H0' H'/\Reps K H0' ys' es/\es.length<=i+1/\compM (elM fg ft fe (sb ρ)) (ds.drop (i+1))=some rest/\es++rest=all,fun ys' H' h=>⟨ds.length - (i+1),by omega,rfl,hlt,h⟩,fun v H3 y=> ?_⟩;obtain ⟨H03,x3,r3⟩:=yl v H3 y;obtain ⟨ρ',hg',hb'⟩:=Option.bind_eq_some_iff.mp hr1;obtain ⟨bb,hbb,hb'⟩:=Option.bind_eq_some_iff.mp hb';have xx3:=xx.trans x3;refine hg b (fun _=>none) _ _ ρ' H03 H3 v _ x3.s1 (fun _ _ h=>by cases h) (e1.ext (K:=K) xx3) r3 hg' _ fun σ2 e2=> ?_;refine ht b _ σ2 ρ' H03 H3 x3.s1 e2 bb hbb _ fun H4 J4 x4=> ?_
     cases bb with
     | true=>
      refine iteT ?_;obtain ⟨rr,hrr,rfl⟩:=Option.map_eq_some_iff.mp (show (fe ρ').map (fun r=>some r.dat)=some r from hb');refine (he b).rv _ σ2 ρ' H4 J4 x4.s1 (e2.ext (K:=K) x4) rr.dat (by unfold mDat;rw [hrr];rfl) _ fun w H5 J5 x5 p5=> ?_;refine ⟨H5,es ++ [rr.dat],rest',(xx3.trans x4).trans x5,Tf.Reps.snoc (Reps.same ((x3.s0.trans x4.s0).trans x5.s0) hr) p5,by rw [List.length_append];simpa using hel,hr2,?_⟩;rw [<-hsum, <-hc,List.append_assoc]
      rfl
     | false=>
      refine iteF ?_
      cases hb'
      exact ⟨H4,es,rest',xx3.trans x4,Reps.same (x3.s0.trans x4.s0) hr,by omega,hr2,by rw [<-hsum, <-hc]⟩
   . left;have hi':i=ds.length:=by omega
     refine ⟨is (by omega),fun p hp=> ?_⟩;rw [List.drop_eq_nil_of_le (by omega)] at hc
     cases hc
     rw [List.append_nil] at hsum
     subst hsum;have xy:=x1.trans xx;exact q _ _ _ (xy.trans (Ext.alloc xx.s1 hp _)) ⟨p,ys,rfl,xy.s.free hp,xx.s1.free hp,upd_same,hr⟩
 . cases hz
def runD(n:Nat)(g:En->Option Out)(k:Nat):List PyData->Option Sl:=fun ds=>if ds.length=k then (g (ds.map (fun d=>some (.val d))++List.replicate (n - ds.length) none)).bind fun o=>match o with
 | .rt r _=>some r
 | .nx _=>some (.val .none)
 | _=>none else none
theorem Reps.lenV{H:Hp}{vs:List V}{ds:List PyData}(h:Reps K H vs ds):vs.length=ds.length:=h.length
theorem er_start{N:List Str}{H0 H:Hp}{vs:List V}{ds:List PyData}(h:Reps K H0 vs ds):ER K H H0 H (L2.start N vs) (ds.map (fun d=>some (.val d))++List.replicate (N.length - ds.length) none):=by
 have hl:=h.length
 have noown:∀(i:Nat) s,(ds.map (fun d=>some (Sl.val d))++List.replicate (N.length - ds.length) none)[i]? = some (some s)->∃d,ds[i]? = some d/\s = .val d:=by
  intro i s hs
  by_cases hi:i<ds.length
  . rw [List.getElem?_append_left (by simpa using hi),List.getElem?_map,List.getElem?_eq_getElem hi] at hs
    cases hs
    exact ⟨_,List.getElem?_eq_getElem hi,rfl⟩
  . rw [List.getElem?_append_right (by simpa using hi),List.getElem?_replicate] at hs
    split at hs <;> cases hs
 refine ⟨?_,fun i s hs=> ?_,fun i j a xs ys _ h1 _ _ _=> ?_⟩
 . unfold L2.start;simp only [List.length_append,List.length_map,List.length_replicate,hl]
 . obtain ⟨d,hd,rfl⟩:=noown i s hs;obtain ⟨v,h1,h2⟩:=Tf.Reps.get h hd;refine ⟨v,?_,h2⟩;unfold L2.start;have hi:i<vs.length:=(List.getElem?_eq_some_iff.mp h1).1;rw [List.getElem?_append_left (by simpa using hi),List.getElem?_map,h1];rfl
 . obtain ⟨d,_,e⟩:=noown i _ h1
   cases e
section
variable {P:Program} {w:World} {mg:Str->Option Value} {base:Heap}
def DSs(X:Cx)(R:Rl)(st:List Stmt)(g:En->Option Out):Prop:=∃t,PSs X st t/\RS X.K R t g
theorem fnD {x qual : Str} {st : Stmt} {f : Addr} {fd : FuncData} {N ps : List Str} {k n m : Nat} {g : En -> Option Out} (F : Fun K x qual st f fd) (S : FnScope N ps (defScope st)) (hn : N.length = n) (hm : ps.length = m)
 (hb:∀(cdv:Value) (A:Around) (outer:List Env) (s:Shared) (H:Hp) (E:XK),Room k (A.deeper (envOfC qual (defScope st) s.heap.objs.size f cdv))->DSs (cxOf CX0 P w K mg base N qual (defScope st) f cdv A outer s H E).nox (PR K) (defBody st) g) :
 FnOk P w K mg base CX0 (k+1) f fd ps (spD K (runD n g m)):=by
 subst hn hm;refine F.ok S (fun vs H Q E h=> ?_) fun cdv A outer s H vs Q E hr h=> ?_
 . obtain ⟨H0,ds,r,s,hr,hf,_⟩:=h;unfold runD at hf
   split at hf
   . rename_i hl;rw [hr.length,hl]
   . cases hf
 . obtain ⟨t,ht,rs⟩:=hb cdv A outer s H E hr;refine ⟨t,ht,?_⟩;obtain ⟨H0,ds,r,s0,hr,hf,q⟩:=h;unfold runD at hf
   split at hf
   . obtain ⟨o,ho,hf⟩:=Option.bind_eq_some_iff.mp hf;refine rs H H0 _ _ H0 H (Ext.refl s0) ⟨er_start hr⟩ o ho _ ?_
     cases o with
     | rt r' _=>cases hf;exact fun v σ H1 J1 a _ b=>q v H1 J1 a b
     | nx _=>cases hf;exact fun σ H1 J1 a b=>q .non H1 J1 a .none
     | bk _=>cases hf
     | ct _=>cases hf
   . cases hf
end
end
theorem law_imp{K:W.Frag}{F:List PyData->Option Sl}(hL:∀ns:List Int,ns.length<=63->F [.list (ns.map .int)]=some (.val (.bool true))){vs:List V}{H:Hp}{Q:VK}{E:XK}(h:spLaw K vs H Q E):spD K F vs H Q E:=by
 obtain ⟨a,ns,rfl,h1,h2,q⟩:=h
 have allI:∀ns:List Int,Reps K H (ns.map V.int) (ns.map .int):=fun ns=>by
  induction ns with
  | nil=>exact .nil
  | cons n r ih=>exact .cons (.int n) ih
 refine ⟨H,[.list (ns.map .int)], .val (.bool true),Same.refl H, .cons (.list h1 (allI ns)) .nil,hL ns h2,fun v H0' H' x p=> ?_⟩
 cases (show Rep K H0' v (.bool true) from p)
 exact q H'
section
variable {X:Cx} {R R':Rl} [RelOk X.K R] [RelOk X.K R'] {a b c e:Expr} {pos p:Pos} {f g fa fb fc:En->Option Sl}
def DE(X:Cx)(R:Rl)(e:Expr)(f:En->Option Sl):Prop:=∃te,PE X e te/\RE X.K R te f
def DP(X:Cx)(R:Rl)(e:Expr)(f:En->Option Sl):Prop:=∃te,PE X e te/\RP X.K R te f
def DA(X:Cx)(R:Rl)(es:List Expr)(f:En->Option (List PyData)):Prop:=∃ta,PA X es ta/\RA X.K R ta f
def DQ(X:Cx)(R:Rl)(es:List Expr)(f:En->Option (List Sl)):Prop:=∃ta,PA X es ta/\RQ X.K R ta f
def DT(X:Cx)(R:Rl)(e:Expr)(f:En->Option Bool):Prop:=∃tt,PT X e tt/\RT X.K R tt f
def DW(X:Cx)(R:Rl)(e:Expr)(f:En->Option Bool):Prop:=∃tt,PW X e tt/\RT X.K R tt f
def DO(X:Cx)(R:Rl)(e:Option Expr)(f:En->Option (Option Int)):Prop:=∃to,PO X e to/\RO X.K R to f
def DS(X:Cx)(R:Rl)(st:Stmt)(g:En->Option Out):Prop:=∃t,PS X st t/\RS X.K R t g
def DG(X:Cx)(R:Rl)(e:Expr)(g:PyData->En->Option En):Prop:=∃t,PG X e t/\RG X.K R t g
def DGs(X:Cx)(R:Rl)(es:List Expr)(gs:List (PyData->En->Option En)):Prop:=∃t,PGs X es t/\RGs X.K R t gs
def DI(X:Cx)(R:Rl)(tg e:Expr)(f:En->Option (List PyData)):Prop:=∃wi,PI X tg e wi/\RI X.K R wi f
theorem DE.dp(h:DE X R e f):DP X R e f:=by obtain ⟨t,h1,h2⟩:=h;exact ⟨t,h1,h2.rp⟩
theorem dp_var (i : Nat) {x : Str} (hN : X.N[i]? = some x := by rfl) (hv : Vis X.env.scope x := by first | exact Or.inl rfl | exact Or.inr (Or.inl rfl) | exact Or.inr (Or.inr rfl)) (hd : (x == ("__debug__" : Str)) = false := by decide)
 (hcd:(x==("__classdict__" : Str))=false:=by decide) (hsl:R.slot i:=by first | exact True.intro | exact ⟨of_decide_eq_true rfl,of_decide_eq_true rfl⟩):DP X R (.Name x pos) (mPk i):=⟨_,pe_var hN hv hd hcd,rp_var i hsl⟩
theorem de_var (i : Nat) {x : Str} (hN : X.N[i]? = some x := by rfl) (hv : Vis X.env.scope x := by first | exact Or.inl rfl | exact Or.inr (Or.inl rfl) | exact Or.inr (Or.inr rfl)) (hd : (x == ("__debug__" : Str)) = false := by decide)
 (hcd:(x==("__classdict__" : Str))=false:=by decide) (hsl:R.slot i:=by first | exact True.intro | exact ⟨of_decide_eq_true rfl,of_decide_eq_true rfl⟩):DE X R (.Name x pos) (mVar i):=⟨_,pe_var hN hv hd hcd,re_var i hsl⟩
theorem de_int{i:Int}{j}:DE X R (.Constant (.int i) j pos) (mK (.int i)):=⟨_,pe_int,re_k fun _=> .int i⟩
theorem de_bool{i:Bool}{j}:DE X R (.Constant (.bool i) j pos) (mK (.bool i)):=⟨_,pe_bl,re_k fun _=> .bool i⟩
theorem de_none{j}:DE X R (.Constant .none j pos) (mK .none):=⟨_,pe_non,re_k fun _=> .none⟩
theorem de_str{i:Str}{j}:DE X R (.Constant (.str i) j pos) (mK (.str i)):=⟨_,pe_str,re_k fun _=> .str i⟩
theorem de_glob {x:Str} {v:V} {u:Value} {d:PyData} (hm:X.mg x=some u) (r:RelV v u) (h:∀H0:Hp,Rep X.K H0 v d) (hg:Gl X x:=by rfl) (hd:(x==("__debug__" : Str))=false:=by decide):DE X R (.Name x pos) (mK d):=⟨_,pe_glob hg hm r hd,re_k h⟩
theorem de_op{o:Operator}{r:R2}{op:Sl->Sl->Option Sl}(ho:OpR X (binaryOp o) r)(hd:OpD X.K r op)(ha:DP X R a fa)(hb:DP X R b fb):DE X R (.BinOp a o b pos) (mBin op fa fb):=by
 obtain ⟨ta,h1,h2⟩:=ha;obtain ⟨tb,h3,h4⟩:=hb;exact ⟨_,pe_op ho h1 h3,re_bin hd h2 h4⟩
def dAddI:Sl->Sl->Option Sl:=iop fun i j=>i+j
def dSub:Sl->Sl->Option Sl:=iop fun i j=>i - j
def CMulA(i j:Int):Prop:=CMul i j\/CMulB i j
theorem op_mulA:OpR X (binaryOp .Mult) (rI CMulA fun i j=> .int (i*j)):=opI fun _ _ _ _ _ _ _ hc q=>by
 rcases hc with hc | ⟨n,m,h1,h2,h3⟩
 . exact mul_int q hc.ok
 . exact mul_int q (mulOk h1 h2 h3)
noncomputable def dMulI:Sl->Sl->Option Sl:=iopC CMulA fun i j=>i*j
noncomputable def dFdiv:Sl->Sl->Option Sl:=iopC CDivB fun i j=>i.fdiv j
noncomputable def dMod:Sl->Sl->Option Sl:=iopC (fun _ j=>j≠0) fun i j=>i.fmod j
noncomputable def dPow:Sl->Sl->Option Sl:=iopC CPow fun i j=>i ^ j.toNat
theorem de_sub(ha:DP X R a fa)(hb:DP X R b fb):DE X R (.BinOp a .Sub b pos) (mBin dSub fa fb):=de_op op_sub opd_iop ha hb
theorem de_fdiv(ha:DP X R a fa)(hb:DP X R b fb):DE X R (.BinOp a .FloorDiv b pos) (mBin dFdiv fa fb):=de_op op_fdivB opd_iopC ha hb
theorem de_mod(ha:DP X R a fa)(hb:DP X R b fb):DE X R (.BinOp a .Mod b pos) (mBin dMod fa fb):=de_op op_modN opd_iopC ha hb
theorem de_pow(ha:DP X R a fa)(hb:DP X R b fb):DE X R (.BinOp a .Pow b pos) (mBin dPow fa fb):=de_op op_pow opd_iopC ha hb
def rCatG(K:W.Frag):R2:=fun x y H Q=>∃l b xs zs,x = .ref l/\y = .ref b/\SqL K H l xs/\SqL K H b zs/\xs.length+zs.length<=sizeLine/\∀p,H p=none->Q (.ref p) (upd H p (.lst (xs++zs)))
theorem op_catG:OpR X (binaryOp .Add) (rCatG X.K):=by
 intro pins s σ H x y v u Q I rx ry h;obtain ⟨l,b,xs,zs,rfl,rfl,hH,hB,hz,q⟩:=h
 cases rx
 cases ry
 obtain ⟨its,r,p1,_⟩:=I.list hH;obtain ⟨its2,r2,p2,_⟩:=I.list hB;obtain ⟨⟨cls,dd,data,sl⟩,n,ho,hc,hd1,hd⟩:=id p1;obtain ⟨⟨cls2,dd2,data2,sl2⟩,n2,ho2,hc2,hd2',hd2⟩:=id p2;simp only at hc hd hc2 hd2
 subst hc hd hc2 hd2;have l1:=r.length;have l2:=r2.length;refine concat_meets ⟨_,ho,rfl⟩ ⟨_,ho2,rfl⟩ noFill_list_add seq_list_add PySem.F.slot_list_add PySem.F.entry_list_add (PySem.F.args_list_add_2 _ _) (list_addW l b its.toArray its2.toArray n n2 dd dd2 sl sl2 (by rw [List.size_toArray,List.size_toArray];omega)) ⟨ho,ho2,?_⟩;have ea:its.toArray++its2.toArray=(its++its2).toArray:=by simp
 rw [ea];exact ⟨.ref _,_,I.lnew (t':=s.toks) (r.append r2) (by rw [List.length_append];omega),rfl,q _ I.fresh⟩
def rCatT0(K:W.Frag):R2:=fun x y H Q=>∃a b ys,x = .ref a/\y = .ref b/\SqT K H a []/\SqT K H b ys/\Q (.ref b) H
theorem op_catT0:OpR X (binaryOp .Add) (rCatT0 X.K):=by
 intro pins s σ H x y v u Q I rx ry h;obtain ⟨a,b,ys,rfl,rfl,ha,hb,q⟩:=h
 cases rx
 cases ry
 obtain ⟨its,r1,p1,_⟩:=I.tuple ha;obtain ⟨its2,r2,p2,_⟩:=I.tuple hb
 cases r1
 obtain ⟨⟨cls,dd,data,sl⟩,ho,hc,n,hd⟩:=id p1;obtain ⟨⟨cls2,dd2,data2,sl2⟩,ho2,hc2,n2,hd2⟩:=id p2;simp only at hc hd hc2 hd2
 subst hc hd hc2 hd2
 exact concat_meets ⟨_, ho, rfl⟩ ⟨_, ho2, rfl⟩ noFill_tuple_add seq_tuple_add PySem.F.slot_tuple_add PySem.F.entry_tuple_add (PySem.F.args_tuple_add_2 _ _)
  (tuple_addW0 a b ([]:List Value).toArray its2.toArray n n2 dd dd2 sl sl2 (by simp)) ⟨ho,ho2, .ref b,H,I,rfl,q⟩
def rAddA(K:W.Frag):R2:=fun x y H Q=>rI0 (fun i j=> .int (i+j)) x y H Q\/rCatG K x y H Q\/rCatT0 K x y H Q\/rCatT K x y H Q\/(∃i j,x = .str i/\y = .str j/\i.length+j.length<=sizeLine/\Q (.str (i++j)) H)
theorem op_addA:OpR X (binaryOp .Add) (rAddA X.K):=op_add.or (op_catG.or (op_catT0.or (op_catT.or op_add_str)))
def dAdd(a b:Sl):Option Sl:=match a.dat,b.dat with
 | .int i, .int j=>some (.val (.int (i+j)))
 | .list xs, .list ys=>if xs.length+ys.length<=sizeLine then some (.own (xs++ys)) else none
 | .tuple xs, .tuple ys=>if xs.length+ys.length<=sizeLine then some (.val (.tuple (xs++ys))) else none
 | .str i, .str j=>if i.length+j.length<=sizeLine then some (.val (.str (i++j))) else none
 | _,_=>none
theorem SlP.atom{K:W.Frag}{H0 H:Hp}{v:V}{d:PyData}:∀ {r:Sl},SlP K H0 H v r->r.dat=d->(∀ds,d ≠ .list ds)->Rep K H0 v d
 | .val _,h,e,_=>by cases e;exact h
 | .own _,_,e,n=>absurd e.symm (n _)
theorem Reps.append{K:W.Frag}{H:Hp}:∀ {vs ws:List V} {ds es:List PyData},Reps K H vs ds->Reps K H ws es->Reps K H (vs++ws) (ds++es)
 | _,_,_,_, .nil,h=>h
 | _,_,_,_, .cons a t,h=> .cons a (Reps.append t h)
theorem opd_add{K:W.Frag}:OpD K (rAddA K) dAdd:=fun H0 H x y sx sy z s px py hz Q q=>by
 unfold dAdd at hz
 split at hz
 . rename_i i j e1 e2
   cases hz
   cases px.atom e1 (fun _ h=>nomatch h)
   cases py.atom e2 (fun _ h=>nomatch h)
   exact .inl ⟨_,_,rfl,rfl,q _ _ _ (Ext.refl s) (.int _)⟩
 . rename_i xs ys e1 e2
   split at hz
   . rename_i hl
     cases hz
     obtain ⟨a,vs,rfl,h1,h2⟩:=px.lst s e1;obtain ⟨b,ws,rfl,h3,h4⟩:=py.lst s e2;exact .inr (.inl ⟨a,b,vs,ws,rfl,rfl,h1,h3,by rw [h2.length,h4.length];exact hl,fun p hp=>q _ _ _ (Ext.alloc s hp _) ⟨p,_,rfl,hp,s.free hp,upd_same,Reps.append h2 h4⟩⟩)
   . cases hz
 . rename_i xs ys e1 e2
   split at hz
   . rename_i hl
     cases hz
     obtain ⟨a,vs,rfl,h1,h2⟩:=px.tup e1;obtain ⟨b,ws,rfl,h3,h4⟩:=py.tup e2
     by_cases hv:vs = []
     . subst hv
       cases h2
       exact .inr (.inr (.inl ⟨a,b,ws,rfl,rfl,s.seqT h1,s.seqT h3,q _ _ _ (Ext.refl s) (.tuple h3 h4)⟩))
     . refine .inr (.inr (.inr (.inl ⟨a,b,vs,ws,rfl,rfl,s.seqT h1,s.seqT h3,hv,by rw [h2.length,h4.length];exact hl,fun hw=> ?_,fun hw p hp=> ?_⟩)))
       . subst hw
         cases h4
         rw [List.append_nil] at q
         exact q _ _ _ (Ext.refl s) (.tuple h1 h2)
       . exact q _ _ _ (Ext.allocF s hp _) (.tuple (SqT.of upd_same) (Reps.same (Same.upd (s.free hp) _) (Reps.append h2 h4)))
   . cases hz
 . rename_i i j e1 e2
   split at hz
   . rename_i hl
     cases hz
     cases px.atom e1 (fun _ h=>nomatch h)
     cases py.atom e2 (fun _ h=>nomatch h)
     exact .inr (.inr (.inr (.inr ⟨_,_,rfl,rfl,hl,q _ _ _ (Ext.refl s) (.str _)⟩)))
   . cases hz
 . cases hz
theorem de_add(ha:DP X R a fa)(hb:DP X R b fb):DE X R (.BinOp a .Add b pos) (mBin dAdd fa fb):=de_op op_addA opd_add ha hb
noncomputable def dRep(a b:Sl):Option Sl:=match a,b with
 | .own xs, .val (.int k)=>if -(2 ^ 63)<=k/\k<2 ^ 63/\xs.length*k.toNat<=sizeLine then some (.own (List.replicate k.toNat xs).flatten) else none
 | a,b=>dMulI a b
theorem Reps.rep{K:W.Frag}{H:Hp}{vs:List V}{ds:List PyData}(h:Reps K H vs ds):∀k:Nat,Reps K H (List.replicate k vs).flatten (List.replicate k ds).flatten
 | 0=> .nil
 | k+1=>by
  rw [List.replicate_succ,List.replicate_succ,List.flatten_cons,List.flatten_cons];exact Reps.append h (Reps.rep h k)
theorem opd_rep{K:W.Frag}:OpD K (fun x y H Q=>rRep x y H Q\/rI CMulA (fun i j=> .int (i*j)) x y H Q) dRep:=fun H0 H x y sx sy z s px py hz Q q=>by
 unfold dRep at hz
 split at hz
 . split at hz
   . rename_i hl
     cases hz
     obtain ⟨a,vs,rfl,h1,h2⟩:=px;exact .inl ⟨a,_,vs,rfl,py.int,h1,hl.1,hl.2.1,by rw [h2.length];exact hl.2.2,fun p hp=>q _ _ _ (Ext.alloc s hp _) ⟨p,_,rfl,hp,s.free hp,upd_same,Reps.rep h2 _⟩⟩
   . cases hz
 . exact .inr (opd_iopC H0 H x y _ _ z s px py hz Q q)
theorem de_mul(ha:DP X R a fa)(hb:DP X R b fb):DE X R (.BinOp a .Mult b pos) (mBin dRep fa fb):=de_op (op_rep.or op_mulA) opd_rep ha hb
theorem de_neg(ha:DP X R a fa):DE X R (.UnaryOp .USub a pos) (mUn (iun fun i=> -i) fa):=by
 obtain ⟨ta,h1,h2⟩:=ha;exact ⟨_,pe_un un_neg h1,re_un und_iun h2⟩
theorem de_cmp{o:CmpOp}{r:R2}{op:Sl->Sl->Option Sl}(ho:OpR X (compareOp o) r)(hd:OpD X.K r op)(ha:DP X R a fa)(hb:DP X R b fb)(hm:behindInMarks o b=false):DE X R (.Compare a [o] [b] pos) (mBin op fa fb):=by
 obtain ⟨ta,h1,h2⟩:=ha;obtain ⟨tb,h3,h4⟩:=hb;exact ⟨_,pe_cmpR ho h1 h3 hm,re_bin hd h2 h4⟩
theorem dt_cmp{o:CmpOp}{r:R2}{op:Sl->Sl->Option Sl}(ho:OpR X (compareOp o) r)(hd:OpD X.K r op)(ha:DP X R a fa)(hb:DP X R b fb)(hm:behindInMarks o b=false):DT X R (.Compare a [o] [b] pos) (mTest (mBin op fa fb)):=by
 obtain ⟨ta,h1,h2⟩:=ha;obtain ⟨tb,h3,h4⟩:=hb;exact ⟨_,pt_cmpR ho h1 h3 hm,rt_test (re_bin hd h2 h4).rp⟩
def dLt:Sl->Sl->Option Sl:=icmp fun i j=>decide (i<j)
def dLe:Sl->Sl->Option Sl:=icmp fun i j=>decide (i<=j)
def dGt:Sl->Sl->Option Sl:=icmp fun i j=>decide (j<i)
def dGe:Sl->Sl->Option Sl:=icmp fun i j=>decide (j<=i)
theorem de_eq(hu:X.A.units+64<cLine)(ha:DP X R a fa)(hb:DP X R b fb):DE X R (.Compare a [.Eq] [b] pos) (mBin deq fa fb):=de_cmp (op_eqD hu) opd_eq ha hb (nomark _)
theorem dt_lt(ha:DP X R a fa)(hb:DP X R b fb):DT X R (.Compare a [.Lt] [b] pos) (mTest (mBin dLt fa fb)):=dt_cmp op_lt opd_icmp ha hb (nomark _)
theorem dt_eq(hu:X.A.units+64<cLine)(ha:DP X R a fa)(hb:DP X R b fb):DT X R (.Compare a [.Eq] [b] pos) (mTest (mBin deq fa fb)):=dt_cmp (op_eqD hu) opd_eq ha hb (nomark _)
theorem dt_ne(hu:X.A.units+64<cLine)(ha:DP X R a fa)(hb:DP X R b fb):DT X R (.Compare a [.NotEq] [b] pos) (mTest (mBin dne fa fb)):=dt_cmp (op_neD hu) opd_ne ha hb (nomark _)
theorem dt_isN(ha:DP X R a fa)(hb:DP X R b fb):DT X R (.Compare a [.Is] [b] pos) (mTest (mBin disN fa fb)):=dt_cmp op_isN opd_isN ha hb (nomark _)
theorem dt_val(h:DP X R e f)(he:∀whole,isTrue e X.env whole=(do let v <-whole;standAt e.pos;holding [v] (truthy v)):=by intro _;rfl):DT X R e (mTest f):=by
 obtain ⟨t,h1,h2⟩:=h;exact ⟨_,pt_val h1 he,rt_b h2⟩
variable {ft gt:En->Option Bool} {rest:List Expr}
theorem dt_w(h:DW X R e ft):DT X R e ft:=by obtain ⟨t,h1,h2⟩:=h;exact ⟨t,h1.pt,h2⟩
theorem dw_or1(h:DT X R a ft):DW X R (.BoolOp .Or [a] pos) ft:=by obtain ⟨t,h1,h2⟩:=h;exact ⟨t,pw_or1 h1,h2⟩
theorem dw_or(h:DT X R a ft)(k:DW X R (.BoolOp .Or (b::rest) pos) gt):DW X R (.BoolOp .Or (a::b::rest) pos) (mOr ft gt):=by obtain ⟨t,h1,h2⟩:=h;obtain ⟨u,h3,h4⟩:=k;exact ⟨_,pw_or h1 h3,rt_or h2 h4⟩
theorem dt_not(h:DT X R a ft):DT X R (.UnaryOp .Not a pos) (mNot ft):=by obtain ⟨t,h1,h2⟩:=h;exact ⟨_,pt_not h1,rt_not h2⟩
theorem de_ifE(hc:DT X R c ft)(h:DE X R a f)(k:DE X R b g):DE X R (.IfExp c a b pos) (mIfE ft f g):=by obtain ⟨t,h1,h2⟩:=hc;obtain ⟨u,h3,h4⟩:=h;obtain ⟨v,h5,h6⟩:=k;exact ⟨_,pe_ifExp h1 h3 h5,re_ifE h2 h4 h6⟩
theorem de_ix(ha:DP X R a fa)(hb:DP X R b fb)(hs:PlainIx b:=by intro _ _;rfl):DE X R (.Subscript a b pos) (mBin dix fa fb):=by
 obtain ⟨ta,h1,h2⟩:=ha;obtain ⟨tb,h3,h4⟩:=hb;exact ⟨_,pe_ix ix_seq h1 h3 hs,re_bin opd_ix h2 h4⟩
variable {lo hi:Option Expr} {fl fh:En->Option (Option Int)} {p2:Pos}
theorem do_none:DO X R none mNoPart:=⟨_,po_none,ro_none⟩
theorem do_some(h:DP X R e f):DO X R (some e) (mPart f):=by obtain ⟨t,h1,h2⟩:=h;exact ⟨_,po_some h1,ro_some h2⟩
theorem de_sl(h:DP X R e f)(hl:DO X R lo fl)(hh:DO X R hi fh):DE X R (.Subscript e (.Slice lo hi none p2) pos) (mSl f fl fh):=by
 obtain ⟨t,h1,h2⟩:=h;obtain ⟨u,h3,h4⟩:=hl;obtain ⟨v,h5,h6⟩:=hh;exact ⟨_,pe_slice (sl_list.or sl_tup) h1 h3 h5,re_sl h2 h4 h6⟩
variable {es:List Expr} {fs:En->Option (List PyData)} {fq:En->Option (List Sl)}
theorem da_nil:DA X R [] mNil:=⟨_,pa_nil,ra_nil⟩
theorem da_cons(h:DE X R e f)(k:DA X R es fs)(hs:starEach (e::es) X.env=(false,eval e X.env)::starEach es X.env:=by rfl):DA X R (e::es) (mCons f fs):=by obtain ⟨t,h1,h2⟩:=h;obtain ⟨u,h3,h4⟩:=k;exact ⟨_,pa_cons h1 h3 hs,ra_cons h2 h4⟩
theorem dq_nil:DQ X R [] mNilP:=⟨_,pa_nil,rq_nil⟩
theorem dq_cons(h:DP X R e f)(k:DQ X R es fq)(hs:starEach (e::es) X.env=(false,eval e X.env)::starEach es X.env:=by rfl):DQ X R (e::es) (mConsP f fq):=by obtain ⟨t,h1,h2⟩:=h;obtain ⟨u,h3,h4⟩:=k;exact ⟨_,pa_cons h1 h3 hs,rq_cons h2 h4⟩
theorem de_tup{x1}(h:DA X R es fs):DE X R (.Tuple es x1 pos) (mTup fs):=by obtain ⟨t,h1,h2⟩:=h;exact ⟨_,pe_tup h1,re_tup h2⟩
theorem de_lst(h:DA X R es fs):DE X R (.List es pos) (mLst fs):=by obtain ⟨t,h1,h2⟩:=h;exact ⟨_,pe_lst h1,re_lst h2⟩
theorem de_call {k j : Nat} {x : Str} {ps : List Str} {F : List PyData -> Option Sl} (D : Tf.Def X.prog X.w X.K X.mg X.base j x ps (spD X.K F)) (hr : Room k X.A) (h : DA X R (e :: es) fs) (hj : j <= k := by decide) (hg : Gl X x := by rfl)
 (hdb:(x==("__debug__" : Str))=false:=by decide) (he:starEach (e::es) X.env=(false,eval e X.env)::starEach es X.env:=by rfl) (hpl:(backTo pos (starEach es X.env)).any (·.1)=false:=by rfl):DE X R (.Call (.Name x p) (e::es) [] pos) (mCall F fs):=by
 obtain ⟨t,h1,h2⟩:=h;exact ⟨_,pe_callD D hr h1 hj hg hdb he hpl,re_call h2⟩
theorem de_blt {x : Str} {id : String} {r : List V -> Hp -> VK -> Prop} {F : List Sl -> Option Sl} (hc : CallR X (.builtin id) r) (hd : CallD X.K r F) (hv : bootBuiltins x = some (.builtin id)) (hm : X.mg x = none) (h : DQ X R (e :: es) fq) (hg : Gl X x := by rfl) (hn : x ≠ "__name__" := by decide) (hdb : (x == ("__debug__" : Str)) = false := by decide)
 (he:starEach (e::es) X.env=(false,eval e X.env)::starEach es X.env:=by rfl) (hpl:(backTo pos (starEach es X.env)).any (·.1)=false:=by rfl):DE X R (.Call (.Name x p) (e::es) [] pos) (mCallP F fq):=by
 obtain ⟨t,h1,h2⟩:=h;exact ⟨_,pe_callB hc hg hm hv h1 hn hdb he hpl,re_callB hd h2⟩
theorem de_ty {x : Str} {id : String} {r : List V -> Hp -> VK -> Prop} {F : List Sl -> Option Sl} (hc : CallR X (.type id) r) (hd : CallD X.K r F) (hv : bootBuiltins x = some (.type id)) (hm : X.mg x = none) (h : DQ X R (e :: es) fq) (hg : Gl X x := by rfl) (hn : x ≠ "__name__" := by decide) (hdb : (x == ("__debug__" : Str)) = false := by decide)
 (he:starEach (e::es) X.env=(false,eval e X.env)::starEach es X.env:=by rfl) (hpl:(backTo pos (starEach es X.env)).any (·.1)=false:=by rfl):DE X R (.Call (.Name x p) (e::es) [] pos) (mCallP F fq):=by
 obtain ⟨t,h1,h2⟩:=h;exact ⟨_,pe_callTy hc hg hm hv h1 hn hdb he hpl,re_callB hd h2⟩
def GlobC(K:W.Frag)(mg:Str->Option Value)(x:Str)(d:PyData):Prop:=∃v u,mg x=some u/\RelV v u/\∀H0:Hp,Rep K H0 v d
theorem de_globC {x:Str} {d:PyData} (h:GlobC X.K X.mg x d) (hg:Gl X x:=by rfl) (hd:(x==("__debug__" : Str))=false:=by decide):DE X R (.Name x pos) (mK d):=by
 obtain ⟨v,u,h1,h2,h3⟩:=h;exact de_glob h1 h2 h3 hg hd
theorem pr_sub{K:W.Frag}{ix:List (Option Nat)}(hx:(ix.filterMap id).Nodup:=by decide):∀(HB:Hp) (σ:L2.St) (ρ:En) (H0 H:Hp),(PR K).r HB H0 H σ ρ->(PR K).r (fun _=>none) H0 H (subS ix σ) (subE ix ρ):=fun HB σ ρ H0 H e=>ER.sub hx e
variable {st:Stmt} {sts:List Stmt} {gs gs':En->Option Out} {x y:Str} {pos':Pos} {i j:Nat}
theorem dss_nil:DSs X R [] mNext:=⟨_,pss_nil,rs_next⟩
theorem dss_one(h:DS X R st gs):DSs X R [st] gs:=by obtain ⟨t,h1,h2⟩:=h;exact ⟨_,pss_one h1,h2⟩
theorem dss_cons(h:DS X R st gs)(k:DSs X R sts gs'):DSs X R (st::sts) (mSeq gs gs'):=by obtain ⟨t,h1,h2⟩:=h;obtain ⟨u,h3,h4⟩:=k;exact ⟨_,pss_cons h1 h3,rs_seq h2 h4⟩
theorem ds_frz(i:Nat)(h:DS X R st gs)(hsl:R.slot i:=by first | exact True.intro | exact ⟨of_decide_eq_true rfl,of_decide_eq_true rfl⟩):DS X R st (mFrz i gs):=by obtain ⟨t,h1,h2⟩:=h;exact ⟨_,h1,rs_frz i hsl h2⟩
theorem ds_set (i : Nat) (h : DE X R e f) (hN : X.N.Nodup) (hi : X.N[i]? = some x := by rfl) (hx : Loc X.env.scope x := by first | exact Or.inl rfl | exact Or.inr rfl) (hs : swapsWith e (some (.Name x pos')) pos.line X.env = pure false := by rfl) (hf : X.fn x = true \/ X.env.scope.names.lookup x = some .local := by first | exact .inl rfl | exact .inr rfl) (hsl : R.slot i := by first | exact True.intro | exact ⟨of_decide_eq_true rfl, of_decide_eq_true rfl⟩) :
 DS X R (.Assign [.Name x pos'] e pos) (mAsg i f):=by obtain ⟨t,h1,h2⟩:=h;exact ⟨_,ps_set hN hi hx h1 hs hf,rs_asg hsl h2⟩
theorem ds_ret(h:DE X R e f):DS X R (.Return (some e) pos) (mRet f):=by obtain ⟨t,h1,h2⟩:=h;exact ⟨_,ps_ret h1,rs_ret h2⟩
theorem ds_retV (i : Nat) (hN : X.N[i]? = some x := by rfl) (hv : Vis X.env.scope x := by first | exact Or.inl rfl | exact Or.inr (Or.inl rfl) | exact Or.inr (Or.inr rfl)) (hd : (x == ("__debug__" : Str)) = false := by decide)
 (hcd:(x==("__classdict__" : Str))=false:=by decide) (hsl:R.slot i:=by first | exact True.intro | exact ⟨of_decide_eq_true rfl,of_decide_eq_true rfl⟩):DS X R (.Return (some (.Name x pos')) pos) (mRet (mPk i)):=⟨_,ps_ret (pe_var hN hv hd hcd),rs_retV i hsl⟩
theorem ds_retN:DS X R (.Return none pos) mRetN:=⟨_,ps_retN,rs_retN⟩
theorem ds_if{A B:List Stmt}(hc:DT X R c ft)(h:DSs X R A gs)(k:DSs X R B gs'):DS X R (.If c A B pos) (mIf ft gs gs'):=by obtain ⟨t,h1,h2⟩:=hc;obtain ⟨u,h3,h4⟩:=h;obtain ⟨v,h5,h6⟩:=k;exact ⟨_,ps_if h1 h3 h5,rs_if h2 h4 h6⟩
theorem ds_while(hp:PassesOwn (model X.prog X.w) X.A X.env X.xe)(hc:DT X R c ft)(h:DSs X R sts gs):DS X R (.While c sts [] pos) (mWhile ft gs):=by obtain ⟨t,h1,h2⟩:=hc;obtain ⟨u,h3,h4⟩:=h;exact ⟨_,ps_while hp h1 h3,rs_while h2 h4⟩
variable {tg:Expr} {fi:En->Option (List PyData)} {fg:PyData->En->Option En} {gg:List (PyData->En->Option En)}
theorem ds_for(hp:PassesOwn (model X.prog X.w) X.A X.env X.xe)(hi:DI X R tg e fi)(hg:DG X R tg fg)(h:DSs X R sts gs)(hc:X.calm=true:=by rfl)(hs:∀x,foldedSetIterable e X.env x=pure x:=by intro _;rfl):DS X R (.For tg e sts [] pos) (mFor fi fg gs):=by
 obtain ⟨t,h1,h2⟩:=hi;obtain ⟨u,h3,h4⟩:=hg;obtain ⟨v,h5,h6⟩:=h;exact ⟨_,ps_for hp hc h1 h3 h5 hs,rs_for h2 h4 h6⟩
theorem dg_name(i:Nat)(hN:X.N.Nodup)(hi:X.N[i]? = some x:=by rfl)(hx:Loc X.env.scope x:=by first | exact Or.inl rfl | exact Or.inr rfl)(hf:X.fn x=true\/X.env.scope.names.lookup x=some .local:=by first | exact .inl rfl | exact .inr rfl)(hsl:R.slot i:=by first | exact True.intro | exact ⟨of_decide_eq_true rfl,of_decide_eq_true rfl⟩):DG X R (.Name x pos) (gVar i):=⟨_,pg_name hN hi hx hf,rg_name i hsl⟩
theorem dgs_nil:DGs X R [] []:=⟨_,pgs_nil,rgs_nil⟩
theorem dgs_cons(h:DG X R e fg)(k:DGs X R es gg)(hs:(assignEach (e::es) X.env).map (·.2)=assign e X.env::(assignEach es X.env).map (·.2):=by rfl):DGs X R (e::es) (fg::gg):=by obtain ⟨t,h1,h2⟩:=h;obtain ⟨u,h3,h4⟩:=k;exact ⟨_,pgs_cons h1 h3 hs,rgs_cons h2 h4⟩
theorem dg_tup{k}{n:Nat}(h:DGs X R es gg)(hl:n=gg.length:=by rfl)(hc:X.calm=true:=by rfl)(hn:(assignEach es X.env).length=n:=by rfl)(hst:(assignEach es X.env).findIdx? (·.1)=none:=by rfl):DG X R (.Tuple es k pos) (gTupD gg):=by
 obtain ⟨t,h1,h2⟩:=h;exact ⟨_,pg_tup hc h1 hn hst,rg_tup hl h2⟩
theorem di_list(h:DE X R e f):DI X R tg e (mItems f):=by obtain ⟨t,h1,h2⟩:=h;exact ⟨_,pi_list h1,ri_list h2⟩
theorem di_range1 (hm:X.mg "range" = none) (h:DQ X R [a] fq) (hg:Gl X "range" :=by rfl) (hs:starEach [a] X.env = [(false,eval a X.env)]:=by rfl):DI X R tg (.Call (.Name "range" p) [a] [] pos) (mRng1 fq):=by obtain ⟨t,h1,h2⟩:=h;exact ⟨_,pi_range1 hg hm h1 hs,ri_range1 h2⟩
theorem di_range2 (hm:X.mg "range" = none) (h:DQ X R [a,b] fq) (hg:Gl X "range" :=by rfl) (hs:starEach [a,b] X.env = [(false,eval a X.env),(false,eval b X.env)]:=by rfl) (hs2:starEach [b] X.env = [(false,eval b X.env)]:=by rfl):DI X R tg (.Call (.Name "range" p) [a,b] [] pos) (mRng2 fq):=by
 obtain ⟨t,h1,h2⟩:=h;exact ⟨_,pi_range2 hg hm h1 hs hs2,ri_range2 h2⟩
theorem di_rangeD (hm:X.mg "range" = none) (h:DQ X R [a,b,c] fq) (hg:Gl X "range" :=by rfl) (hs:starEach [a,b,c] X.env=(false,eval a X.env)::starEach [b,c] X.env:=by rfl) (hs2:(backTo pos (starEach [b,c] X.env)).any (·.1)=false:=by rfl):DI X R tg (.Call (.Name "range" p) [a,b,c] [] pos) (mRngD fq):=by
 obtain ⟨t,h1,h2⟩:=h;exact ⟨_,pi_rangeD hg hm h1 hs hs2,ri_rangeD h2⟩
theorem di_zip {elts:List Expr} {k} {tp:Pos} (hm:X.mg "zip" = none) (h:DA X R [a,b] fs) (hg:Gl X "zip" :=by rfl) (hs:starEach [a,b] X.env = [(false,eval a X.env),(false,eval b X.env)]:=by rfl) (hs2:starEach [b] X.env = [(false,eval b X.env)]:=by rfl):DI X R (.Tuple elts k tp) (.Call (.Name "zip" p) [a,b] [] pos) (mZip fs):=by
 obtain ⟨t,h1,h2⟩:=h;exact ⟨_,pi_zip hg hm h1 hs hs2,ri_zip h2⟩
theorem ds_app (i : Nat) {apos cpos : Pos} (h : DE X R e f) (hN : X.N[i]? = some x := by rfl) (hv : Vis X.env.scope x := by first | exact Or.inl rfl | exact Or.inr (Or.inl rfl) | exact Or.inr (Or.inr rfl)) (hd : (x == ("__debug__" : Str)) = false := by decide) (hcd : (x == ("__classdict__" : Str)) = false := by decide)
 (hst:starEach [e] X.env=(false,eval e X.env)::starEach [] X.env:=by rfl) (hbase:attributeBase (.Name x p) "append" X.env (eval (.Name x p) X.env)=eval (.Name x p) X.env:=by rfl)
 (hfew:((backTo cpos (starEach [e] X.env)).all (fun x=> !x.1) && (backToKw cpos (keywordEach [] X.env)).all (fun x=>x.1.isSome) && decide ([e].length+([]:List Keyword).length+(if ([]:List Keyword).isEmpty then 0 else 1)<30))=true:=by rfl)
 (hline:(apos.endLine==cpos.line)=true:=by rfl) (hplain:(backTo cpos (starEach [] X.env)).any (·.1)=false:=by rfl)
 (hs:swapsWith (.Call (.Attribute (.Name x p) "append" apos) [e] [] cpos) none pos.line X.env=pure false:=by rfl) (hsl:R.slot i:=by first | exact True.intro | exact ⟨of_decide_eq_true rfl,of_decide_eq_true rfl⟩):DS X R (.Expr (.Call (.Attribute (.Name x p) "append" apos) [e] [] cpos) pos) (mApp i f):=by
 obtain ⟨t,h1,h2⟩:=h;exact ⟨_,ps_expr (pe_bm PySem.F.plainAttrs_list PySem.F.slot_list_append PySem.F.type_list_append mt_append (pe_var hN hv hd hcd) (pa_cons h1 pa_nil hst) hbase hfew hline hst hplain) hs,rs_app hsl h2⟩
theorem ds_par (i j : Nat) {px py pt : Pos} {kt k2 pt2} (h : DA X R [a, b] fs) (hN : X.N.Nodup) (hi : X.N[i]? = some x := by rfl) (hj : X.N[j]? = some y := by rfl) (hij : i ≠ j := by decide)
 (hx:X.env.scope.names.lookup x=some .local:=by rfl) (hy:X.env.scope.names.lookup y=some .local:=by rfl)
 (hw:swappedStores [.Tuple [.Name x px, .Name y py] kt pt] (.Tuple [a,b] k2 pt2) X.env=pure (some [x,y]):=by rfl)
 (hs:swapsWithSole [.Tuple [.Name x px, .Name y py] kt pt] (.Tuple [a,b] k2 pt2) pos.line X.env=pure false:=by rfl) (hc:X.calm=true:=by rfl) (hsi:R.slot i:=by first | exact True.intro | exact ⟨of_decide_eq_true rfl,of_decide_eq_true rfl⟩) (hsj:R.slot j:=by first | exact True.intro | exact ⟨of_decide_eq_true rfl,of_decide_eq_true rfl⟩):DS X R (.Assign [.Tuple [.Name x px, .Name y py] kt pt] (.Tuple [a,b] k2 pt2) pos) (mPar i j fs):=by
 obtain ⟨t,h1,h2⟩:=h;exact ⟨_,ps_par hc hN hi hj hij hx hy h1 hw hs,rs_par hsi hsj h2⟩
theorem ds_setI (i : Nat) {px ps : Pos} (h : DE X R e f) (hj : DP X R a fa) (hN : X.N[i]? = some x := by rfl) (hv : Vis X.env.scope x := by first | exact Or.inl rfl | exact Or.inr (Or.inl rfl) | exact Or.inr (Or.inr rfl)) (hd : (x == ("__debug__" : Str)) = false := by decide) (hcd : (x == ("__classdict__" : Str)) = false := by decide)
 (ha:∀v,assign (.Subscript (.Name x px) a ps) X.env v=(do
  let ov <-holding [v] (eval (.Name x px) X.env)
  let iv <-holding [v,ov] (eval a X.env)
  standAt ps
  holding [v,ov,iv] (setItem ov iv v)
  release [v,ov,iv] []):=by intro _;rfl)
 (hs:swapsWithSole [.Subscript (.Name x px) a ps] e pos.line X.env=pure false:=by rfl) (hw:swappedStores [.Subscript (.Name x px) a ps] e X.env=pure none:=by rfl) (h1:(assignEach [.Subscript (.Name x px) a ps] X.env).map (·.2) = [assign (.Subscript (.Name x px) a ps) X.env]:=by rfl) (hsl:R.slot i:=by first | exact True.intro | exact ⟨of_decide_eq_true rfl,of_decide_eq_true rfl⟩) :
 DS X R (.Assign [.Subscript (.Name x px) a ps] e pos) (mSet i fa f):=by
 obtain ⟨t,a1,a2⟩:=h;obtain ⟨u,b1,b2⟩:=hj;exact ⟨_,ps_asg a1 (pg_sub (pe_var hN hv hd hcd) b1 set_list ha) hs hw h1,rs_set hsl a2 b2⟩
theorem cx_scope1{CX:CXT}{P:Program}{w:World}{K:W.Frag}{mg:Str->Option Value}{base:Heap}{N:List Str}{qual:Str}{scope:Scope}{f:Addr}{cd:Value}{A:Around}{outer:List Env}{s:Shared}{H:Hp}{E:XK}:(cxOf CX P w K mg base N qual scope f cd A outer s H E).nox.env.scope=scope:=rfl
theorem cx_names1{CX:CXT}{P:Program}{w:World}{K:W.Frag}{mg:Str->Option Value}{base:Heap}{N:List Str}{qual:Str}{scope:Scope}{f:Addr}{cd:Value}{A:Around}{outer:List Env}{s:Shared}{H:Hp}{E:XK}:(cxOf CX P w K mg base N qual scope f cd A outer s H E).nox.N=N:=rfl
theorem cxC_names{X:Cx}{osc sc:Scope}{N':List Str}{b:CB}:(cxC X osc sc N' b).N=N':=rfl
theorem cxC_scope{X:Cx}{osc sc:Scope}{N':List Str}{b:CB}:(cxC X osc sc N' b).env.scope=relabelS sc osc:=rfl
def GKm(S:Nat->Bool)(g:TG):Prop:=∀v σ H Q Q',g v σ H Q->(∀σ' H',Q σ' H'->σ'.length=σ.length->(∀i:Nat,S i=false->σ'[i]? = σ[i]?)->Q' σ' H')->g v σ H Q'
def GKs(S:Nat->Bool)(g:TGs):Prop:=∀v σ H Q Q',g v σ H Q->(∀σ' H',Q σ' H'->σ'.length=σ.length->(∀i:Nat,S i=false->σ'[i]? = σ[i]?)->Q' σ' H')->g v σ H Q'
theorem GKm.gk{S:Nat->Bool}{t:TG}(h:GKm S t):GK S t:=fun v σ H Q q=>h v σ H Q _ q fun _ _ a b c=>⟨a,b,c⟩
theorem gkm_name{S:Nat->Bool}{i:Nat}(h:S i=true):GKm S (gName i):=fun v σ H Q Q' q k=>k _ _ q (List.length_set ..) fun j hj=>by
 rw [List.getElem?_set_ne];intro e;subst e;rw [h] at hj
 cases hj
theorem gks_nil{S:Nat->Bool}:GKs S gNil:=fun v σ H Q Q' q k=>⟨q.1,k _ _ q.2 rfl fun _ _=>rfl⟩
theorem gks_cons{S:Nat->Bool}{t:TG}{u:TGs}(h:GKm S t)(k:GKs S u):GKs S (gCons t u):=fun v σ H Q Q' q w=>by
 obtain ⟨x,r,e,q⟩:=q;refine ⟨x,r,e,h x σ H _ _ q fun σ' H' q' l1 k1=>k r σ' H' _ _ q' fun σ2 H2 q2 l2 k2=>w σ2 H2 q2 (l2.trans l1) fun i hi=>(k2 i hi).trans (k1 i hi)⟩
theorem gkm_tup{S:Nat->Bool}{u:TGs}{K:W.Frag}{n:Nat}(k:GKs S u):GKm S (gTup K n u):=fun v σ H Q Q' q w=>by
 obtain ⟨a,xs,e,h1,h2,q⟩:=q;exact ⟨a,xs,e,h1,h2,k xs σ H _ _ q w⟩
def DGk(X:Cx)(R:Rl)(S:Nat->Bool)(e:Expr)(g:PyData->En->Option En):Prop:=∃t,PG X e t/\RG X.K R t g/\GKm S t
def DGks(X:Cx)(R:Rl)(S:Nat->Bool)(es:List Expr)(gs:List (PyData->En->Option En)):Prop:=∃t,PGs X es t/\RGs X.K R t gs/\GKs S t
def DTs(X:Cx)(R:Rl)(ifs:List Expr)(f:En->Option Bool):Prop:=∃tt,PTs X ifs tt/\RT X.K R tt f
theorem dts_nil:DTs X R [] mYes:=⟨_,pts_nil,rt_yes⟩
theorem dgk_name{S:Nat->Bool}(i:Nat)(hN:X.N.Nodup)(hS:S i=true:=by rfl)(hi:X.N[i]? = some x:=by rfl)(hx:Loc X.env.scope x:=by first | exact Or.inl rfl | exact Or.inr rfl)(hf:X.fn x=true\/X.env.scope.names.lookup x=some .local:=by first | exact .inl rfl | exact .inr rfl)(hsl:R.slot i:=by first | exact True.intro | exact ⟨of_decide_eq_true rfl,of_decide_eq_true rfl⟩):DGk X R S (.Name x pos) (gVar i):=⟨_,pg_name hN hi hx hf,rg_name i hsl,gkm_name hS⟩
theorem dgks_nil{S:Nat->Bool}:DGks X R S [] []:=⟨_,pgs_nil,rgs_nil,gks_nil⟩
theorem dgks_cons{S:Nat->Bool}(h:DGk X R S e fg)(k:DGks X R S es gg)(hs:(assignEach (e::es) X.env).map (·.2)=assign e X.env::(assignEach es X.env).map (·.2):=by rfl):DGks X R S (e::es) (fg::gg):=by obtain ⟨t,h1,h2,h5⟩:=h;obtain ⟨u,h3,h4,h6⟩:=k;exact ⟨_,pgs_cons h1 h3 hs,rgs_cons h2 h4,gks_cons h5 h6⟩
theorem dgk_tup{S:Nat->Bool}{k}{n:Nat}(h:DGks X R S es gg)(hl:n=gg.length:=by rfl)(hc:X.calm=true:=by rfl)(hn:(assignEach es X.env).length=n:=by rfl)(hst:(assignEach es X.env).findIdx? (·.1)=none:=by rfl):DGk X R S (.Tuple es k pos) (gTupD gg):=by
 obtain ⟨t,h1,h2,h3⟩:=h;exact ⟨_,pg_tup hc h1 hn hst,rg_tup hl h2,gkm_tup h3⟩
variable {osc sc:Scope} {N':List Str} {ix:List (Option Nat)} {ifs:List Expr} {elt iter:Expr} {fe:En->Option Sl}
theorem de_lc {N : List Str} (ho : X.env.scope = osc) (hN : X.N = N) (ix : List (Option Nat)) (sb : En -> En) (hx : ∀ (HB : Hp) (σ : L2.St) (ρ : En) (H0 H : Hp), R.r HB H0 H σ ρ -> R'.r (fun _ => none) H0 H (subS ix σ) (sb ρ)) (hi : DI X R tg iter fi) (hg : ∀ b : CB, DGk (cxC X osc sc N' b) R' (slotS ix) tg fg) (ht : ∀ b : CB, DTs (cxC X osc sc N' b) R' ifs ft) (he : ∀ b : CB, DE (cxC X osc sc N' b) R' elt fe)
 (hcs:csOk osc sc N N' ix=true:=by decide +kernel) (hc:X.calm=true:=by rfl)
 (hs:∀x,foldedSetIterable iter X.env x=pure x:=by intro _;rfl):DE X R (.ListComp elt [⟨tg,iter,ifs,0⟩] sc pos) (mLC sb fi fg ft fe):=by
 obtain ⟨wi,h1,h2⟩:=hi
 exact ⟨_,pe_lc (g:=fun b=>(hg b).choose) (tt:=fun b=>(ht b).choose) (te:=fun b=>(he b).choose) hc ho hN hcs h1 (fun b=>⟨(hg b).choose_spec.1,(ht b).choose_spec.1,(he b).choose_spec.1⟩) (fun b=>(hg b).choose_spec.2.2.gk) hs,
  re_lc hx h2 (fun b=>(hg b).choose_spec.2.1) (fun b=>(ht b).choose_spec.2) (fun b=>(he b).choose_spec.2)⟩
theorem ds_setC {N : List Str} (ho : X.env.scope = osc) (hN : X.N = N) (i : Nat) (ix : List (Option Nat)) (sb : En -> En) (hx : ∀ (HB : Hp) (σ : L2.St) (ρ : En) (H0 H : Hp), R.r HB H0 H σ ρ -> R'.r (fun _ => none) H0 H (subS ix σ) (sb ρ)) {py spos : Pos} (hnd : X.N.Nodup) (hi : DI X R tg iter fi) (hg : ∀ b : CB, DGk (cxC X osc sc N' b) R' (slotS ix) tg fg) (ht : ∀ b : CB, DTs (cxC X osc sc N' b) R' ifs ft) (he : ∀ b : CB, DE (cxC X osc sc N' b) R' elt fe)
 (hi':X.N[i]? = some y:=by rfl) (hy:X.env.scope.names.lookup y=some .local:=by rfl) (hsw:swapsWith (.ListComp elt [⟨tg,iter,ifs,0⟩] sc pos) (some (.Name y py)) spos.line X.env=pure true:=by rfl)
 (hcs:csOk osc sc N N' ix=true:=by decide +kernel) (hc:X.calm=true:=by rfl)
 (hs:∀x,foldedSetIterable iter X.env x=pure x:=by intro _;rfl) (hsl:R.slot i:=by first | exact True.intro | exact ⟨of_decide_eq_true rfl,of_decide_eq_true rfl⟩):DS X R (.Assign [.Name y py] (.ListComp elt [⟨tg,iter,ifs,0⟩] sc pos) spos) (mAsg i (mLC sb fi fg ft fe)):=by
 obtain ⟨wi,h1,h2⟩:=hi
 exact ⟨_,ps_setC (g:=fun b=>(hg b).choose) (tt:=fun b=>(ht b).choose) (te:=fun b=>(he b).choose) hnd hi' hy hsw hc ho hN hcs h1 (fun b=>⟨(hg b).choose_spec.1,(ht b).choose_spec.1,(he b).choose_spec.1⟩) (fun b=>(hg b).choose_spec.2.2.gk) hs,
  rs_asgC hsl (re_lc hx h2 (fun b=>(hg b).choose_spec.2.1) (fun b=>(ht b).choose_spec.2) (fun b=>(he b).choose_spec.2))⟩
end
end Dm
namespace Dm
open PySem PySem.Spec PyProof.Rows L2 Tf
def cnt:L2.St->Nat
 | []=>0
 | none::r=>cnt r
 | some _::r=>cnt r+1
theorem cnt_le:∀l:L2.St,cnt l<=l.length
 | []=>Nat.le_refl _
 | none::r=>Nat.le_succ_of_le (cnt_le r)
 | some _::r=>Nat.succ_le_succ (cnt_le r)
theorem cnt_some:∀ {l:L2.St} {j:Nat} {u v:V},l[j]? = some (some u)->cnt (l.set j (some v))=cnt l
 | [],_,_,_,h=>by simp at h
 | o::r,0,u,v,h=>by simp at h;subst h;rfl
 | o::r,j+1,u,v,h=>by
  have:=cnt_some (l:=r) (j:=j) (u:=u) (v:=v) (by simpa using h)
  cases o <;> simp [cnt,this]
theorem cnt_none:∀ {l:L2.St} {j:Nat} {v:V},l[j]? = some none->cnt (l.set j (some v))=cnt l+1
 | [],_,_,h=>by simp at h
 | o::r,0,v,h=>by simp at h;subst h;rfl
 | o::r,j+1,v,h=>by
  have:=cnt_none (l:=r) (j:=j) (v:=v) (by simpa using h)
  cases o <;> simp [cnt,this]
structure OA (C:Addr) (names:List Str) (HB H0 H:Hp) (p:Addr) (vals:L2.St):Prop where
 hp:HB p=none
 h0p:H0 p=none
 len:vals.length=names.length
 ins:∃dx fs,H p=some (.ins C dx fs)/\fs.length<=cnt vals/\(∀(j:Nat) f,names[j]? = some f->fs.lookup f=(vals[j]?).join)/\∀f,f ∉ names->fs.lookup f=none
section
variable {K:W.Frag} {C:Addr} {names:List Str}
theorem OA.ext{HB H0 H H0' H':Hp}{p:Addr}{vals:L2.St}(x:Ext H0 H H0' H')(o:OA C names HB H0 H p vals):OA C names HB H0' H' p vals:=by
 obtain ⟨dx,fs,h1,h2⟩:=o.ins;exact ⟨o.hp,x.own p _ h1 o.h0p,o.len,dx,fs,x.s _ _ h1,h2⟩
theorem OA.other{HB H0 H:Hp}{p a:Addr}{vals:L2.St}{vs:List V}{u:HO}(o:OA C names HB H0 H p vals)(h:H a=some (.lst vs)):OA C names HB H0 (upd H a u) p vals:=by
 obtain ⟨dx,fs,h1,h2⟩:=o.ins;have hne:p≠a:=by rintro rfl;rw [h1] at h;cases h
 exact ⟨o.hp,o.h0p,o.len,dx,fs,by rw [upd_ne hne];exact h1,h2⟩
theorem OA.frz{HB H0 H:Hp}{p a:Addr}{vals:L2.St}{vs:List V}{u:HO}(o:OA C names HB H0 H p vals)(h:H a=some (.lst vs)):OA C names HB (upd H0 a u) H p vals:=by
 obtain ⟨dx,fs,h1,h2⟩:=o.ins;have hne:p≠a:=by rintro rfl;rw [h1] at h;cases h
 exact ⟨o.hp,by rw [upd_ne hne];exact o.h0p,o.len,dx,fs,h1,h2⟩
theorem OA.base{HB HB' H0 H:Hp}{p:Addr}{vals:L2.St}(s:Same HB HB')(o:OA C names HB' H0 H p vals):OA C names HB H0 H p vals:=⟨s.free o.hp,o.h0p,o.len,o.ins⟩
theorem ER.base{HB HB' H0 H:Hp}{σ:L2.St}{ρ:En}(s:Same HB HB')(e:ER K HB' H0 H σ ρ):ER K HB H0 H σ ρ:=
 ⟨e.len,fun i r h=>by obtain ⟨v,h1,h2⟩:=e.get i r h;exact ⟨v,h1,h2.base s⟩,e.apart⟩
theorem ER.updO{HB H0 H:Hp}{σ:L2.St}{ρ:En}{p:Addr}{o:HO}(e:ER K HB H0 H σ ρ)(hp:∀vs,H p≠some (.lst vs)):ER K HB H0 (upd H p o) σ ρ:=
 ⟨e.len,fun i r h=>by
  obtain ⟨v,h1,h2⟩:=e.get i r h;refine ⟨v,h1,?_⟩
  cases r with
  | val d=>exact h2
  | own ds=>
   obtain ⟨a,vs,rfl,q1,q2,q3,q4⟩:=h2;exact ⟨a,vs,rfl,q1,q2,by rw [upd_ne (by rintro rfl;exact hp _ q3)];exact q3,q4⟩,e.apart⟩
structure OD where
 C:Addr
 names:List Str
 s:Nat
 n:Nat
 p:Addr
def FR(K:W.Frag)(od:OD):Rl:=
 ⟨fun HB H0 H σ ρ=>σ.length=od.n/\∃p vals,p=od.p/\σ[od.s]? = some (some (.ref p))/\OA od.C od.names HB H0 H p vals/\ER K HB H0 H (σ++vals) ρ,fun i=>i≠od.s/\i<od.n⟩
theorem app_set{σ vals:L2.St}{i:Nat}{v:Option V}(h:i<σ.length):(σ++vals).set i v=σ.set i v++vals:=by
 rw [List.set_append_left _ _ h]
theorem app_setR{σ vals:L2.St}{j:Nat}{v:Option V}:(σ++vals).set (σ.length+j) v=σ++vals.set j v:=by
 rw [List.set_append_right _ _ (Nat.le_add_right _ _),Nat.add_sub_cancel_left]
instance relOk_FR {od:OD}:RelOk K (FR K od) where
 ext:=fun x ⟨h1,p,vals,hpp,h2,h3,h4⟩=>⟨h1,p,vals,hpp,h2,h3.ext x,h4.ext x⟩
 get:=fun ⟨h1,p,vals,hpp,h2,h3,h4⟩ hs h=>by
  obtain ⟨v,e1,e2⟩:=h4.get _ _ h;rw [List.getElem?_append_left (by rw [h1];exact hs.2)] at e1
  exact ⟨v,e1,e2⟩
 set:=fun {HB H0 H H0' H' σ ρ i v s} ⟨h1,p,vals,hpp,h2,h3,h4⟩ hs x sb h=>by
  refine ⟨by rw [List.length_set];exact h1,p,vals,hpp,by rw [List.getElem?_set_ne hs.1];exact h2,h3.ext x,?_⟩;have:=h4.set (i:=i) x sb h;rw [app_set (by rw [h1];exact hs.2)] at this
  exact this
 write:=fun {HB H0 H σ ρ i a ds es vs ys} ⟨h1,p,vals,hpp,h2,h3,h4⟩ hs hi hσ hb h0 ha hr=>by
  refine ⟨h1,p,vals,hpp,h2,h3.other ha,?_⟩;exact h4.write hi (by rw [List.getElem?_append_left (by rw [h1];exact hs.2)];exact hσ) hb h0 hr
 frz:=fun ⟨h1,p,vals,hpp,h2,h3,h4⟩ _ hi x=>by
  obtain ⟨a,vs,ha,x',e'⟩:=h4.frz hi x;exact ⟨_,x',h1,p,vals,hpp,h2,h3.frz ha,e'⟩
variable {od:OD}
theorem fld_at {HB H0 H : Hp} {σ : L2.St} {ρ : En} {j : Nat} {f : Str} {r : Sl} (e : ST (FR K od) HB H0 H σ ρ) (hj : od.names[j]? = some f) (h : ρ[od.n + j]? = some (some r)) :
 ∃p dx fs v,σ[od.s]? = some (some (.ref p))/\H p=some (.ins od.C dx fs)/\fs.lookup f=some v/\SlH K HB H0 H v r:=by
 obtain ⟨h1,p,vals,hpp,h2,h3,h4⟩:=e.r;obtain ⟨v,e1,e2⟩:=h4.get _ _ h;rw [<-h1,List.getElem?_append_right (Nat.le_add_right _ _),Nat.add_sub_cancel_left] at e1
 obtain ⟨dx,fs,q1,q2,q3,q4⟩:=h3.ins;exact ⟨p,dx,fs,v,h2,q1,by rw [q3 j f hj,e1];rfl,e2⟩
theorem rp_fld{j:Nat}{f:Str}(hc:Cls K od.C)(hn:NoAttr K od.C f)(hj:od.names[j]? = some f):RP K (FR K od) (tFld K (tVar od.s) f) (mPk (od.n+j)):=fun HB σ ρ H0 H s e r hr Q q=>by
 obtain ⟨p,dx,fs,v,h1,h2,h3,h4⟩:=fld_at e hj (join_some hr);exact ⟨.ref p,h1,p,od.C,dx,fs,v,rfl,h2,hc,hn,h3,q v H0 H (Ext.refl s) h4.p⟩
theorem re_fld{j:Nat}{f:Str}(hc:Cls K od.C)(hn:NoAttr K od.C f)(hj:od.names[j]? = some f):RE K (FR K od) (tFld K (tVar od.s) f) (mVar (od.n+j)):=fun HB σ ρ H0 H s e r hr Q q=>by
 unfold mVar at hr
 cases ej:(ρ[od.n+j]?).join with
 | none=>rw [ej] at hr;cases hr
 | some r' =>
  rw [ej] at hr
  cases r' with
  | own _=>cases hr
  | val d=>
   cases hr
   obtain ⟨p,dx,fs,v,h1,h2,h3,h4⟩:=fld_at e hj (join_some ej);exact ⟨.ref p,h1,p,od.C,dx,fs,v,rfl,h2,hc,hn,h3,q v H0 H (Ext.refl s) h4⟩
theorem putF_has{f:Str}{v u:V}:∀ {fs:List (Str×V)},fs.lookup f=some u->(putF f v fs).length=fs.length
 | [],h=>by cases h
 | (g,x)::r,h=>by
  show (if g=f then (g,v)::r else (g,x)::putF f v r).length=_
  split
  . rfl
  . rename_i hg;have:(f==g)=false:=beq_eq_false_iff_ne.mpr fun z=>hg z.symm;rw [List.lookup,this] at h
    rw [List.length_cons,List.length_cons,putF_has h]
theorem rs_fld {te : TE} {fe : En -> Option Sl} {j : Nat} {f : Str} (hc : Cls K od.C) (hn : NoAttr K od.C f) (hj : od.names[j]? = some f) (hnd : od.names.Nodup) (hlt : od.names.length < 1000) (h : RE K (FR K od) te fe) :
 RS K (FR K od) (sFld K (tVar od.s) te f) (mAsg (od.n+j) fe):=fun HB S0 σ ρ H0 H x e o ho D d=>by
 obtain ⟨r,hr,rfl⟩:=Option.map_eq_some_iff.mp ho;refine h HB σ ρ H0 H x.s1 e r hr _ fun v H1 J1 x1 p1=> ?_;obtain ⟨h1,p,vals,hpp,h2,h3,h4⟩:=e.r;have oa:=h3.ext x1;obtain ⟨dx,fs,q1,q2,q3,q4⟩:=oa.ins;have e1:=h4.set (i:=od.n+j) x1 x.s p1;rw [<-h1,app_setR] at e1
 have xx:=(x.chain x1).write oa.hp oa.h0p (.ins od.C dx (putF f v fs));have hjl:j<vals.length:=by rw [h3.len];exact (List.getElem?_eq_some_iff.mp hj).1
 refine ⟨.ref p,h2,p,od.C,dx,fs,rfl,q1,hc,hn,by have:=cnt_le vals;have:=h3.len;omega,?_⟩;refine d σ H1 _ xx ⟨⟨h1,p,vals.set j (some v),hpp,h2,⟨oa.hp,oa.h0p,by rw [List.length_set];exact h3.len,dx,_,upd_same,?_,fun k g hk=> ?_,fun g hg=> ?_⟩,?_⟩⟩
 . cases hv:vals[j]? with
   | none=>rw [List.getElem?_eq_none_iff] at hv;omega
   | some ov=>
    cases ov with
    | none=>rw [cnt_none hv];have:=length_putF f v fs;omega
    | some u=>
     rw [cnt_some hv,putF_has (u:=u) (by rw [q3 j f hj,hv];rfl)];exact q2
 . rw [lookup_putF]
   split
   . rename_i hg;subst hg;have:k=j:=nodup_ix hnd hk hj;subst this;rw [List.getElem?_set_self (by exact hjl)];rfl
   . rename_i hg;have:j≠k:=by rintro rfl;rw [hj] at hk;exact hg (Option.some.inj hk).symm
     rw [List.getElem?_set_ne this];exact q3 k g hk
 . rw [lookup_putF,if_neg]
   . exact q4 g hg
   . rintro rfl;exact hg (List.mem_of_getElem? hj)
 . rw [h1] at e1
   exact e1.updO fun vs z=>by rw [q1] at z;cases z
theorem own_fld {HB H0 H : Hp} {σ : L2.St} {ρ : En} {j : Nat} {f : Str} {ds : List PyData} (e : ST (FR K od) HB H0 H σ ρ) (hj : od.names[j]? = some f) (h : (ρ[od.n + j]?).join = some (.own ds)) :
 ∃p dx fs a vs,σ[od.s]? = some (some (.ref p))/\H p=some (.ins od.C dx fs)/\fs.lookup f=some (.ref a)/\HB a=none/\H0 a=none/\H a=some (.lst vs)/\Reps K H0 vs ds /\
  ∀(H0' H':Hp) ys es,Ext H0 H H0' H'->Reps K H0' ys es->ST (FR K od) HB H0' (upd H' a (.lst ys)) σ (ρ.set (od.n+j) (some (.own es))):=by
 obtain ⟨h1,p,vals,hpp,h2,h3,h4⟩:=e.r;obtain ⟨v,e1,a,vs,rfl,g1,g2,g3,g4⟩:=h4.get _ _ (join_some h);have e1':=e1;rw [<-h1,List.getElem?_append_right (Nat.le_add_right _ _),Nat.add_sub_cancel_left] at e1
 obtain ⟨dx,fs,q1,q2,q3,q4⟩:=h3.ins;refine ⟨p,dx,fs,a,vs,h2,q1,by rw [q3 j f hj,e1];rfl,g1,g2,g3,g4,fun H0' H' ys es x hr=> ?_⟩;exact ⟨h1,p,vals,hpp,h2,(h3.ext x).other (x.s _ _ g3),(h4.ext x).write (join_some h) e1' g1 (x.own _ _ g3 g2) hr⟩
theorem rs_appF{te:TE}{fe:En->Option Sl}{j:Nat}{f:Str}(hc:Cls K od.C)(hn:NoAttr K od.C f)(hj:od.names[j]? = some f)(h:RE K (FR K od) te fe):RS K (FR K od) (tDrop (tBM K "list" rAppend (tFld K (tVar od.s) f) (tCons te tNil))) (mApp (od.n+j) fe):=fun HB S0 σ ρ H0 H x e o ho D d=>by
 unfold mApp at ho
 split at ho
 . rename_i ds hown;obtain ⟨r,hr,ho⟩:=Option.bind_eq_some_iff.mp ho
   split at ho
   . rename_i hl
     cases ho
     obtain ⟨p,dx,fs,a,vs,h1,h2,h3,g1,g2,g3,g4,wr⟩:=own_fld e hj hown;refine ⟨.ref p,h1,p,od.C,dx,fs, .ref a,rfl,h2,hc,hn,h3, .inl ⟨rfl,vs,SqL.of g3⟩,?_⟩;refine h.rv HB σ ρ H0 H x.s1 e r.dat (by unfold mDat;rw [hr];rfl) _ fun v H1 J1 x1 p1=> ?_;refine ⟨a,vs,v,rfl,rfl,x1.s _ _ g3,by rw [g4.length];exact hl,?_⟩;exact d σ H1 _ ((x.chain x1).write g1 (x1.own a _ g3 g2) _) (wr H1 J1 _ _ x1 (Tf.Reps.snoc (Reps.same x1.s0 g4) p1))
   . cases ho
 . cases ho
theorem rs_setF{te tj:TE}{fe fj:En->Option Sl}{j:Nat}{f:Str}(hc:Cls K od.C)(hn:NoAttr K od.C f)(hj:od.names[j]? = some f)(h:RE K (FR K od) te fe)(hk:RP K (FR K od) tj fj):RS K (FR K od) (tAsg te (gSub (tFld K (tVar od.s) f) tj rSetL)) (mSet (od.n+j) fj fe):=fun HB S0 σ ρ H0 H x e o ho D d=>by
 obtain ⟨r,hr,ho⟩:=Option.bind_eq_some_iff.mp ho
 split at ho
 . rename_i ds hown;obtain ⟨k,hkk,ho⟩:=Option.bind_eq_some_iff.mp ho
   split at ho
   . rename_i k;obtain ⟨i,hix,rfl⟩:=Option.map_eq_some_iff.mp ho;refine h.rv HB σ ρ H0 H x.s1 e r.dat (by unfold mDat;rw [hr];rfl) _ fun v H1 J1 x1 p1=> ?_;obtain ⟨p,dx,fs,a,vs,h1,h2,h3,g1,g2,g3,g4,wr⟩:=own_fld (e.ext (K:=K) x1) hj hown;refine ⟨.ref p,h1,p,od.C,dx,fs, .ref a,rfl,h2,hc,hn,h3,?_⟩;refine hk HB σ ρ H1 J1 x1.s1 (e.ext (K:=K) x1) _ hkk _ fun w H2 J2 x2 p2=> ?_;refine ⟨a,vs,k,i,rfl,p2.int,x2.s _ _ g3,by rw [g4.length];exact hix,?_⟩;exact d σ H2 _ (((x.chain x1).chain x2).write g1 (x2.own a _ g3 g2) _) (wr H2 J2 _ _ x2 (Reps.set (Rep.same x2.s0 p1) i (Reps.same x2.s0 g4)))
   . cases ho
 . cases ho
def spM(K:W.Frag)(C:Addr)(names:List Str)(F:En->List PyData->Option (En×PyData)):Sp:=fun vs H Q _=>∃HB H0 p vals φ ds φ' d vs',vs = .ref p::vs'/\Same HB H/\Same H0 H/\OA C names HB H0 H p vals/\ER K HB H0 H vals φ/\Reps K H0 vs' ds/\F φ ds=some (φ',d) /\
 ∀v H0' H' vals',Ext H0 HB H0' H'->OA C names HB H0' H' p vals'->ER K HB H0' H' vals' φ'->Rep K H0' v d->Q v H'
open Classical in
noncomputable def hole(H:Hp)(p:Addr)(vals:L2.St)(φ:En):Hp:=fun b=>if b=p\/∃(j:Nat) (ds:List PyData),φ[j]? = some (some (.own ds))/\vals[j]? = some (some (.ref b)) then none else H b
theorem hole_same{H:Hp}{p:Addr}{vals:L2.St}{φ:En}:Same (hole H p vals φ) H:=fun b o h=>by
 unfold hole at h
 split at h
 . cases h
 . exact h
theorem meth_call {HB S0 H0 H : Hp} {σ : L2.St} {ρ : En} {vs' : List V} {ds : List PyData} {F : En -> List PyData -> Option (En × PyData)} {φ' : En} {dd : PyData} {Q : VK} {E : XK} (x : Ext S0 HB H0 H) (e : ST (FR K od) HB H0 H σ ρ) (hr : Reps K H0 vs' ds) (hF : F (ρ.drop od.n) ds = some (φ', dd))
 (q:∀v H0' H',Ext S0 HB H0' H'->ST (FR K od) HB H0' H' σ (ρ.take od.n++φ')->Rep K H0' v dd->Q v H'):∃p dx fs,σ[od.s]? = some (some (.ref p))/\H p=some (.ins od.C dx fs)/\(∀m,m ∉ od.names->fs.lookup m=none)/\spM K od.C od.names F (.ref p::vs') H Q E:=by
 obtain ⟨h1,p,vals,hpp,h2,h3,h4⟩:=e.r;obtain ⟨dx,fs,q1,q2,q3,q4⟩:=h3.ins;have lρ:ρ.length=od.n+vals.length:=by rw [<-h4.len,List.length_append,h1]
 have fi:∀(j:Nat),(ρ.drop od.n)[j]? = ρ[od.n+j]? :=fun j=>List.getElem?_drop;have si:∀(j:Nat),(σ++vals)[od.n+j]? = vals[j]? :=fun j=>by rw [<-h1,List.getElem?_append_right (Nat.le_add_right _ _),Nat.add_sub_cancel_left]
 refine ⟨p,dx,fs,h2,q1,q4,hole H p vals (ρ.drop od.n),H0,p,vals,ρ.drop od.n,ds,φ',dd,vs',rfl,hole_same,x.s1,⟨?_,h3.h0p,h3.len,h3.ins⟩,?_,hr,hF,fun v H0' H' vals' x' o' e' r' => ?_⟩
 . unfold hole;rw [if_pos (.inl rfl)]
 . refine ⟨by rw [List.length_drop,lρ];omega,fun j s hs=> ?_,fun i j a xs ys hij g1 g2 g3 g4=> ?_⟩
   . rw [fi] at hs
     obtain ⟨v,e1,e2⟩:=h4.get _ _ hs;rw [si] at e1
     refine ⟨v,e1,?_⟩
     cases s with
     | val d=>exact e2
     | own es=>
      obtain ⟨a,ws,rfl,k1,k2,k3,k4⟩:=e2;refine ⟨a,ws,rfl,?_,k2,k3,k4⟩;unfold hole;rw [if_pos (.inr ⟨j,es,by rw [fi];exact hs,e1⟩)]
   . rw [fi] at g1 g2
     exact h4.apart (od.n+i) (od.n+j) a xs ys (by omega) g1 g2 (by rw [si];exact g3) (by rw [si];exact g4)
 . -- behind the call
   have out:∀b,HB b≠none->hole H p vals (ρ.drop od.n) b=H b:=by
    intro b hb;unfold hole;rw [if_neg];rintro (rfl | ⟨j,es,k1,k2⟩)
    . exact hb h3.hp
    . rw [fi] at k1
      obtain ⟨w,e1,a,ws,rfl,k3,_⟩:=h4.get _ _ k1;rw [si,k2] at e1
      cases e1
      exact hb k3
   have back:∀a,hole H p vals (ρ.drop od.n) a=none->HB a=none:=by
    intro a ha
    cases hb:HB a with
    | none=>rfl
    | some u=>
     rw [out a (by rw [hb];simp),x.s a u hb] at ha
     cases ha
   have loc:∀(i:Nat) es a ws,i<od.n->ρ[i]? = some (some (.own es))->σ[i]? = some (some (.ref a))->H a=some (.lst ws)->hole H p vals (ρ.drop od.n) a=some (.lst ws):=by
    intro i es a ws hi k1 k2 k3;unfold hole;rw [if_neg]
    . exact k3
    . rintro (rfl | ⟨j,ts,k4,k5⟩)
      . rw [q1] at k3;cases k3
      . rw [fi] at k4
        exact h4.apart i (od.n+j) a es ts (by omega) k1 k4 (by rw [List.getElem?_append_left (by omega)];exact k2) (by rw [si];exact k5)
   have xx:Ext S0 HB H0' H':=⟨fun b u hb=>x'.s b u (by rw [out b (by rw [hb];simp)];exact x.s b u hb),x.s0.trans x'.s0,x'.s1,fun b u hb h0=>x'.own b u (by rw [out b (by rw [hb];simp)];exact x.s b u hb) (x.own b u hb h0)⟩;have lφ:φ'.length=vals'.length:=e'.len.symm;have tk:(ρ.take od.n).length=od.n:=by rw [List.length_take,lρ];omega
   have left:∀(i:Nat),i<od.n->(ρ.take od.n++φ')[i]? = ρ[i]? :=fun i hi=>by rw [List.getElem?_append_left (by omega),List.getElem?_take_of_lt hi]
   have right:∀(i:Nat),od.n<=i->(ρ.take od.n++φ')[i]? = φ'[i - od.n]? :=fun i hi=>by rw [List.getElem?_append_right (by omega),tk]
   have sl:∀(i:Nat),i<od.n->(σ++vals')[i]? = σ[i]? :=fun i hi=>List.getElem?_append_left (by omega);have sr:∀(i:Nat),od.n<=i->(σ++vals')[i]? = vals'[i - od.n]? :=fun i hi=>by rw [List.getElem?_append_right (by omega),h1]
   have lown:∀(i:Nat) es a,i<od.n->ρ[i]? = some (some (.own es))->σ[i]? = some (some (.ref a))->∃ws,H a=some (.lst ws)/\HB a=none/\H0 a=none/\Reps K H0 ws es:=by
    intro i es a hi k1 k2;obtain ⟨v,e1,b,ws,rfl,k3,k4,k5,k6⟩:=h4.get _ _ k1;rw [List.getElem?_append_left (by omega),k2] at e1
    cases e1
    exact ⟨ws,k5,k3,k4,k6⟩
   refine q v H0' H' xx ⟨h1,p,vals',hpp,h2,⟨h3.hp,o'.h0p,o'.len,o'.ins⟩,?_,fun i s hs=> ?_,fun i j a xs ys hij g1 g2 g3 g4=> ?_⟩ r'
   . rw [List.length_append,List.length_append,tk,lφ,h1]
   . by_cases hi:i<od.n
     . rw [left i hi] at hs
       rw [sl i hi];obtain ⟨w,e1,e2⟩:=h4.get _ _ hs;rw [List.getElem?_append_left (by omega)] at e1
       refine ⟨w,e1,?_⟩
       cases s with
       | val d=>exact Rep.same x'.s0 e2
       | own es=>
        obtain ⟨a,ws,rfl,k1,k2,k3,k4⟩:=e2;have hl:=loc i es a ws hi hs e1 k3;exact ⟨a,ws,rfl,k1,x'.own a _ hl k2,x'.s a _ hl,Reps.same x'.s0 k4⟩
     . rw [right i (by omega)] at hs
       rw [sr i (by omega)];obtain ⟨w,e1,e2⟩:=e'.get _ _ hs;refine ⟨w,e1,?_⟩
       cases s with
       | val d=>exact e2
       | own es=>
        obtain ⟨a,ws,rfl,k1,k2⟩:=e2;exact ⟨a,ws,rfl,back a k1,k2⟩
   . have mixed : ∀ (i j : Nat) xs ys, i < od.n -> od.n <= j -> (ρ.take od.n ++ φ')[i]? = some (some (.own xs)) -> (ρ.take od.n ++ φ')[j]? = some (some (.own ys)) -> (σ ++ vals')[i]? = some (some (.ref a)) -> (σ ++ vals')[j]? ≠ some (some (.ref a)) := by
      intro i j xs ys hi hj g1 g2 g3 g4;rw [left i hi] at g1
      rw [right j hj] at g2
      rw [sl i hi] at g3
      rw [sr j hj] at g4
      obtain ⟨ws,k3,_⟩:=lown i xs a hi g1 g3;have hl:=loc i xs a ws hi g1 g3 k3;obtain ⟨w,e1,b,us,rfl,k1,_⟩:=e'.get _ _ g2;rw [g4] at e1
      cases e1
      rw [hl] at k1
      cases k1
     by_cases hi:i<od.n
     . by_cases hj:j<od.n
       . rw [left i hi] at g1
         rw [left j hj] at g2
         rw [sl i hi] at g3
         rw [sl j hj] at g4
         exact h4.apart i j a xs ys hij g1 g2 (by rw [List.getElem?_append_left (by omega)];exact g3) (by rw [List.getElem?_append_left (by omega)];exact g4)
       . exact mixed i j xs ys hi (by omega) g1 g2 g3 g4
     . by_cases hj:j<od.n
       . exact mixed j i ys xs hj (by omega) g2 g1 g4 g3
       . rw [right i (by omega)] at g1
         rw [right j (by omega)] at g2
         rw [sr i (by omega)] at g3
         rw [sr j (by omega)] at g4
         exact e'.apart (i - od.n) (j - od.n) a xs ys (by omega) g1 g2 g3 g4
def mMeth(n:Nat)(F:En->List PyData->Option (En×PyData))(fa:En->Option (List PyData))(k:En->PyData->Option Out):En->Option Out:=fun ρ=>(fa ρ).bind fun ds=>(F (ρ.drop n) ds).bind fun r=>k (ρ.take n++r.1) r.2
theorem rs_methE{ta:TA}{fa:En->Option (List PyData)}{F:En->List PyData->Option (En×PyData)}{m:Str}{E:XK}(hm:m ∉ od.names)(h:RA K (FR K od) ta fa):RS K (FR K od) (tDrop (tMeth od.C m (spM K od.C od.names F) [] E (tVar od.s) ta)) (mMeth od.n F fa fun ρ _=>some (.nx ρ)):=fun HB S0 σ ρ H0 H x e o ho D d=>by
 obtain ⟨ds,hd,ho⟩:=Option.bind_eq_some_iff.mp ho;obtain ⟨⟨φ',dd⟩,hF,ho⟩:=Option.bind_eq_some_iff.mp ho
 cases ho
 obtain ⟨h1,p,vals,hpp,h2,h3,h4⟩:=e.r;obtain ⟨dx,fs,q1,q2,q3,q4⟩:=h3.ins;refine ⟨.ref p,h2,p,dx,fs,rfl,q1,q4 m hm,?_⟩;refine h HB σ ρ H0 H x.s1 e ds hd _ fun vs H1 J1 x1 p1=> ?_;rw [List.append_nil];obtain ⟨p',dx',fs',k1,k2,k3,k4⟩:=meth_call (E:=E) (x.chain x1) (e.ext (K:=K) x1) p1 hF (fun v H2 J2 x2 e2 r2=>d σ H2 J2 x2 e2);rw [h2] at k1
 cases k1
 exact k4
theorem rs_methA {ta : TA} {fa : En -> Option (List PyData)} {F : En -> List PyData -> Option (En × PyData)} {m : Str} {E : XK} {i : Nat} (hs : (FR K od).slot i) (hm : m ∉ od.names) (h : RA K (FR K od) ta fa) :
 RS K (FR K od) (tAsg (tMeth od.C m (spM K od.C od.names F) [] E (tVar od.s) ta) (gName i)) (mMeth od.n F fa fun ρ d=>some (.nx (ρ.set i (some (.val d))))):=fun HB S0 σ ρ H0 H x e o ho D d=>by
 obtain ⟨ds,hd,ho⟩:=Option.bind_eq_some_iff.mp ho;obtain ⟨⟨φ',dd⟩,hF,ho⟩:=Option.bind_eq_some_iff.mp ho
 cases ho
 obtain ⟨h1,p,vals,hpp,h2,h3,h4⟩:=e.r;obtain ⟨dx,fs,q1,q2,q3,q4⟩:=h3.ins;refine ⟨.ref p,h2,p,dx,fs,rfl,q1,q4 m hm,?_⟩;refine h HB σ ρ H0 H x.s1 e ds hd _ fun vs H1 J1 x1 p1=> ?_;rw [List.append_nil];obtain ⟨p',dx',fs',k1,k2,k3,k4⟩:=meth_call (E:=E) (x.chain x1) (e.ext (K:=K) x1) p1 hF (fun v H2 J2 x2 e2 r2=>d _ H2 J2 x2 ⟨RelOk.set (K:=K) (s:= .val dd) e2.r hs (Ext.refl x2.s1) x2.s r2⟩);rw [h2] at k1
 cases k1
 exact k4
end
end Dm
namespace Dm
open PySem PySem.Spec PyProof.Rows L2 Tf
section
variable {K:W.Frag} {C:Addr} {names:List Str}
def runM(n m k:Nat)(g:En->Option Out):En->List PyData->Option (En×PyData):=fun φ ds=>if ds.length+1=m/\φ.length=k then (g ((none::ds.map (fun d=>some (.val d)))++List.replicate (n - (ds.length+1)) none++φ)).bind fun o=>match o with
 | .rt (.val d) ρ=>some (ρ.drop n,d)
 | .nx ρ=>some (ρ.drop n, .none)
 | _=>none else none
theorem er_self {HB H0 H : Hp} {p : Addr} {vs : List V} {ds : List PyData} {N : List Str} {vals : L2.St} {φ : En} (hn : ds.length + 1 <= N.length) (hr : Reps K H0 vs ds) (e : ER K HB H0 H vals φ) :
 ER K HB H0 H (L2.start N (.ref p::vs)++vals) ((none::ds.map (fun d=>some (.val d)))++List.replicate (N.length - (ds.length+1)) none++φ):=by
 have hl:=hr.length
 have ls:(L2.start N (.ref p::vs)).length=N.length:=by
  unfold L2.start;simp only [List.length_append,List.length_map,List.length_replicate,List.length_cons];omega
 have lr:((none::ds.map (fun d=>some (Sl.val d)))++List.replicate (N.length - (ds.length+1)) (none:Option Sl)).length=N.length:=by
  simp only [List.length_append,List.length_map,List.length_replicate,List.length_cons];omega
 have lv:∀(i:Nat) s,i<N.length->((none::ds.map (fun d=>some (Sl.val d)))++List.replicate (N.length - (ds.length+1)) (none:Option Sl))[i]? = some (some s)->∃j d,i=j+1/\ds[j]? = some d/\s = .val d:=by
  intro i s hi hs
  cases i with
  | zero=>cases hs
  | succ j=>
   by_cases hj:j<ds.length
   . rw [List.cons_append,List.getElem?_cons_succ,List.getElem?_append_left (by simpa using hj),List.getElem?_map,List.getElem?_eq_getElem hj] at hs
     cases hs
     exact ⟨j,_,rfl,List.getElem?_eq_getElem hj,rfl⟩
   . rw [List.cons_append,List.getElem?_cons_succ,List.getElem?_append_right (by simpa using hj),List.getElem?_replicate] at hs
     split at hs <;> cases hs
 refine ⟨by rw [List.length_append,List.length_append,ls,lr,e.len],fun i s hs=> ?_,fun i j a xs ys hij g1 g2 g3 g4=> ?_⟩
 . by_cases hi:i<N.length
   . rw [List.getElem?_append_left (by omega)] at hs ⊢
     obtain ⟨j,d,rfl,hd,rfl⟩:=lv i s hi hs;obtain ⟨v,h1,h2⟩:=Tf.Reps.get hr hd;refine ⟨v,?_,h2⟩;unfold L2.start;have hj:j<vs.length:=(List.getElem?_eq_some_iff.mp h1).1;rw [List.map_cons,List.cons_append,List.getElem?_cons_succ,List.getElem?_append_left (by simpa using hj),List.getElem?_map,h1];rfl
   . rw [List.getElem?_append_right (by omega),lr] at hs
     rw [List.getElem?_append_right (by omega),ls];exact e.get _ _ hs
 . have big : ∀ (i : Nat) xs, ((none :: ds.map (fun d => some (Sl.val d))) ++ List.replicate (N.length - (ds.length + 1)) (none : Option Sl) ++ φ)[i]? = some (some (.own xs)) -> N.length <= i := by
    intro i xs h
    by_cases hi:i<N.length
    . rw [List.getElem?_append_left (by omega)] at h
      obtain ⟨_,_,_,_,z⟩:=lv i _ hi h
      cases z
    . omega
   have b1:=big i xs g1;have b2:=big j ys g2;rw [List.getElem?_append_right (by omega),lr] at g1 g2
   rw [List.getElem?_append_right (by omega),ls] at g3 g4
   exact e.apart _ _ a xs ys (by omega) g1 g2 g3 g4
section
variable {P:Program} {w:World} {mg:Str->Option Value} {base:Heap}
theorem fnM {x qual : Str} {st : Stmt} {f : Addr} {fd : FuncData} {N ps : List Str} {k n m l : Nat} {g : En -> Option Out} (F : Fun K x qual st f fd) (S : FnScope N ps (defScope st)) (hn : N.length = n) (hm : ps.length = m) (hl : names.length = l)
 (hb:∀(cdv:Value) (A:Around) (outer:List Env) (s:Shared) (H:Hp) (E:XK) (p:Addr),Room k (A.deeper (envOfC qual (defScope st) s.heap.objs.size f cdv))->DSs (cxOf CX0 P w K mg base N qual (defScope st) f cdv A outer s H E).nox (FR K ⟨C,names,0,n,p⟩) (defBody st) g) :
 FnOk P w K mg base CX0 (k+1) f fd ps (spM K C names (runM n m l g)):=by
 subst hn hm hl;have hpl:ps.length<=N.length:=by have:=congrArg List.length S.pre;rw [List.length_take] at this;omega
 refine F.ok S (fun vs H Q E h=> ?_) fun cdv A outer s H vs Q E hr h=> ?_
 . obtain ⟨HB,H0,p,vals,φ,ds,φ',d,vs',rfl,s1,s2,oa,er,hr,hf,_⟩:=h;unfold runM at hf
   split at hf
   . rename_i hl;rw [List.length_cons,hr.length];exact hl.1
   . cases hf
 . obtain ⟨HB,H0,p,vals,φ,ds,φ',d,vs',rfl,s1,s2,oa,er,hr',hf,q⟩:=h;obtain ⟨t,ht,rs⟩:=hb cdv A outer s H E p hr;refine ⟨t,ht,?_⟩;have hr:=hr';unfold runM at hf
   split at hf
   . rename_i hl;obtain ⟨o,ho,hf⟩:=Option.bind_eq_some_iff.mp hf;have hvl:=hr.length
     have ls:(L2.start N (.ref p::vs')).length=N.length:=by
      unfold L2.start;simp only [List.length_append,List.length_map,List.length_replicate,List.length_cons];omega
     refine rs HB H0 _ _ H0 H ⟨s1,Same.refl _,s2,fun _ _ _ h=>h⟩ ⟨⟨ls,p,vals,rfl,rfl,oa,er_self (by omega) hr er⟩⟩ o ho _ ?_
     have fin:∀ {σ:L2.St} {H1 J1:Hp} {ρ:En} {v:V} {dd:PyData},Ext H0 HB H1 J1->ST (FR K ⟨C,names,0,N.length,p⟩) HB H1 J1 σ ρ->Rep K H1 v dd->(ρ.drop N.length,dd)=(φ',d)->Q v J1:=by
      intro σ H1 J1 ρ v dd x e r he;obtain ⟨h1,p',vals',hpp,h2,h3,h4⟩:=e.r
      cases he
      cases hpp
      refine q v H1 J1 vals' x h3 ⟨?_,fun i s hs=> ?_,fun i j a xs ys hij g1 g2 g3 g4=> ?_⟩ r
      . have:=h4.len;rw [List.length_append,h1] at this
        rw [List.length_drop];show _=_ - _;have hh:(⟨C,names,0,N.length,p⟩:OD).n=N.length:=rfl;omega
      . rw [List.getElem?_drop] at hs
        obtain ⟨w,e1,e2⟩:=h4.get _ _ hs;rw [List.getElem?_append_right (by rw [h1];exact Nat.le_add_right _ _),h1] at e1
        refine ⟨w,?_,e2⟩;have hh:(⟨C,names,0,N.length,p⟩:OD).n=N.length:=rfl;rw [hh,Nat.add_sub_cancel_left] at e1
        exact e1
      . have si : ∀ i : Nat, (σ ++ vals')[N.length + i]? = vals'[i]? := fun i => by
         have hh:(⟨C,names,0,N.length,p⟩:OD).n=N.length:=rfl;rw [List.getElem?_append_right (by rw [h1];exact Nat.le_add_right _ _),h1,hh,Nat.add_sub_cancel_left]
        rw [List.getElem?_drop] at g1 g2
        exact h4.apart _ _ a xs ys (by omega) g1 g2 (by rw [si];exact g3) (by rw [si];exact g4)
     cases o with
     | rt r ρ=>
      cases r with
      | val dd=>exact fun v σ H1 J1 a b c=>fin a b c (Option.some.inj hf)
      | own _=>cases hf
     | nx ρ=>exact fun σ H1 J1 a b=>fin (v:= .non) a b .none (Option.some.inj hf)
     | bk _=>cases hf
     | ct _=>cases hf
   . cases hf
end
end
end Dm
namespace Dm
open PySem PySem.Spec PyProof.Rows L2 Tf
section
variable {K:W.Frag} {C:Addr} {names:List Str} {R:Rl} [RelOk K R]
def RB(K:W.Frag)(R:Rl)(C:Addr)(names:List Str)(te:TE)(fo:En->Option En):Prop:=
 ∀(HB:Hp) (σ:L2.St) (ρ:En) (H0 H:Hp),Same H0 H->ST R HB H0 H σ ρ->∀φ,fo ρ=some φ->∀Q:VK,(∀p vals H0' H',Ext H0 H H0' H'->OA C names H H0' H' p vals->ER K H H0' H' vals φ->Q (.ref p) H')->te σ H Q
def mMake(k:Nat)(F:En->List PyData->Option (En×PyData))(fa:En->Option (List PyData)):En->Option En:=fun ρ=>(fa ρ).bind fun ds=>(F (List.replicate k none) ds).bind fun r=>match r.2 with
 | .none=>some r.1
 | _=>none
theorem rb_make{ta:TA}{fa:En->Option (List PyData)}{F:En->List PyData->Option (En×PyData)}{E:XK}{k:Nat}(hk:k=names.length)(h:RA K R ta fa):RB K R C names (tMake C (spM K C names F) [] E ta) (mMake k F fa):=fun HB σ ρ H0 H s e φ hφ Q q=>by
 subst hk;obtain ⟨ds,hd,hφ⟩:=Option.bind_eq_some_iff.mp hφ;obtain ⟨⟨φ',d⟩,hF,hφ⟩:=Option.bind_eq_some_iff.mp hφ
 have hdn:d = .none/\φ'=φ:=by
  cases d with
  | none=>cases hφ;exact ⟨rfl,rfl⟩
  | _=>cases hφ
 obtain ⟨rfl,rfl⟩:=hdn;refine h HB σ ρ H0 H s e ds hd _ fun vs H1 J1 x1 p1=> ?_;intro x dx hx hdx hne;rw [List.append_nil];have s1:Same J1 (upd (upd J1 dx (.own x)) x (.ins C dx [])):=fun b u hb=>by rw [upd_ne (ne_of_none hb hx),upd_ne (ne_of_none hb hdx)];exact hb
 refine ⟨J1,H1,x,List.replicate names.length none,List.replicate names.length none,ds,φ', .none,vs,rfl,s1,x1.s1.trans s1,⟨hx,x1.s1.free hx,List.length_replicate,dx,[],upd_same,Nat.zero_le _,fun j f hj=> ?_,fun f _=>rfl⟩,⟨by rw [List.length_replicate,List.length_replicate],fun i r hr=> ?_,fun i j a xs ys _ g1 _ _ _=> ?_⟩,p1,hF,fun v H2 J2 vals' x2 o2 e2 r2=>⟨?_,?_⟩⟩
 . show none=_;rw [List.getElem?_replicate]
   split <;> rfl
 . rw [List.getElem?_replicate] at hr
   split at hr <;> cases hr
 . rw [List.getElem?_replicate] at g1
   split at g1 <;> cases g1
 . cases r2;rfl
 . exact q x vals' H2 J2 (x1.trans x2) (o2.base x1.s) (e2.base x1.s)
def spO(K:W.Frag)(C:Addr)(names:List Str)(F:List PyData->Option En):Sp:=fun vs H Q _=>∃H0 ds φ,Same H0 H/\Reps K H0 vs ds/\F ds=some φ/\∀p vals H0' H',Ext H0 H H0' H'->OA C names H H0' H' p vals->ER K H H0' H' vals φ->Q (.ref p) H'
def mCallO(F:List PyData->Option En)(fa:En->Option (List PyData)):En->Option En:=fun ρ=>(fa ρ).bind F
theorem rb_call{ta:TA}{fa:En->Option (List PyData)}{F:List PyData->Option En}{E:XK}(h:RA K R ta fa):RB K R C names (tCall (spO K C names F) [] E ta) (mCallO F fa):=fun HB σ ρ H0 H s e φ hφ Q q=>by
 obtain ⟨ds,hd,hφ⟩:=Option.bind_eq_some_iff.mp hφ;refine h HB σ ρ H0 H s e ds hd _ fun vs H1 J1 x1 p1=> ?_;rw [List.append_nil];exact ⟨H1,ds,φ,x1.s1,p1,hφ,fun p vals H2 J2 x2 o2 e2=>q p vals H2 J2 (x1.trans x2) (o2.base x1.s) (e2.base x1.s)⟩
section
variable {P:Program} {w:World} {mg:Str->Option Value} {base:Heap}
def DB(X:Cx)(R:Rl)(C:Addr)(names:List Str)(e:Expr)(fo:En->Option En):Prop:=∃te,PE X e te/\RB X.K R C names te fo
def runO(n m:Nat)(fo:En->Option En):List PyData->Option En:=fun ds=>if ds.length=m then fo (ds.map (fun d=>some (.val d))++List.replicate (n - ds.length) none) else none
theorem fnO {x qual : Str} {st : Stmt} {f : Addr} {fd : FuncData} {N ps : List Str} {k n m : Nat} {fo : En -> Option En} {e : Expr} {pos : Pos} (F : Fun K x qual st f fd) (S : FnScope N ps (defScope st)) (hn : N.length = n) (hm : ps.length = m) (hst : defBody st = [.Return (some e) pos])
 (hb:∀(cdv:Value) (A:Around) (outer:List Env) (s:Shared) (H:Hp) (E:XK),Room k (A.deeper (envOfC qual (defScope st) s.heap.objs.size f cdv))->DB (cxOf CX0 P w K mg base N qual (defScope st) f cdv A outer s H E).nox (PR K) C names e fo) :
 FnOk P w K mg base CX0 (k+1) f fd ps (spO K C names (runO n m fo)):=by
 subst hn hm;refine F.ok S (fun vs H Q E h=> ?_) fun cdv A outer s H vs Q E hr h=> ?_
 . obtain ⟨H0,ds,φ,s,hr,hf,_⟩:=h;unfold runO at hf
   split at hf
   . rename_i hl;rw [hr.length,hl]
   . cases hf
 . obtain ⟨t,ht,rb⟩:=hb cdv A outer s H E hr;refine ⟨_,by rw [hst];exact pss_one (ps_ret ht),?_⟩;obtain ⟨H0,ds,φ,s0,hr,hf,q⟩:=h;unfold runO at hf
   split at hf
   . exact rb H _ _ H0 H s0 ⟨er_start hr⟩ φ hf _ fun p vals H1 J1 x1 o1 e1=>q p vals H1 J1 x1 o1 e1
   . cases hf
end
def mObj(n s:Nat)(fo:En->Option En)(g:En->Option Out):En->Option Out:=fun ρ=>if ρ.length=n then (fo ρ).bind fun φ=>(g (ρ.set s none++φ)).bind fun o=>match o with
 | .rt r _=>some (.rt r (List.replicate ρ.length none))
 | _=>none else none
theorem er_none{HB H0 H:Hp}{σ:L2.St}{n:Nat}(h:σ.length=n):ER K HB H0 H σ (List.replicate n none) :=
 ⟨by rw [List.length_replicate];exact h,fun i r hr=>(by rw [List.getElem?_replicate] at hr;split at hr <;> cases hr),fun i j a xs ys _ g1 _ _ _=>(by rw [List.getElem?_replicate] at g1;split at g1 <;> cases g1)⟩
theorem rs_obj{te:TE}{tr:TS}{fo:En->Option En}{g:En->Option Out}{s n:Nat}(h:RB K (PR K) C names te fo)(hr:∀p:Addr,RS K (FR K ⟨C,names,s,n,p⟩) tr g)(hs:s<n):RS K (PR K) (tSeq (tAsg te (gName s)) tr) (mObj n s fo g):=fun HB S0 σ ρ H0 H x e o ho D d=>by
 unfold mObj at ho
 split at ho
 . rename_i hlen;obtain ⟨φ,hφ,ho⟩:=Option.bind_eq_some_iff.mp ho;obtain ⟨o1,ho1,ho⟩:=Option.bind_eq_some_iff.mp ho;have hσ:σ.length=n:=by rw [<-hlen];exact e.r.len
   refine h HB σ ρ H0 H x.s1 e φ hφ _ fun p vals H1 J1 x1 oa er=> ?_;have e1:ER K HB H1 J1 σ ρ:=ER.ext x1 e.r;have xx:=x.chain x1;have ob:OA C names HB H1 J1 p vals:=oa.base x.s;have eb:ER K HB H1 J1 vals φ:=er.base x.s;have lf:vals.length=φ.length:=er.len
   have nown:∀(i:Nat) r,(ρ.set s none)[i]? = some (some r)->i≠s/\ρ[i]? = some (some r):=by
    intro i r hi
    by_cases z:s=i
    . subst z;rw [List.getElem?_set_self'] at hi
      cases hq:ρ[s]? with
      | none=>rw [hq] at hi;cases hi
      | some _=>rw [hq] at hi;cases hi
    . rw [List.getElem?_set_ne z] at hi
      exact ⟨fun w=>z w.symm,hi⟩
   have old:∀(i:Nat) xs a,ρ[i]? = some (some (.own xs))->σ[i]? = some (some (.ref a))->∃u,H a=some u:=by
    intro i xs a k1 k2;obtain ⟨v,g1,b,ws,rfl,_,_,g2,_⟩:=ER.get e.r i _ k1;rw [k2] at g1
    cases g1
    exact ⟨_,g2⟩
   have new:∀(j:Nat) ys a,φ[j]? = some (some (.own ys))->vals[j]? = some (some (.ref a))->H a=none:=by
    intro j ys a k1 k2;obtain ⟨v,g1,b,ws,rfl,g2,_⟩:=er.get j _ k1;rw [k2] at g1
    cases g1
    exact g2
   have l1:(ρ.set s none).length=n:=by rw [List.length_set,hlen]
   have l2:(σ.set s (some (V.ref p))).length=n:=by rw [List.length_set,hσ]
   refine hr p HB S0 _ _ H1 J1 xx ⟨⟨l2,p,vals,rfl,?_,ob,?_,fun i r hi=> ?_,fun i j a xs ys hij g1 g2 g3 g4=> ?_⟩⟩ o1 ho1 D ?_
   . show (σ.set s (some (V.ref p)))[s]? = _;rw [List.getElem?_set_self (by rw [hσ];exact hs)]
   . rw [List.length_append,List.length_append,l1,l2,lf]
   . by_cases hin:i<n
     . rw [List.getElem?_append_left (by omega)] at hi ⊢
       obtain ⟨z,hi⟩:=nown i r hi;obtain ⟨v,g1,g2⟩:=e1.get i r hi;exact ⟨v,by rw [List.getElem?_set_ne (fun w=>z w.symm)];exact g1,g2⟩
     . rw [List.getElem?_append_right (by omega),l1] at hi
       rw [List.getElem?_append_right (by omega),l2];exact eb.get _ r hi
   . have mixed : ∀ (i j : Nat) xs ys, i < n -> n <= j -> (ρ.set s none ++ φ)[i]? = some (some (.own xs)) -> (ρ.set s none ++ φ)[j]? = some (some (.own ys)) -> (σ.set s (some (V.ref p)) ++ vals)[i]? = some (some (.ref a)) -> (σ.set s (some (V.ref p)) ++ vals)[j]? ≠ some (some (.ref a)) := by
      intro i j xs ys hi hj g1 g2 g3 g4;rw [List.getElem?_append_left (by omega)] at g1 g3
      rw [List.getElem?_append_right (by omega),l1] at g2
      rw [List.getElem?_append_right (by omega),l2] at g4
      obtain ⟨z,g1⟩:=nown i _ g1;rw [List.getElem?_set_ne (fun w=>z w.symm)] at g3
      obtain ⟨u,k1⟩:=old i xs a g1 g3;rw [new _ ys a g2 g4] at k1
      cases k1
     by_cases hi:i<n
     . by_cases hj:j<n
       . rw [List.getElem?_append_left (by omega)] at g1 g2 g3 g4
         obtain ⟨z1,g1⟩:=nown i _ g1;obtain ⟨z2,g2⟩:=nown j _ g2;rw [List.getElem?_set_ne (fun w=>z1 w.symm)] at g3
         rw [List.getElem?_set_ne (fun w=>z2 w.symm)] at g4
         exact e1.apart i j a xs ys hij g1 g2 g3 g4
       . exact mixed i j xs ys hi (by omega) g1 g2 g3 g4
     . by_cases hj:j<n
       . exact mixed j i ys xs hj (by omega) g2 g1 g4 g3
       . rw [List.getElem?_append_right (by omega),l1] at g1 g2
         rw [List.getElem?_append_right (by omega),l2] at g3 g4
         exact eb.apart _ _ a xs ys (by omega) g1 g2 g3 g4
   . cases o1 with
     | rt r ρ' =>
      cases ho
      exact fun v σ' H2 J2 a b c=>d v σ' H2 J2 a ⟨by rw [hlen];exact er_none b.r.1⟩ c
     | nx _=>cases ho
     | bk _=>cases ho
     | ct _=>cases ho
 . cases ho
variable {od:OD}
theorem fr_sub0{ix:List (Option Nat)}(hx:(ix.filterMap id).Nodup:=by decide)(hn:(ix.all fun o=>match o with | some j=>decide (j<od.n) | none=>true)=true:=by rfl):∀(HB:Hp) (σ:L2.St) (ρ:En) (H0 H:Hp),(FR K od).r HB H0 H σ ρ->(PR K).r (fun _=>none) H0 H (subS ix σ) (subE ix ρ):=fun HB σ ρ H0 H e=>by
 obtain ⟨h1,p,vals,hpp,h2,h3,h4⟩:=e;have e:=ER.sub hx h4
 have:subS ix (σ++vals)=subS ix σ:=by
  unfold subS;refine List.map_congr_left fun o ho=> ?_
  cases o with
  | none=>rfl
  | some j=>
   have:=List.all_eq_true.mp hn _ ho;have hj:j<od.n:=by simpa using this
   show ((σ++vals)[j]?).join=_;rw [List.getElem?_append_left (by omega)]
 rw [this] at e
 exact e
def subF(ix:List (Option Nat))(n:Nat)(ρ:En):En:=subE ix ρ++ρ.drop n
theorem fr_sub {ix : List (Option Nat)} {s' n' : Nat} (hs : ix[s']? = some (some od.s) := by rfl) (hl : ix.length = n' := by rfl) (hx : (ix.filterMap id).Nodup := by decide) (hn : (ix.all fun o => match o with | some j => decide (j < od.n) | none => true) = true := by rfl) :
 ∀(HB:Hp) (σ:L2.St) (ρ:En) (H0 H:Hp),(FR K od).r HB H0 H σ ρ->(FR K ⟨od.C,od.names,s',n',od.p⟩).r (fun _=>none) H0 H (subS ix σ) (subF ix od.n ρ):=fun HB σ ρ H0 H e=>by
 obtain ⟨h1,p,vals,hpp,h2,h3,h4⟩:=e
 have hlt:∀(i j:Nat),ix[i]? = some (some j)->j<od.n:=fun i j h=>by
  have:=List.all_eq_true.mp hn _ (List.mem_of_getElem? h);simpa using this
 have ls:(subS ix σ).length=n':=by unfold subS;rw [List.length_map,hl]
 have le:(subE ix ρ).length=n':=by unfold subE;rw [List.length_map,hl]
 have lρ:ρ.length=od.n+vals.length:=by rw [<-h4.len,List.length_append,h1]
 have fi:∀(j:Nat),(ρ.drop od.n)[j]? = ρ[od.n+j]? :=fun j=>List.getElem?_drop;have si:∀(j:Nat),(σ++vals)[od.n+j]? = vals[j]? :=fun j=>by rw [<-h1,List.getElem?_append_right (Nat.le_add_right _ _),Nat.add_sub_cancel_left]
 have sg:∀(i j:Nat),ix[i]? = some (some j)->(subS ix σ)[i]? = some ((σ++vals)[j]?).join:=fun i j h=>by rw [subS_get h,List.getElem?_append_left (by rw [h1];exact hlt i j h)]
 refine ⟨ls,p,vals,hpp,?_,⟨rfl,h3.h0p,h3.len,h3.ins⟩,?_,fun i r hi=> ?_,fun i k a xs ys hij g1 g2 g3 g4=> ?_⟩
 . show (subS ix σ)[s']? = _;rw [subS_get hs,h2];rfl
 . unfold subF;rw [List.length_append,List.length_append,ls,le,List.length_drop,lρ];omega
 . unfold subF at hi
   by_cases hin:i<n'
   . rw [List.getElem?_append_left (by omega)] at hi ⊢
     obtain ⟨j,k1,k2⟩:=subE_get hi;obtain ⟨v,k3,k4⟩:=h4.get j r k2;refine ⟨v,by rw [sg i j k1,k3];rfl,k4.base fun _ _ h=>by cases h⟩
   . rw [List.getElem?_append_right (by omega),le,fi] at hi
     rw [List.getElem?_append_right (by omega),ls];obtain ⟨v,k3,k4⟩:=h4.get _ r hi;rw [si] at k3
     exact ⟨v,k3,k4.base fun _ _ h=>by cases h⟩
 . unfold subF at g1 g2
   have mixed:∀(i k:Nat) xs ys,i<n'->n'<=k->(subE ix ρ++ρ.drop od.n)[i]? = some (some (.own xs))->(subE ix ρ++ρ.drop od.n)[k]? = some (some (.own ys))->(subS ix σ++vals)[i]? = some (some (.ref a))->(subS ix σ++vals)[k]? ≠ some (some (.ref a)):=by
    intro i k xs ys hi hk g1 g2 g3 g4;rw [List.getElem?_append_left (by omega)] at g1 g3
    rw [List.getElem?_append_right (by omega),le,fi] at g2
    rw [List.getElem?_append_right (by omega),ls] at g4
    obtain ⟨j,k1,k2⟩:=subE_get g1;rw [sg i j k1] at g3
    exact h4.apart j (od.n+(k - n')) a xs ys (by have:=hlt i j k1;omega) k2 g2 (join_some (Option.some.inj g3)) (by rw [si];exact g4)
   by_cases hi:i<n'
   . by_cases hk:k<n'
     . rw [List.getElem?_append_left (by omega)] at g1 g2 g3 g4
       obtain ⟨j,k1,k2⟩:=subE_get g1;obtain ⟨l,k3,k4⟩:=subE_get g2;rw [sg i j k1] at g3
       rw [sg k l k3] at g4
       exact h4.apart j l a xs ys (by rintro rfl;exact hij (ix_inj hx k1 k3)) k2 k4 (join_some (Option.some.inj g3)) (join_some (Option.some.inj g4))
     . exact mixed i k xs ys hi (by omega) g1 g2 g3 g4
   . by_cases hk:k<n'
     . exact mixed k i ys xs hk (by omega) g2 g1 g4 g3
     . rw [List.getElem?_append_right (by omega),le,fi] at g1 g2
       rw [List.getElem?_append_right (by omega),ls] at g3 g4
       exact h4.apart _ _ a xs ys (by omega) g1 g2 (by rw [si];exact g3) (by rw [si];exact g4)
end
section
structure Klass (K:W.Frag) (C:Addr) (names:List Str):Prop where
 cl:Cls K C
 no:∀f ∈ names,NoAttr K C f
structure MDef (P:Program) (w:World) (K:W.Frag) (mg:Str->Option Value) (base:Heap) (k:Nat) (C:Addr) (m:Str) (ps:List Str) (sp:Sp):Prop where
 ex:∃f fd,FnOk P w K mg base CX0 k f fd ps sp/\Meth K C m f/\Binds K fd ps []
structure KDef (P:Program) (w:World) (K:W.Frag) (mg:Str->Option Value) (base:Heap) (k:Nat) (C:Addr) (x:Str) (ps:List Str) (sp:Sp):Prop where
 ex:∃f fd,FnOk P w K mg base CX0 k f fd ps sp/\Mk K C f/\mg x=some (.ref C)/\Binds K fd ps []
variable {X:Cx} {od:OD} {e a:Expr} {es:List Expr} {pos p apos cpos:Pos} {x f m:Str} {fe fa:En->Option Sl} {fs:En->Option (List PyData)} {R:Rl} [RelOk X.K R] {C:Addr} {names:List Str}
theorem dp_fld (j : Nat) (k : Klass X.K od.C od.names) (hN : X.N[od.s]? = some x := by rfl) (hv : Vis X.env.scope x := by first | exact Or.inl rfl | exact Or.inr (Or.inl rfl) | exact Or.inr (Or.inr rfl)) (hj : od.names[j]? = some f := by rfl) (hd : (x == ("__debug__" : Str)) = false := by decide) (hcd : (x == ("__classdict__" : Str)) = false := by decide)
 (hb:attributeBase (.Name x p) f X.env (eval (.Name x p) X.env)=eval (.Name x p) X.env:=by rfl):DP X (FR X.K od) (.Attribute (.Name x p) f pos) (mPk (od.n+j)) :=
 ⟨_,pe_fld (pe_var hN hv hd hcd) hb,rp_fld k.cl (k.no f (List.mem_of_getElem? hj)) hj⟩
theorem de_fld (j : Nat) (k : Klass X.K od.C od.names) (hN : X.N[od.s]? = some x := by rfl) (hv : Vis X.env.scope x := by first | exact Or.inl rfl | exact Or.inr (Or.inl rfl) | exact Or.inr (Or.inr rfl)) (hj : od.names[j]? = some f := by rfl) (hd : (x == ("__debug__" : Str)) = false := by decide) (hcd : (x == ("__classdict__" : Str)) = false := by decide)
 (hb:attributeBase (.Name x p) f X.env (eval (.Name x p) X.env)=eval (.Name x p) X.env:=by rfl):DE X (FR X.K od) (.Attribute (.Name x p) f pos) (mVar (od.n+j)) :=
 ⟨_,pe_fld (pe_var hN hv hd hcd) hb,re_fld k.cl (k.no f (List.mem_of_getElem? hj)) hj⟩
theorem ds_fld (j : Nat) {pos' : Pos} (k : Klass X.K od.C od.names) (h : DE X (FR X.K od) e fe) (hN : X.N[od.s]? = some x := by rfl) (hv : Vis X.env.scope x := by first | exact Or.inl rfl | exact Or.inr (Or.inl rfl) | exact Or.inr (Or.inr rfl)) (hj : od.names[j]? = some f := by rfl) (hd : (x == ("__debug__" : Str)) = false := by decide) (hcd : (x == ("__classdict__" : Str)) = false := by decide)
 (hs:swapsWith e (some (.Attribute (.Name x p) f pos')) pos.line X.env=pure false:=by rfl) (hnd:od.names.Nodup:=by exact of_decide_eq_true rfl) (hlt:od.names.length<1000:=by exact of_decide_eq_true rfl):DS X (FR X.K od) (.Assign [.Attribute (.Name x p) f pos'] e pos) (mAsg (od.n+j) fe):=by
 obtain ⟨t,h1,h2⟩:=h;exact ⟨_,ps_fld (pe_var hN hv hd hcd) h1 hs,rs_fld k.cl (k.no f (List.mem_of_getElem? hj)) hj hnd hlt h2⟩
theorem ds_appF (j : Nat) {p3 : Pos} (k : Klass X.K od.C od.names) (h : DE X (FR X.K od) e fe) (hN : X.N[od.s]? = some x := by rfl) (hv : Vis X.env.scope x := by first | exact Or.inl rfl | exact Or.inr (Or.inl rfl) | exact Or.inr (Or.inr rfl)) (hj : od.names[j]? = some f := by rfl) (hd : (x == ("__debug__" : Str)) = false := by decide) (hcd : (x == ("__classdict__" : Str)) = false := by decide)
 (hb:attributeBase (.Name x p) f X.env (eval (.Name x p) X.env)=eval (.Name x p) X.env:=by rfl)
 (hst:starEach [e] X.env=(false,eval e X.env)::starEach [] X.env:=by rfl) (hbase:attributeBase (.Attribute (.Name x p) f p3) "append" X.env (eval (.Attribute (.Name x p) f p3) X.env)=eval (.Attribute (.Name x p) f p3) X.env:=by rfl)
 (hfew:((backTo cpos (starEach [e] X.env)).all (fun x=> !x.1) && (backToKw cpos (keywordEach [] X.env)).all (fun x=>x.1.isSome) && decide ([e].length+([]:List Keyword).length+(if ([]:List Keyword).isEmpty then 0 else 1)<30))=true:=by rfl)
 (hline:(apos.endLine==cpos.line)=true:=by rfl) (hplain:(backTo cpos (starEach [] X.env)).any (·.1)=false:=by rfl)
 (hs:swapsWith (.Call (.Attribute (.Attribute (.Name x p) f p3) "append" apos) [e] [] cpos) none pos.line X.env=pure false:=by rfl):DS X (FR X.K od) (.Expr (.Call (.Attribute (.Attribute (.Name x p) f p3) "append" apos) [e] [] cpos) pos) (mApp (od.n+j) fe):=by
 obtain ⟨t,h1,h2⟩:=h;exact ⟨_,ps_expr (pe_bm PySem.F.plainAttrs_list PySem.F.slot_list_append PySem.F.type_list_append mt_append (pe_fld (pe_var hN hv hd hcd) hb) (pa_cons h1 pa_nil hst) hbase hfew hline hst hplain) hs,rs_appF k.cl (k.no f (List.mem_of_getElem? hj)) hj h2⟩
theorem ds_setF (j : Nat) {p3 ps : Pos} (k : Klass X.K od.C od.names) (h : DE X (FR X.K od) e fe) (hi : DP X (FR X.K od) a fa) (hN : X.N[od.s]? = some x := by rfl) (hv : Vis X.env.scope x := by first | exact Or.inl rfl | exact Or.inr (Or.inl rfl) | exact Or.inr (Or.inr rfl)) (hj : od.names[j]? = some f := by rfl) (hd : (x == ("__debug__" : Str)) = false := by decide) (hcd : (x == ("__classdict__" : Str)) = false := by decide)
 (hb:attributeBase (.Name x p) f X.env (eval (.Name x p) X.env)=eval (.Name x p) X.env:=by rfl)
 (ha:∀v,assign (.Subscript (.Attribute (.Name x p) f p3) a ps) X.env v=(do
  let ov <-holding [v] (eval (.Attribute (.Name x p) f p3) X.env)
  let iv <-holding [v,ov] (eval a X.env)
  standAt ps
  holding [v,ov,iv] (setItem ov iv v)
  release [v,ov,iv] []):=by intro _;rfl)
 (hs:swapsWithSole [.Subscript (.Attribute (.Name x p) f p3) a ps] e pos.line X.env=pure false:=by rfl) (hw:swappedStores [.Subscript (.Attribute (.Name x p) f p3) a ps] e X.env=pure none:=by rfl) (h1:(assignEach [.Subscript (.Attribute (.Name x p) f p3) a ps] X.env).map (·.2) = [assign (.Subscript (.Attribute (.Name x p) f p3) a ps) X.env]:=by rfl) :
 DS X (FR X.K od) (.Assign [.Subscript (.Attribute (.Name x p) f p3) a ps] e pos) (mSet (od.n+j) fa fe):=by
 obtain ⟨t,a1,a2⟩:=h;obtain ⟨u,b1,b2⟩:=hi;exact ⟨_,ps_asg a1 (pg_sub (pe_fld (pe_var hN hv hd hcd) hb) b1 set_list ha) hs hw h1,rs_setF k.cl (k.no f (List.mem_of_getElem? hj)) hj a2 b2⟩
variable {ps:List Str} {kk jj:Nat} {F:En->List PyData->Option (En×PyData)}
theorem ds_methE {pl : Sem Bool} (M : MDef X.prog X.w X.K X.mg X.base jj od.C m ps (spM X.K od.C od.names F)) (k : Klass X.K od.C od.names) (hr : Room kk X.A) (h : DA X (FR X.K od) (e :: es) fs) (hjj : jj <= kk := by decide) (hm : m ∉ od.names := by exact of_decide_eq_true rfl) (hN : X.N[od.s]? = some x := by rfl) (hv : Vis X.env.scope x := by first | exact Or.inl rfl | exact Or.inr (Or.inl rfl) | exact Or.inr (Or.inr rfl)) (hd : (x == ("__debug__" : Str)) = false := by decide) (hcd : (x == ("__classdict__" : Str)) = false := by decide)
 (hst:starEach (e::es) X.env=(false,eval e X.env)::starEach es X.env:=by rfl) (hpl:(backTo cpos (starEach es X.env)).any (·.1)=false:=by rfl)
 (ht:eval (.Call (.Attribute (.Name x p) m apos) (e::es) [] cpos) X.env=(do
  let ov <-eval (.Name x p) X.env
  standAt apos.atName
  let (f,first) <-holding [ov] (getMethod ov m pl)
  callWith cpos f first (backTo cpos (starEach (e::es) X.env)) (backToKw cpos (keywordEach [] X.env))):=by rfl)
 (hs:swapsWith (.Call (.Attribute (.Name x p) m apos) (e::es) [] cpos) none pos.line X.env=pure false:=by rfl):DS X (FR X.K od) (.Expr (.Call (.Attribute (.Name x p) m apos) (e::es) [] cpos) pos) (mMeth od.n F fs fun ρ _=>some (.nx ρ)):=by
 obtain ⟨t,h1,h2⟩:=h;obtain ⟨f,fd,F1,M1,b1⟩:=M.ex;exact ⟨_,ps_expr (pe_meth (pl:=pl) (pe_var hN hv hd hcd) k.cl M1 F1 (hr.mono hjj) b1 .nil pass0 h1 hst hpl ht) hs,rs_methE hm h2⟩
theorem ds_methA (i : Nat) {pl : Sem Bool} {y : Str} {pos' : Pos} (M : MDef X.prog X.w X.K X.mg X.base jj od.C m ps (spM X.K od.C od.names F)) (k : Klass X.K od.C od.names) (hr : Room kk X.A) (h : DA X (FR X.K od) (e :: es) fs) (hnd : X.N.Nodup) (hjj : jj <= kk := by decide) (hm : m ∉ od.names := by exact of_decide_eq_true rfl) (hN : X.N[od.s]? = some x := by rfl) (hv : Vis X.env.scope x := by first | exact Or.inl rfl | exact Or.inr (Or.inl rfl) | exact Or.inr (Or.inr rfl)) (hd : (x == ("__debug__" : Str)) = false := by decide) (hcd : (x == ("__classdict__" : Str)) = false := by decide)
 (hst:starEach (e::es) X.env=(false,eval e X.env)::starEach es X.env:=by rfl) (hpl:(backTo cpos (starEach es X.env)).any (·.1)=false:=by rfl)
 (ht:eval (.Call (.Attribute (.Name x p) m apos) (e::es) [] cpos) X.env=(do
  let ov <-eval (.Name x p) X.env
  standAt apos.atName
  let (f,first) <-holding [ov] (getMethod ov m pl)
  callWith cpos f first (backTo cpos (starEach (e::es) X.env)) (backToKw cpos (keywordEach [] X.env))):=by rfl)
 (hi:X.N[i]? = some y:=by rfl) (hx:Loc X.env.scope y:=by first | exact Or.inl rfl | exact Or.inr rfl) (hs:swapsWith (.Call (.Attribute (.Name x p) m apos) (e::es) [] cpos) (some (.Name y pos')) pos.line X.env=pure false:=by rfl) (hf:X.fn y=true\/X.env.scope.names.lookup y=some .local:=by first | exact .inl rfl | exact .inr rfl)
 (hsl:(FR X.K od).slot i:=by exact ⟨of_decide_eq_true rfl,of_decide_eq_true rfl⟩):DS X (FR X.K od) (.Assign [.Name y pos'] (.Call (.Attribute (.Name x p) m apos) (e::es) [] cpos) pos) (mMeth od.n F fs fun ρ d=>some (.nx (ρ.set i (some (.val d))))):=by
 obtain ⟨t,h1,h2⟩:=h;obtain ⟨f,fd,F1,M1,b1⟩:=M.ex;exact ⟨_,ps_set hnd hi hx (pe_meth (pl:=pl) (pe_var hN hv hd hcd) k.cl M1 F1 (hr.mono hjj) b1 .nil pass0 h1 hst hpl ht) hs hf,rs_methA hsl hm h2⟩
theorem db_make {l : Nat} (M : KDef X.prog X.w X.K X.mg X.base jj C x ps (spM X.K C names F)) (hr : Room kk X.A) (h : DA X R (e :: es) fs) (hl : l = names.length := by rfl) (hjj : jj + 1 <= kk := by decide) (hg : Gl X x := by rfl) (hdb : (x == ("__debug__" : Str)) = false := by decide) (he : starEach (e :: es) X.env = (false, eval e X.env) :: starEach es X.env := by rfl) (hpl : (backTo pos (starEach es X.env)).any (·.1) = false := by rfl) :
 DB X R C names (.Call (.Name x p) (e::es) [] pos) (mMake l F fs):=by
 obtain ⟨t,h1,h2⟩:=h;obtain ⟨f,fd,F1,M1,m1,b1⟩:=M.ex;exact ⟨_,pe_make M1 F1 (hr.mono hjj) hg m1 b1 .nil pass0 h1 hdb he hpl,rb_make hl h2⟩
theorem db_call {G : List PyData -> Option En} (D : Tf.Def X.prog X.w X.K X.mg X.base jj x ps (spO X.K C names G)) (hr : Room kk X.A) (h : DA X R (e :: es) fs) (hj : jj <= kk := by decide) (hg : Gl X x := by rfl)
 (hdb:(x==("__debug__" : Str))=false:=by decide) (he:starEach (e::es) X.env=(false,eval e X.env)::starEach es X.env:=by rfl) (hpl:(backTo pos (starEach es X.env)).any (·.1)=false:=by rfl):DB X R C names (.Call (.Name x p) (e::es) [] pos) (mCallO G fs):=by
 obtain ⟨t,h1,h2⟩:=h;exact ⟨_,pe_callD D hr h1 hj hg hdb he hpl,rb_call h2⟩
theorem dss_obj (s n : Nat) {fo : En -> Option En} {g : En -> Option Out} {rest : List Stmt} {pos' : Pos} (h : DB X (PR X.K) C names e fo) (hr : ∀ p : Addr, DSs X (FR X.K ⟨C, names, s, n, p⟩) rest g) (hnd : X.N.Nodup) (hsn : s < n := by decide) (hi : X.N[s]? = some x := by rfl) (hx : Loc X.env.scope x := by first | exact Or.inl rfl | exact Or.inr rfl)
 (hs:swapsWith e (some (.Name x pos')) pos.line X.env=pure false:=by rfl) (hf:X.fn x=true\/X.env.scope.names.lookup x=some .local:=by first | exact .inl rfl | exact .inr rfl):DSs X (PR X.K) (.Assign [.Name x pos'] e pos::rest) (mObj n s fo g):=by
 obtain ⟨t,h1,h2⟩:=h;refine ⟨_,pss_cons (ps_set hnd hi hx h1 hs hf) (u:=fun D σ H=>∃p,(hr p).choose D σ H) (fun pins s σ H D I ⟨p,hp⟩=>(hr p).choose_spec.1 pins s σ H D I hp),rs_obj h2 (fun p=> ?_) hsn⟩;exact fun HB S0 σ ρ H0 H x e o ho D d=>⟨p,(hr p).choose_spec.2 HB S0 σ ρ H0 H x e o ho D d⟩
end
end Dm
namespace Dm
open PySem PySem.Spec L2 Tf
theorem forM_list {fg : PyData -> En -> Option En} {gb : En -> Option Out} {ds : List PyData} {ρ : En} (P : Nat -> En -> Prop) (h0 : P 0 ρ)
 (hs:∀(i:Nat) d ρ,ds[i]? = some d->P i ρ->∃ρ1,fg d ρ=some ρ1/\∃ρ2,(gb ρ1=some (.nx ρ2)\/gb ρ1=some (.ct ρ2))/\P (i+1) ρ2):∃ρ',forM fg gb ds ρ=some (.nx ρ')/\P ds.length ρ':=by
 induction ds generalizing ρ P with
 | nil=>exact ⟨ρ,rfl,h0⟩
 | cons d ds ih=>
  obtain ⟨ρ1,h1,ρ2,h2,h3⟩:=hs 0 d ρ rfl h0;obtain ⟨ρ',h4,h5⟩:=ih (ρ:=ρ2) (fun i=>P (i+1)) h3 (fun i d' ρ hi hp=>hs (i+1) d' ρ (by simpa using hi) hp);refine ⟨ρ',?_,h5⟩;unfold forM;rw [h1];show Option.bind (gb ρ1) _=_;rcases h2 with h2 | h2 <;> (rw [h2];exact h4)
theorem forM_range {fg : PyData -> En -> Option En} {gb : En -> Option Out} {lo : Int} {n : Nat} {ρ : En} (P : Nat -> En -> Prop) (h0 : P 0 ρ)
 (hs:∀(i:Nat) ρ,i<n->P i ρ->∃ρ1,fg (.int (lo+(i:Nat))) ρ=some ρ1/\∃ρ2,(gb ρ1=some (.nx ρ2)\/gb ρ1=some (.ct ρ2))/\P (i+1) ρ2):∃ρ',forM fg gb (rngD lo n) ρ=some (.nx ρ')/\P n ρ':=by
 have h:=forM_list (fg:=fg) (gb:=gb) (ds:=rngD lo n) (ρ:=ρ) P h0 (fun i d ρ hi hp=>by
  rw [rngD_get] at hi
  split at hi
  . rename_i hlt
    cases hi
    exact hs i ρ hlt hp
  . cases hi)
 have hl:(rngD lo n).length=n:=by simp [rngD]
 rw [hl] at h
 exact h
theorem forM_find {fg : PyData -> En -> Option En} {gb : En -> Option Out} {lo : Int} {n : Nat} {ρ : En} (P : Nat -> En -> Prop) (Z : Out -> Prop) (h0 : P 0 ρ)
 (hs:∀(i:Nat) ρ,i<n->P i ρ->∃ρ1,fg (.int (lo+(i:Nat))) ρ=some ρ1/\((∃ρ2,gb ρ1=some (.nx ρ2)/\P (i+1) ρ2)\/∃r ρ2,gb ρ1=some (.rt r ρ2)/\Z (.rt r ρ2))):(∃ρ',forM fg gb (rngD lo n) ρ=some (.nx ρ')/\P n ρ')\/∃o,forM fg gb (rngD lo n) ρ=some o/\Z o:=by
 have gen:∀(k j:Nat) ρ,j+k=n->P j ρ->(∃ρ',forM fg gb ((rngD lo n).drop j) ρ=some (.nx ρ')/\P n ρ')\/∃o,forM fg gb ((rngD lo n).drop j) ρ=some o/\Z o:=by
  intro k
  induction k with
  | zero=>
   intro j ρ hj hp;have:j=n:=by omega
   subst this;rw [List.drop_eq_nil_of_le (by simp [rngD])]
   exact .inl ⟨ρ,rfl,hp⟩
  | succ k ih=>
   intro j ρ hj hp;obtain ⟨ρ1,h1,h2⟩:=hs j ρ (by omega) hp;rw [forM_drop (d:= .int (lo+(j:Nat))) (by rw [rngD_get,if_pos (by omega)]),h1];rcases h2 with ⟨ρ2,h3,h4⟩ | ⟨r,ρ2,h3,h4⟩
   . have:=ih (j+1) ρ2 (by omega) h4;simp only [Option.bind_some,h3];exact this
   . simp only [Option.bind_some,h3];exact .inr ⟨_,rfl,h4⟩
 have:=gen n 0 ρ (by omega) h0;simpa using this
theorem compM_map{α:Type}{f:PyData->Option (Option PyData)}{en:α->PyData}{g:α->PyData}:∀ {xs:List α},(∀x ∈ xs,f (en x)=some (some (g x)))->compM f (xs.map en)=some (xs.map g)
 | [],_=>rfl
 | x::xs,h=>by
  rw [List.map_cons,compM,h x List.mem_cons_self,compM_map (fun y hy=>h y (List.mem_cons_of_mem _ hy))];rfl
theorem compM_range{f:PyData->Option (Option PyData)}{g:Nat->PyData}{lo:Int}{n:Nat}(h:∀i,i<n->f (.int (lo+(i:Nat)))=some (some (g i))):compM f (rngD lo n)=some ((List.range n).map g) :=
 compM_map (en:=fun i:Nat=>PyData.int (lo+(i:Nat))) fun i hi=>h i (List.mem_range.mp hi)
theorem while_inv {c : En -> Option Bool} {b : En -> Option Out} {ρ : En} (P : En -> Prop) (μ : En -> Nat) (h0 : P ρ)
 (hs:∀ρ,P ρ->c ρ=some false\/(c ρ=some true/\∃ρ',b ρ=some (.nx ρ')/\P ρ'/\μ ρ'<μ ρ)):∃ρ',mWhile c b ρ=some (.nx ρ')/\P ρ'/\c ρ'=some false:=by
 have gen:∀(n:Nat) ρ,μ ρ<n->P ρ->∃ρ',whileF c b n ρ=some (.nx ρ')/\P ρ'/\c ρ'=some false:=by
  intro n
  induction n with
  | zero=>intro ρ h;omega
  | succ n ih=>
   intro ρ hm hp;rcases hs ρ hp with h | ⟨h,ρ1,h1,h2,h3⟩
   . exact ⟨ρ,by simp [whileF,h],hp,h⟩
   . obtain ⟨ρ',h4,h5⟩:=ih ρ1 (by omega) h2;exact ⟨ρ',by simp [whileF,h,h1,h4],h5⟩
 obtain ⟨ρ',h1,h2⟩:=gen (μ ρ+1) ρ (by omega) h0;exact ⟨ρ',mWhile_of h1,h2⟩
def Rts(g:En->Option Out)(ρ:En)(r:Sl):Prop:=∃ρ',g ρ=some (.rt r ρ')
theorem rts_seq{f g:En->Option Out}{ρ ρ':En}{r:Sl}(h:f ρ=some (.nx ρ'))(k:Rts g ρ' r):Rts (mSeq f g) ρ r:=by
 obtain ⟨ρ2,k⟩:=k;exact ⟨ρ2,by unfold mSeq;rw [h];exact k⟩
theorem rts_ret{f:En->Option Sl}{ρ:En}{r:Sl}(h:f ρ=some r):Rts (mRet f) ρ r:=⟨ρ,by unfold mRet;rw [h];rfl⟩
theorem runD_rt{n k:Nat}{g:En->Option Out}{ds:List PyData}{ρ:En}{r:Sl}(hl:ds.length=k)(e:ds.map (fun d=>some (Sl.val d))++List.replicate (n - ds.length) none=ρ)(h:Rts g ρ r):runD n g k ds=some r:=by
 obtain ⟨ρ',h⟩:=h;unfold runD;rw [if_pos hl,e,h];rfl
theorem runM_rt{n m k:Nat}{g:En->Option Out}{φ:En}{ds:List PyData}{ρ ρ':En}{d:PyData}(hl:ds.length+1=m)(hk:φ.length=k)(e:(none::ds.map (fun d=>some (Sl.val d)))++List.replicate (n - (ds.length+1)) none++φ=ρ)(h:g ρ=some (.rt (.val d) ρ')):runM n m k g φ ds=some (ρ'.drop n,d):=by
 unfold runM;rw [if_pos ⟨hl,hk⟩,e,h];rfl
theorem runM_nx{n m k:Nat}{g:En->Option Out}{φ:En}{ds:List PyData}{ρ ρ':En}(hl:ds.length+1=m)(hk:φ.length=k)(e:(none::ds.map (fun d=>some (Sl.val d)))++List.replicate (n - (ds.length+1)) none++φ=ρ)(h:g ρ=some (.nx ρ')):runM n m k g φ ds=some (ρ'.drop n, .none):=by
 unfold runM;rw [if_pos ⟨hl,hk⟩,e,h];rfl
theorem seq_to{f g:En->Option Out}{ρ ρ':En}{o:Out}(h:f ρ=some (.nx ρ'))(k:g ρ'=some o):mSeq f g ρ=some o:=by
 unfold mSeq;rw [h];exact k
theorem seq_rt{f g:En->Option Out}{ρ ρ':En}{r:Sl}(h:f ρ=some (.rt r ρ')):mSeq f g ρ=some (.rt r ρ'):=by
 unfold mSeq;rw [h];rfl
theorem if_to{c:En->Option Bool}{f g:En->Option Out}{ρ:En}{o:Out}{b:Bool}(h:c ρ=some b)(k:(if b then f ρ else g ρ)=some o):mIf c f g ρ=some o:=by
 unfold mIf;rw [h];exact k
theorem asg_to{i:Nat}{f:En->Option Sl}{ρ:En}{r:Sl}(h:f ρ=some r):mAsg i f ρ=some (.nx (ρ.set i (some r))):=by
 unfold mAsg;rw [h];rfl
theorem ret_to{f:En->Option Sl}{ρ:En}{r:Sl}(h:f ρ=some r):mRet f ρ=some (.rt r ρ):=by
 unfold mRet;rw [h];rfl
theorem call_to{F:List PyData->Option Sl}{f:En->Option (List PyData)}{ρ:En}{ds:List PyData}{r:Sl}(h:f ρ=some ds)(k:F ds=some r):mCall F f ρ=some r:=by
 unfold mCall;rw [h];exact k
theorem for_to{fi:En->Option (List PyData)}{fg:PyData->En->Option En}{gb:En->Option Out}{ρ:En}{ds:List PyData}{o:Out}(h:fi ρ=some ds)(k:forM fg gb ds ρ=some o):mFor fi fg gb ρ=some o:=by
 unfold mFor;rw [h];exact k
theorem lc_to{sb:En->En}{fi:En->Option (List PyData)}{fg:PyData->En->Option En}{ft:En->Option Bool}{fe:En->Option Sl}{ρ:En}{ds es:List PyData}(h:fi ρ=some ds)(hl:ds.length<sizeLine)(k:compM (elM fg ft fe (sb ρ)) ds=some es):mLC sb fi fg ft fe ρ=some (.own es):=by
 unfold mLC;rw [h];show (if ds.length<sizeLine then _ else _)=_;rw [if_pos hl,k];rfl
theorem mulS{i j:Int}(h:CMulA i j):dRep (.val (.int i)) (.val (.int j))=some (.val (.int (i*j))):=by
 unfold dRep dMulI iopC;simp only [if_pos h]
theorem divS{i j:Int}(h:CDivB i j):dFdiv (.val (.int i)) (.val (.int j))=some (.val (.int (i.fdiv j))):=by
 unfold dFdiv iopC;simp only [if_pos h]
theorem modS{i j:Int}(h:j≠0):dMod (.val (.int i)) (.val (.int j))=some (.val (.int (i.fmod j))):=by
 unfold dMod iopC;simp only [if_pos h]
theorem powS{i j:Int}(h:CPow i j):dPow (.val (.int i)) (.val (.int j))=some (.val (.int (i ^ j.toNat))):=by
 unfold dPow iopC;simp only [if_pos h]
theorem rng1_to{f:En->Option (List Sl)}{ρ:En}{j:Nat}(h:f ρ=some [.val (.int j)])(hj:j<=1000):mRng1 f ρ=some (rngD 0 j):=by
 have b:inB (j:Int):=by
  constructor
  . have : -(2 ^ 62:Int)<=0:=by decide
    omega
  . have:(1000:Int)<2 ^ 62:=by decide
    omega
 unfold mRng1;rw [h];show (if inB (j:Int) then some (rngD 0 ((j:Int).toNat)) else none)=_;rw [if_pos b,Int.toNat_natCast]
theorem rng2_to{f:En->Option (List Sl)}{ρ:En}{i j:Nat}(h:f ρ=some [.val (.int i), .val (.int j)])(hi:i<=1000)(hj:j<=1000):mRng2 f ρ=some (rngD i (j - i)):=by
 have b:∀j:Nat,j<=1000->inB (j:Int):=by
  intro j hj
  constructor
  . have : -(2 ^ 62:Int)<=0:=by decide
    omega
  . have:(1000:Int)<2 ^ 62:=by decide
    omega
 unfold mRng2;rw [h];show (if inB (i:Int)/\inB (j:Int) then some (rngD i (((j:Int) - (i:Int)).toNat)) else none)=_;rw [if_pos ⟨b i hi,b j hj⟩,Int.toNat_sub]
theorem small64:(200:Nat)<=sizeLine:=by decide
theorem eqD_int(i j:Int):eqD (.int i) (.int j)=some (decide (i=j)):=by
 have:PyData.eqv (.int i) (.int j)=decide (i=j):=by simp [PyData.eqv,Bool.beq_eq_decide_eq]
 unfold eqD;rw [if_pos ⟨rfl,rfl,by simp [PyData.depth]⟩,this]
def encF(q:Int×Int):PyData:= .tuple [.int q.1, .int q.2]
theorem lay_list{α:Type}{en:α->PyData}(h:∀x,(en x).canLay0=true):∀xs:List α,PyData.canLayAll0 (xs.map en)=true
 | []=>rfl
 | x::xs=>by rw [List.map_cons,PyData.canLayAll0,h x,lay_list h xs];rfl
theorem dep_list{α:Type}{en:α->PyData}{k:Nat}(h:∀x,(en x).depth<=k):∀xs:List α,PyData.depthAll (xs.map en)<=k
 | []=>Nat.zero_le _
 | x::xs=>by rw [List.map_cons,PyData.depthAll];exact Nat.max_le.mpr ⟨h x,dep_list h xs⟩
theorem eqD_same{d:PyData}(h:d.canLay0=true)(k:d.depth<=60):eqD d d=some true:=by
 unfold eqD;rw [if_pos ⟨h,h,by omega⟩,SeqAt.eqv_refl d h]
end Dm
namespace Dm
open PySem PySem.Spec PyProof.Rows L2 Tf
section
variable {X:Cx}
def rInD(K:W.Frag)(neg:Bool):R2:=fun x y H Q=>∃p xs dx ds,y = .ref p/\(SqL K H p xs\/SqT K H p xs)/\Rep K H x dx/\Reps K H xs ds/\dx.canLay0=true/\(∀d ∈ ds,d.canLay0=true)/\dx.depth<=60/\Q (.bl (if neg then !(ds.any fun d=>PyData.eqv d dx) else ds.any fun d=>PyData.eqv d dx)) H
open Classical in
noncomputable def eqW(h:Heap)(ds:List PyData)(dx:PyData)(u:Value):Bool:=decide (∃d ∈ ds,(∃as,Reads h u d as)/\PyData.eqv d dx=true)
open Classical in
theorem eqW_of{h:Heap}{ds:List PyData}{dx d:PyData}{u:Value}{as:List Addr}(hd:d ∈ ds)(hl:∀d ∈ ds,d.canLay0=true)(r:Reads h u d as):eqW h ds dx u=PyData.eqv d dx:=by
 unfold eqW
 by_cases e:PyData.eqv d dx=true
 . rw [e];exact decide_eq_true ⟨d,hd,⟨as,r⟩,e⟩
 . rw [Bool.eq_false_iff.mpr e];refine decide_eq_false ?_;rintro ⟨d',hd',⟨as',r'⟩,e'⟩;rw [<-SeqAt.Reads.unique d d' u as as' (hl d hd) r r'] at e'
   exact e e'
theorem any_eqW{h:Heap}{dx:PyData}{all:List PyData}(hl:∀d ∈ all,d.canLay0=true):∀ {us:List Value} {ds:List PyData} {as:List Addr},ReadsAll h us ds as->(∀d ∈ ds,d ∈ all)->us.any (eqW h all dx)=ds.any fun d=>PyData.eqv d dx
 | _,_,_, .nil,_=>rfl
 | _,_,_, .cons r t,hs=>by
  rw [List.any_cons,List.any_cons,eqW_of (hs _ List.mem_cons_self) hl r,any_eqW hl t fun d hd=>hs d (List.mem_cons_of_mem _ hd)]
theorem mem_readsAll{h:Heap}:∀ {us:List Value} {ds:List PyData} {as:List Addr},ReadsAll h us ds as->∀u ∈ us,∃d ∈ ds,∃bs,Reads h u d bs
 | _,_,_, .nil,u,hu=>by cases hu
 | _,_,_, .cons r t,u,hu=>by
  rcases List.mem_cons.mp hu with rfl | hu
  . exact ⟨_,List.mem_cons_self,_,r⟩
  . obtain ⟨d,hd,q⟩:=mem_readsAll t u hu;exact ⟨d,List.mem_cons_of_mem _ hd,q⟩
theorem in1_units(A:Around):A.in1.units=A.units+1:=rfl
theorem op_inD(hu:X.A.units+64<cLine):OpR X (compareOp .In) (rInD X.K false):=by
 intro pins s σ H x y v u Q I rx ry h;obtain ⟨p,xs,dx,ds,rfl,hq,hx,hs,lx,ld,dp,q⟩:=h
 cases ry
 obtain ⟨bs,r2⟩:=hx.reads I rx;rcases hq with hq | hq
 . obtain ⟨its,r,pl,hz⟩:=I.list hq;obtain ⟨as,ra⟩:=Reps.reads I hs r;refine SeqAt.in_listAt (eqW s.heap ds dx) pl.isList (fun w hw=> ?_) ⟨.bl _,H,I,rfl,?_⟩
   . obtain ⟨d,hd,cs,rd⟩:=mem_readsAll ra w (by simpa using hw);rw [eqW_of hd ld rd];exact SeqAt.eqAt_reads d dx _ _ _ _ _ _ rd r2 (ld d hd) lx (by have:=in1_units X.A;omega)
   . rw [show its.toArray.any (eqW s.heap ds dx)=its.any (eqW s.heap ds dx) by simp,any_eqW ld ra fun _ h=>h];exact q
 . obtain ⟨its,r,pl,hz⟩:=I.tuple hq;obtain ⟨as,ra⟩:=Reps.reads I hs r;refine SeqAt.in_tupleAt (eqW s.heap ds dx) pl (fun w hw=> ?_) ⟨.bl _,H,I,rfl,?_⟩
   . obtain ⟨d,hd,cs,rd⟩:=mem_readsAll ra w (by simpa using hw);rw [eqW_of hd ld rd];exact SeqAt.eqAt_reads d dx _ _ _ _ _ _ rd r2 (ld d hd) lx (by have:=in1_units X.A;omega)
   . rw [show its.toArray.any (eqW s.heap ds dx)=its.any (eqW s.heap ds dx) by simp,any_eqW ld ra fun _ h=>h];exact q
def inD(neg:Bool)(dx:PyData)(ds:List PyData):Option Sl:=if dx.canLay0=true/\(ds.all fun d=>d.canLay0)=true/\dx.depth<=60 then some (.val (.bool (if neg then !(ds.any fun d=>PyData.eqv d dx) else ds.any fun d=>PyData.eqv d dx))) else none
def dInD(neg:Bool)(a b:Sl):Option Sl:=match b.dat with
 | .list ds=>inD neg a.dat ds
 | .tuple ds=>inD neg a.dat ds
 | _=>none
theorem opd_inD{K:W.Frag}{neg:Bool}:OpD K (rInD K neg) (dInD neg):=fun H0 H x y sx sy z s px py hz Q q=>by
 unfold dInD at hz
 split at hz
 . rename_i ds hd;unfold inD at hz
   split at hz
   . rename_i hc
     cases hz
     obtain ⟨a,vs,rfl,h1,h2⟩:=py.lst s hd;exact ⟨a,vs,_,ds,rfl, .inl h1,px.rep s,Reps.same s h2,hc.1,fun d hd=>List.all_eq_true.mp hc.2.1 d hd,hc.2.2,q _ _ _ (Ext.refl s) (.bool _)⟩
   . cases hz
 . rename_i ds hd;unfold inD at hz
   split at hz
   . rename_i hc
     cases hz
     obtain ⟨a,vs,rfl,h1,h2⟩:=py.tup hd;exact ⟨a,vs,_,ds,rfl, .inr (s.seqT h1),px.rep s,Reps.same s h2,hc.1,fun d hd=>List.all_eq_true.mp hc.2.1 d hd,hc.2.2,q _ _ _ (Ext.refl s) (.bool _)⟩
   . cases hz
 . cases hz
variable {R:Rl} [RelOk X.K R] {a b e:Expr} {pos p:Pos} {fa fb f:En->Option Sl}
theorem dt_inD(hu:X.A.units+64<cLine)(ha:DP X R a fa)(hb:DP X R b fb)(hm:behindInMarks .In b=false:=by with_unfolding_all rfl):DT X R (.Compare a [.In] [b] pos) (mTest (mBin (dInD false) fa fb)):=dt_cmp (op_inD hu) opd_inD ha hb hm
end
end Dm
namespace Dm
open PySem PySem.Spec PyProof.Rows L2 Tf
structure OR (C:Addr) (names:List Str) (H:Hp) (p:Addr) (vals:L2.St):Prop where
 len:vals.length=names.length
 ins:∃dx fs,H p=some (.ins C dx fs)/\(∀(j:Nat) f,names[j]? = some f->fs.lookup f=(vals[j]?).join)/\∀f,f ∉ names->fs.lookup f=none
section
variable {K:W.Frag} {C:Addr} {names:List Str}
theorem OR.same{H H':Hp}{p:Addr}{vals:L2.St}(x:Same H H')(o:OR C names H p vals):OR C names H' p vals:=by
 obtain ⟨dx,fs,h1,h2⟩:=o.ins;exact ⟨o.len,dx,fs,x _ _ h1,h2⟩
theorem OR.other{H:Hp}{p a:Addr}{vals:L2.St}{vs:List V}{u:HO}(o:OR C names H p vals)(h:H a=some (.lst vs)):OR C names (upd H a u) p vals:=by
 obtain ⟨dx,fs,h1,h2⟩:=o.ins;have hne:p≠a:=by rintro rfl;rw [h1] at h;cases h
 exact ⟨o.len,dx,fs,by rw [upd_ne hne];exact h1,h2⟩
def FO(K:W.Frag)(od:OD):Rl:=
 ⟨fun HB H0 H σ ρ=>σ.length=od.n/\∃vals,σ[od.s]? = some (some (.ref od.p))/\OR od.C od.names H od.p vals/\ER K HB H0 H (σ++vals) ρ,fun i=>i≠od.s/\i<od.n⟩
instance relOk_FO {od:OD}:RelOk K (FO K od) where
 ext:=fun x ⟨h1,vals,h2,h3,h4⟩=>⟨h1,vals,h2,h3.same x.s,h4.ext x⟩
 get:=fun ⟨h1,vals,h2,h3,h4⟩ hs h=>by
  obtain ⟨v,e1,e2⟩:=h4.get _ _ h;rw [List.getElem?_append_left (by rw [h1];exact hs.2)] at e1
  exact ⟨v,e1,e2⟩
 set:=fun {HB H0 H H0' H' σ ρ i v s} ⟨h1,vals,h2,h3,h4⟩ hs x sb h=>by
  refine ⟨by rw [List.length_set];exact h1,vals,by rw [List.getElem?_set_ne hs.1];exact h2,h3.same x.s,?_⟩;have:=h4.set (i:=i) x sb h;rw [app_set (by rw [h1];exact hs.2)] at this
  exact this
 write:=fun {HB H0 H σ ρ i a ds es vs ys} ⟨h1,vals,h2,h3,h4⟩ hs hi hσ hb h0 ha hr=>by
  refine ⟨h1,vals,h2,h3.other ha,?_⟩;exact h4.write hi (by rw [List.getElem?_append_left (by rw [h1];exact hs.2)];exact hσ) hb h0 hr
 frz:=fun ⟨h1,vals,h2,h3,h4⟩ _ hi x=>by
  obtain ⟨a,vs,ha,x',e'⟩:=h4.frz hi x;exact ⟨_,x',h1,vals,h2,h3,e'⟩
variable {od:OD}
theorem fldO_at {HB H0 H : Hp} {σ : L2.St} {ρ : En} {j : Nat} {f : Str} {r : Sl} (e : ST (FO K od) HB H0 H σ ρ) (hj : od.names[j]? = some f) (h : ρ[od.n + j]? = some (some r)) :
 ∃dx fs v,σ[od.s]? = some (some (.ref od.p))/\H od.p=some (.ins od.C dx fs)/\fs.lookup f=some v/\SlH K HB H0 H v r:=by
 obtain ⟨h1,vals,h2,h3,h4⟩:=e.r;obtain ⟨v,e1,e2⟩:=h4.get _ _ h;rw [<-h1,List.getElem?_append_right (Nat.le_add_right _ _),Nat.add_sub_cancel_left] at e1
 obtain ⟨dx,fs,q1,q3,q4⟩:=h3.ins;exact ⟨dx,fs,v,h2,q1,by rw [q3 j f hj,e1];rfl,e2⟩
theorem rp_fldR{j:Nat}{f:Str}(hc:Cls K od.C)(hn:NoAttr K od.C f)(hj:od.names[j]? = some f):RP K (FO K od) (tFld K (tVar od.s) f) (mPk (od.n+j)):=fun HB σ ρ H0 H s e r hr Q q=>by
 obtain ⟨dx,fs,v,h1,h2,h3,h4⟩:=fldO_at e hj (join_some hr);exact ⟨.ref od.p,h1,od.p,od.C,dx,fs,v,rfl,h2,hc,hn,h3,q v H0 H (Ext.refl s) h4.p⟩
def spR(K:W.Frag)(C:Addr)(names:List Str)(F:List PyData->List PyData->Option Sl):Sp:=fun vs H Q _=>∃H0 p fv fd ds r vs',vs = .ref p::vs'/\Same H0 H/\OR C names H p (fv.map some)/\Reps K H0 fv fd/\Reps K H0 vs' ds/\F fd ds=some r /\
 ∀v H0' H',Ext H0 H H0' H'->SlH K H H0' H' v r->Q v H'
def flatS:Sl->Bool
 | .val (.int _)=>true
 | .val (.bool _)=>true
 | .val .none=>true
 | .val (.str _)=>true
 | .own ds=>(intsOf ds).isSome
 | _=>false
theorem flatS_free{HB H0 H H0':Hp}{v:V}(hs:∀a,HB a=none->H0' a=none):∀ {r:Sl},flatS r=true->SlH K HB H0 H v r->SlH K HB H0' H v r
 | .val (.int i),_,h=>by cases (show Rep K H0 v (.int i) from h);exact Rep.int i
 | .val (.bool i),_,h=>by cases (show Rep K H0 v (.bool i) from h);exact Rep.bool i
 | .val .none,_,h=>by cases (show Rep K H0 v .none from h);exact Rep.none
 | .val (.str i),_,h=>by cases (show Rep K H0 v (.str i) from h);exact Rep.str i
 | .own ds,hf,⟨a,vs,e,h1,h2,h3,h4⟩=>by
  refine ⟨a,vs,e,h1,hs a h1,h3,?_⟩;obtain ⟨ns,hn⟩:=Option.isSome_iff_exists.mp (show (intsOf ds).isSome=true from hf);rw [intsOf_eq hn] at h4 ⊢
  cases reps_ints h4
  have allI:∀ns:List Int,Reps K H0' (ns.map V.int) (ns.map .int):=fun ns=>by
   induction ns with
   | nil=>exact .nil
   | cons n r ih=>exact .cons (.int n) ih
  exact allI ns
def fldsOf:En->Option (List PyData)
 | []=>some []
 | some s::r=>(fldsOf r).map (s.dat :: ·)
 | none::_=>none
def mMethR(n:Nat)(F:List PyData->List PyData->Option Sl)(fa:En->Option (List PyData)):En->Option Sl:=fun ρ=>(fa ρ).bind fun ds=>(fldsOf (ρ.drop n)).bind fun fd=>(F fd ds).bind fun r=>if flatS r=true then some r else none
theorem frz_all {HB H0 H : Hp} : ∀ {vals : L2.St} {φ : En} {fd : List PyData}, vals.length = φ.length -> (∀ (j : Nat) s, φ[j]? = some (some s) -> ∃ v, vals[j]? = some (some v) /\ SlH K HB H0 H v s) -> fldsOf φ = some fd -> Same H0 H ->
 ∃H0c fv,Same H0 H0c/\Same H0c H/\vals=fv.map some/\Reps K H0c fv fd
 | [],[],fd,_,_,h,s=>by cases h;exact ⟨H0,[],Same.refl _,s,rfl, .nil⟩
 | _::_,[],_,hl,_,_,_=>by cases hl
 | [],_::_,_,hl,_,_,_=>by cases hl
 | ov::vals,none::φ,fd,hl,hg,h,s=>by cases h
 | ov::vals,some sl::φ,fd,hl,hg,h,s=>by
  obtain ⟨fd',h1,rfl⟩:=Option.map_eq_some_iff.mp (show (fldsOf φ).map (sl.dat :: ·)=some fd from h);obtain ⟨v,e1,e2⟩:=hg 0 sl rfl
  cases (show ov=some v from Option.some.inj e1)
  obtain ⟨H0c,fv,a1,a2,a3,a4⟩:=frz_all (vals:=vals) (φ:=φ) (fd:=fd') (by simpa using hl) (fun j s hj=>hg (j+1) s (by simpa using hj)) h1 s
  cases sl with
  | val d=>exact ⟨H0c,v::fv,a1,a2,by rw [a3];rfl, .cons (Rep.same a1 e2) a4⟩
  | own ds=>
   obtain ⟨a,vs,rfl,g1,g2,g3,g4⟩:=e2
   cases ha:H0c a with
   | none=>
    have s1:Same H0c (upd H0c a (.lst vs)):=Same.upd ha _;refine ⟨upd H0c a (.lst vs), .ref a::fv,a1.trans s1,fun b u e=> ?_,by rw [a3];rfl, .cons (.list (SqL.of upd_same) (Reps.same (a1.trans s1) g4)) (Reps.same s1 a4)⟩
    by_cases hb:b=a
    . subst hb;rw [upd_same] at e;rw [g3];exact e
    . rw [upd_ne hb] at e;exact a2 b u e
   | some u=>
    have:=a2 a u ha;rw [g3] at this
    cases this
    exact ⟨H0c, .ref a::fv,a1,a2,by rw [a3];rfl, .cons (.list (SqL.of ha) (Reps.same a1 g4)) a4⟩
theorem re_methR{ta:TA}{fa:En->Option (List PyData)}{F:List PyData->List PyData->Option Sl}{m:Str}{E:XK}(hm:m ∉ od.names)(h:RA K (FR K od) ta fa):RE K (FR K od) (tMeth od.C m (spR K od.C od.names F) [] E (tVar od.s) ta) (mMethR od.n F fa):=fun HB σ ρ H0 H s e r hr Q q=>by
 obtain ⟨ds,hd,hr⟩:=Option.bind_eq_some_iff.mp hr;obtain ⟨fd,hfd,hr⟩:=Option.bind_eq_some_iff.mp hr;obtain ⟨r',hF,hr⟩:=Option.bind_eq_some_iff.mp hr
 split at hr
 . rename_i hflat
   cases hr
   obtain ⟨h1,p,vals,hpp,h2,h3,h4⟩:=e.r;obtain ⟨dx,fs,q1,q2,q3,q4⟩:=h3.ins;refine ⟨.ref p,h2,p,dx,fs,rfl,q1,q4 m hm,?_⟩;refine h HB σ ρ H0 H s e ds hd _ fun vs H1 J1 x1 p1=> ?_;rw [List.append_nil];have e4:=h4.ext x1
   obtain ⟨H0c,fv,a1,a2,a3,a4⟩:=frz_all (K:=K) (HB:=HB) (H0:=H1) (H:=J1) (vals:=vals) (φ:=ρ.drop od.n) (fd:=fd) (by rw [List.length_drop, <-e4.len,List.length_append,h1];omega) (fun j s hj=>by
    rw [List.getElem?_drop] at hj
    obtain ⟨v,k1,k2⟩:=e4.get _ _ hj;rw [<-h1,List.getElem?_append_right (Nat.le_add_right _ _),Nat.add_sub_cancel_left] at k1
    exact ⟨v,k1,k2⟩) hfd x1.s1
   refine ⟨H0c,p,fv,fd,ds,r,vs,rfl,a2,⟨by rw [<-a3];exact h3.len,dx,fs,x1.s _ _ q1,by rw [<-a3];exact q3,q4⟩,a4,Reps.same a1 p1,hF,fun v H2 J2 x2 p2=> ?_⟩;have x3:Ext H1 J1 H1 J2:=⟨x2.s,Same.refl _,x1.s1.trans x2.s,fun _ _ _ h=>h⟩;exact q v H1 J2 (x1.trans x3) ((flatS_free (fun a ha=>x1.s1.free ha) hflat p2).base x1.s)
 . cases hr
def runR(n m k:Nat)(g:En->Option Out):List PyData->List PyData->Option Sl:=fun fd ds=>if ds.length+1=m/\fd.length=k then (g ((none::ds.map (fun d=>some (.val d)))++List.replicate (n - (ds.length+1)) none++fd.map (fun d=>some (.val d)))).bind fun o=>match o with
 | .rt r _=>some r
 | .nx _=>some (.val .none)
 | _=>none else none
section
variable {P:Program} {w:World} {mg:Str->Option Value} {base:Heap}
theorem er_vals{HB H0 H:Hp}{fv:List V}{fd:List PyData}(h:Reps K H0 fv fd):ER K HB H0 H (fv.map some) (fd.map fun d=>some (.val d)) :=
 ⟨by rw [List.length_map,List.length_map];exact h.length,fun i s hs=>by
  rw [List.getElem?_map] at hs
  cases e:fd[i]? with
  | none=>rw [e] at hs;cases hs
  | some d=>
   rw [e] at hs
   cases hs
   obtain ⟨v,h1,h2⟩:=Tf.Reps.get h e;exact ⟨v,by rw [List.getElem?_map,h1];rfl,h2⟩,fun i j a xs ys _ g1 _ _ _=>by
  rw [List.getElem?_map] at g1
  cases e:fd[i]? with
  | none=>rw [e] at g1;cases g1
  | some d=>rw [e] at g1;cases g1⟩
theorem fnR {x qual : Str} {st : Stmt} {f : Addr} {fd : FuncData} {N ps : List Str} {k n m l : Nat} {g : En -> Option Out} (F : Fun K x qual st f fd) (S : FnScope N ps (defScope st)) (hn : N.length = n) (hm : ps.length = m) (hl : names.length = l)
 (hb:∀(cdv:Value) (A:Around) (outer:List Env) (s:Shared) (H:Hp) (E:XK) (p:Addr),Room k (A.deeper (envOfC qual (defScope st) s.heap.objs.size f cdv))->DSs (cxOf CX0 P w K mg base N qual (defScope st) f cdv A outer s H E).nox (FO K ⟨C,names,0,n,p⟩) (defBody st) g) :
 FnOk P w K mg base CX0 (k+1) f fd ps (spR K C names (runR n m l g)):=by
 subst hn hm hl;have hpl:ps.length<=N.length:=by have:=congrArg List.length S.pre;rw [List.length_take] at this;omega
 refine F.ok S (fun vs H Q E h=> ?_) fun cdv A outer s H vs Q E hr h=> ?_
 . obtain ⟨H0,p,fv,fd,ds,r,vs',rfl,s1,o,hf1,hr,hf,_⟩:=h;unfold runR at hf
   split at hf
   . rename_i hl;rw [List.length_cons,hr.length];exact hl.1
   . cases hf
 . obtain ⟨H0,p,fv,fd,ds,r,vs',rfl,s1,oo,hf1,hr',hf,q⟩:=h;obtain ⟨t,ht,rs⟩:=hb cdv A outer s H E p hr;refine ⟨t,ht,?_⟩;unfold runR at hf
   split at hf
   . rename_i hl;obtain ⟨o,ho,hf⟩:=Option.bind_eq_some_iff.mp hf;have hvl:=hr'.length
     have ls:(L2.start N (.ref p::vs')).length=N.length:=by
      unfold L2.start;simp only [List.length_append,List.length_map,List.length_replicate,List.length_cons];omega
     refine rs H H0 _ _ H0 H (Ext.refl s1) ⟨⟨ls,fv.map some,rfl,oo,er_self (by omega) hr' (er_vals hf1)⟩⟩ o ho _ ?_
     cases o with
     | rt r' ρ=>cases hf;exact fun v σ H1 J1 a _ c=>q v H1 J1 a c
     | nx ρ=>cases hf;exact fun σ H1 J1 a b=>q .non H1 J1 a .none
     | bk _=>cases hf
     | ct _=>cases hf
   . cases hf
end
theorem fo_sub {ix : List (Option Nat)} {s' n' : Nat} (hs : ix[s']? = some (some od.s) := by rfl) (hl : ix.length = n' := by rfl) (hx : (ix.filterMap id).Nodup := by decide) (hn : (ix.all fun o => match o with | some j => decide (j < od.n) | none => true) = true := by rfl) :
 ∀(HB:Hp) (σ:L2.St) (ρ:En) (H0 H:Hp),(FO K od).r HB H0 H σ ρ->(FO K ⟨od.C,od.names,s',n',od.p⟩).r (fun _=>none) H0 H (subS ix σ) (subF ix od.n ρ):=fun HB σ ρ H0 H e=>by
 obtain ⟨h1,vals,h2,h3,h4⟩:=e
 have hlt:∀(i j:Nat),ix[i]? = some (some j)->j<od.n:=fun i j h=>by
  have:=List.all_eq_true.mp hn _ (List.mem_of_getElem? h);simpa using this
 have ls:(subS ix σ).length=n':=by unfold subS;rw [List.length_map,hl]
 have le:(subE ix ρ).length=n':=by unfold subE;rw [List.length_map,hl]
 have lρ:ρ.length=od.n+vals.length:=by rw [<-h4.len,List.length_append,h1]
 have fi:∀(j:Nat),(ρ.drop od.n)[j]? = ρ[od.n+j]? :=fun j=>List.getElem?_drop;have si:∀(j:Nat),(σ++vals)[od.n+j]? = vals[j]? :=fun j=>by rw [<-h1,List.getElem?_append_right (Nat.le_add_right _ _),Nat.add_sub_cancel_left]
 have sg:∀(i j:Nat),ix[i]? = some (some j)->(subS ix σ)[i]? = some ((σ++vals)[j]?).join:=fun i j h=>by rw [subS_get h,List.getElem?_append_left (by rw [h1];exact hlt i j h)]
 refine ⟨ls,vals,?_,h3,?_,fun i r hi=> ?_,fun i k a xs ys hij g1 g2 g3 g4=> ?_⟩
 . show (subS ix σ)[s']? = _;rw [subS_get hs,h2];rfl
 . unfold subF;rw [List.length_append,List.length_append,ls,le,List.length_drop,lρ];omega
 . unfold subF at hi
   by_cases hin:i<n'
   . rw [List.getElem?_append_left (by omega)] at hi ⊢
     obtain ⟨j,k1,k2⟩:=subE_get hi;obtain ⟨v,k3,k4⟩:=h4.get j r k2;refine ⟨v,by rw [sg i j k1,k3];rfl,k4.base fun _ _ h=>by cases h⟩
   . rw [List.getElem?_append_right (by omega),le,fi] at hi
     rw [List.getElem?_append_right (by omega),ls];obtain ⟨v,k3,k4⟩:=h4.get _ r hi;rw [si] at k3
     exact ⟨v,k3,k4.base fun _ _ h=>by cases h⟩
 . unfold subF at g1 g2
   have mixed:∀(i k:Nat) xs ys,i<n'->n'<=k->(subE ix ρ++ρ.drop od.n)[i]? = some (some (.own xs))->(subE ix ρ++ρ.drop od.n)[k]? = some (some (.own ys))->(subS ix σ++vals)[i]? = some (some (.ref a))->(subS ix σ++vals)[k]? ≠ some (some (.ref a)):=by
    intro i k xs ys hi hk g1 g2 g3 g4;rw [List.getElem?_append_left (by omega)] at g1 g3
    rw [List.getElem?_append_right (by omega),le,fi] at g2
    rw [List.getElem?_append_right (by omega),ls] at g4
    obtain ⟨j,k1,k2⟩:=subE_get g1;rw [sg i j k1] at g3
    exact h4.apart j (od.n+(k - n')) a xs ys (by have:=hlt i j k1;omega) k2 g2 (join_some (Option.some.inj g3)) (by rw [si];exact g4)
   by_cases hi:i<n'
   . by_cases hk:k<n'
     . rw [List.getElem?_append_left (by omega)] at g1 g2 g3 g4
       obtain ⟨j,k1,k2⟩:=subE_get g1;obtain ⟨l,k3,k4⟩:=subE_get g2;rw [sg i j k1] at g3
       rw [sg k l k3] at g4
       exact h4.apart j l a xs ys (by rintro rfl;exact hij (ix_inj hx k1 k3)) k2 k4 (join_some (Option.some.inj g3)) (join_some (Option.some.inj g4))
     . exact mixed i k xs ys hi (by omega) g1 g2 g3 g4
   . by_cases hk:k<n'
     . exact mixed k i ys xs hk (by omega) g2 g1 g4 g3
     . rw [List.getElem?_append_right (by omega),le,fi] at g1 g2
       rw [List.getElem?_append_right (by omega),ls] at g3 g4
       exact h4.apart _ _ a xs ys (by omega) g1 g2 (by rw [si];exact g3) (by rw [si];exact g4)
end
section
variable {X:Cx} {od:OD} {e a:Expr} {es:List Expr} {pos p apos cpos:Pos} {x f m:Str} {fe fa:En->Option Sl} {fs:En->Option (List PyData)}
theorem dp_fldR (j : Nat) (k : Klass X.K od.C od.names) (hN : X.N[od.s]? = some x := by rfl) (hv : Vis X.env.scope x := by first | exact Or.inl rfl | exact Or.inr (Or.inl rfl) | exact Or.inr (Or.inr rfl)) (hj : od.names[j]? = some f := by rfl) (hd : (x == ("__debug__" : Str)) = false := by decide) (hcd : (x == ("__classdict__" : Str)) = false := by decide)
 (hb:attributeBase (.Name x p) f X.env (eval (.Name x p) X.env)=eval (.Name x p) X.env:=by rfl):DP X (FO X.K od) (.Attribute (.Name x p) f pos) (mPk (od.n+j)) :=
 ⟨_,pe_fld (pe_var hN hv hd hcd) hb,rp_fldR k.cl (k.no f (List.mem_of_getElem? hj)) hj⟩
theorem de_methR {ps : List Str} {kk jj : Nat} {F : List PyData -> List PyData -> Option Sl} {pl : Sem Bool} (M : MDef X.prog X.w X.K X.mg X.base jj od.C m ps (spR X.K od.C od.names F)) (k : Klass X.K od.C od.names) (hr : Room kk X.A) (h : DA X (FR X.K od) (e :: es) fs) (hjj : jj <= kk := by decide) (hm : m ∉ od.names := by exact of_decide_eq_true rfl)
 (hN:X.N[od.s]? = some x:=by rfl) (hv:Vis X.env.scope x:=by first | exact Or.inl rfl | exact Or.inr (Or.inl rfl) | exact Or.inr (Or.inr rfl)) (hd:(x==("__debug__" : Str))=false:=by decide) (hcd:(x==("__classdict__" : Str))=false:=by decide)
 (hst:starEach (e::es) X.env=(false,eval e X.env)::starEach es X.env:=by rfl) (hpl:(backTo cpos (starEach es X.env)).any (·.1)=false:=by rfl)
 (ht:eval (.Call (.Attribute (.Name x p) m apos) (e::es) [] cpos) X.env=(do
  let ov <-eval (.Name x p) X.env
  standAt apos.atName
  let (f,first) <-holding [ov] (getMethod ov m pl)
  callWith cpos f first (backTo cpos (starEach (e::es) X.env)) (backToKw cpos (keywordEach [] X.env))):=by rfl):DE X (FR X.K od) (.Call (.Attribute (.Name x p) m apos) (e::es) [] cpos) (mMethR od.n F fs):=by
 obtain ⟨t,h1,h2⟩:=h;obtain ⟨f,fd,F1,M1,b1⟩:=M.ex;exact ⟨_,pe_meth (pl:=pl) (pe_var hN hv hd hcd) k.cl M1 F1 (hr.mono hjj) b1 .nil pass0 h1 hst hpl ht,re_methR hm h2⟩
end
end Dm
namespace Dm
open PySem PySem.Spec L2 Tf
def Wp(g:En->Option Out)(ρ:En)(Z:Out->Prop):Prop:=∃o,g ρ=some o/\Z o
def Nx(P:En->Prop):Out->Prop
 | .nx ρ=>P ρ
 | _=>False
def Rt(r:Sl):Out->Prop
 | .rt r' _=>r'=r
 | _=>False
def Lp(N:En->Prop)(Z:Out->Prop):Out->Prop
 | .nx ρ=>N ρ
 | .ct ρ=>N ρ
 | .bk ρ=>Z (.nx ρ)
 | .rt r ρ=>Z (.rt r ρ)
section
variable {f g:En->Option Out} {ρ:En} {Z:Out->Prop}
theorem wp_of{o:Out}(h:g ρ=some o)(z:Z o):Wp g ρ Z:=⟨o,h,z⟩
theorem Wp.imp{Y:Out->Prop}(h:Wp g ρ Y)(k:∀o,Y o->Z o):Wp g ρ Z:=by
 obtain ⟨o,h1,h2⟩:=h;exact ⟨o,h1,k o h2⟩
theorem wp_seqG(h:Wp f ρ (fun o=>match o with | .nx ρ'=>Wp g ρ' Z | o=>Z o)):Wp (mSeq f g) ρ Z:=by
 obtain ⟨o,h1,h2⟩:=h
 cases o with
 | nx ρ' =>
  obtain ⟨o2,h3,h4⟩:=h2
  exact ⟨o2,by unfold mSeq;rw [h1];exact h3,h4⟩
 | rt r ρ'=>exact ⟨_,by unfold mSeq;rw [h1];rfl,h2⟩
 | bk ρ'=>exact ⟨_,by unfold mSeq;rw [h1];rfl,h2⟩
 | ct ρ'=>exact ⟨_,by unfold mSeq;rw [h1];rfl,h2⟩
theorem wp_seq{P:En->Prop}(h:Wp f ρ (Nx P))(k:∀ρ',P ρ'->Wp g ρ' Z):Wp (mSeq f g) ρ Z:=by
 refine wp_seqG (h.imp fun o ho=> ?_)
 cases o with
 | nx ρ'=>exact k ρ' ho
 | _=>exact ho.elim
theorem wp_seqN{ρ':En}(h:f ρ=some (.nx ρ'))(k:Wp g ρ' Z):Wp (mSeq f g) ρ Z:=by
 obtain ⟨o,h1,h2⟩:=k;exact ⟨o,seq_to h h1,h2⟩
variable {i:Nat} {fe:En->Option Sl} {r:Sl} {c:En->Option Bool} {b:Bool}
theorem wp_asg(h:fe ρ=some r)(k:Z (.nx (ρ.set i (some r)))):Wp (mAsg i fe) ρ Z:=⟨_,asg_to h,k⟩
theorem wp_asgS(h:fe ρ=some r)(k:Wp g (ρ.set i (some r)) Z):Wp (mSeq (mAsg i fe) g) ρ Z:=wp_seqN (asg_to h) k
theorem wp_frz(h:Wp g (frz1 i ρ) Z):Wp (mFrz i g) ρ Z:=h
theorem wp_ret(h:fe ρ=some r)(k:Z (.rt r ρ)):Wp (mRet fe) ρ Z:=⟨_,ret_to h,k⟩
theorem wp_if(h:c ρ=some b)(k:Wp (if b then f else g) ρ Z):Wp (mIf c f g) ρ Z:=by
 obtain ⟨o,h1,h2⟩:=k;refine ⟨o,if_to h ?_,h2⟩
 cases b <;> exact h1
theorem wp_ifT(h:c ρ=some true)(k:Wp f ρ Z):Wp (mIf c f g) ρ Z:=wp_if (b:=true) h k
theorem wp_ifF(h:c ρ=some false)(k:Wp g ρ Z):Wp (mIf c f g) ρ Z:=wp_if (b:=false) h k
theorem wp_next(k:Z (.nx ρ)):Wp mNext ρ Z:=⟨_,rfl,k⟩
theorem wp_skip{h:En->Option Out}(hc:c ρ=some false)(k:Wp h ρ Z):Wp (mSeq (mIf c f mNext) h) ρ Z:=wp_seqN (if_to hc rfl) k
variable {fi:En->Option (List PyData)} {fg:PyData->En->Option En} {ds:List PyData}
theorem wp_for(P:Nat->En->Prop)(hi:fi ρ=some ds)(h0:P 0 ρ)(hs:∀(j:Nat) d ρ,ds[j]? = some d->P j ρ->∃ρ1,fg d ρ=some ρ1/\Wp g ρ1 (Lp (P (j+1)) Z))(k:∀ρ',P ds.length ρ'->Z (.nx ρ')):Wp (mFor fi fg g) ρ Z:=by
 have gen:∀(n j:Nat) ρ,j+n=ds.length->P j ρ->∃o,forM fg g (ds.drop j) ρ=some o/\Z o:=by
  intro n
  induction n with
  | zero=>
   intro j ρ hj hp;have:j=ds.length:=by omega
   subst this;rw [List.drop_eq_nil_of_le (Nat.le_refl _)]
   exact ⟨_,rfl,k ρ hp⟩
  | succ n ih=>
   intro j ρ hj hp;have hd:ds[j]? = some ds[j]:=List.getElem?_eq_getElem (by omega);obtain ⟨ρ1,h1,o,h2,h3⟩:=hs j ds[j] ρ hd hp;rw [forM_drop hd,h1];simp only [Option.bind_some,h2]
   cases o with
   | nx ρ2=>exact ih (j+1) ρ2 (by omega) h3
   | ct ρ2=>exact ih (j+1) ρ2 (by omega) h3
   | bk ρ2=>exact ⟨_,rfl,h3⟩
   | rt r ρ2=>exact ⟨_,rfl,h3⟩
 obtain ⟨o,h1,h2⟩:=gen ds.length 0 ρ (by omega) h0;refine ⟨o,for_to hi ?_,h2⟩;simpa using h1
theorem Lp.imp{N N':En->Prop}{Y:Out->Prop}{o:Out}(h:Lp N Y o)(h1:∀ρ,N ρ->N' ρ)(h2:∀o,Y o->Z o):Lp N' Z o:=by
 cases o with
 | nx ρ=>exact h1 _ h
 | ct ρ=>exact h1 _ h
 | bk ρ=>exact h2 _ h
 | rt r ρ=>exact h2 _ h
theorem wp_forR(P:Nat->En->Prop){lo:Int}{n:Nat}(hi:fi ρ=some (rngD lo n))(h0:P 0 ρ)(hs:∀(j:Nat) ρ,j<n->P j ρ->∃ρ1,fg (.int (lo+(j:Nat))) ρ=some ρ1/\Wp g ρ1 (Lp (P (j+1)) Z))(k:∀ρ',P n ρ'->Z (.nx ρ')):Wp (mFor fi fg g) ρ Z:=by
 refine wp_for P hi h0 (fun j d ρ hd hp=> ?_) (by simpa [rngD] using k);rw [rngD_get] at hd
 split at hd
 . rename_i hlt
   cases hd
   exact hs j ρ hlt hp
 . cases hd
theorem wp_forR0(P:Nat->En->Prop){n:Nat}(hi:fi ρ=some (rngD 0 n))(h0:P 0 ρ)(hs:∀(j:Nat) ρ,j<n->P j ρ->∃ρ1,fg (.int (j:Nat)) ρ=some ρ1/\Wp g ρ1 (Lp (P (j+1)) Z))(k:∀ρ',P n ρ'->Z (.nx ρ')):Wp (mFor fi fg g) ρ Z:=
 wp_forR P hi h0 (fun j ρ hj hp=>by rw [Int.zero_add];exact hs j ρ hj hp) k
theorem wp_forL{α:Type}{en:α->PyData}{xs:List α}(P:Nat->En->Prop)(hi:fi ρ=some (xs.map en))(h0:P 0 ρ)(hs:∀(j:Nat) x ρ,xs[j]? = some x->P j ρ->∃ρ1,fg (en x) ρ=some ρ1/\Wp g ρ1 (Lp (P (j+1)) Z))(k:∀ρ',P xs.length ρ'->Z (.nx ρ')):Wp (mFor fi fg g) ρ Z:=by
 refine wp_for P hi h0 (fun j d ρ hd hp=> ?_) (by simpa using k);rw [List.getElem?_map] at hd
 obtain ⟨x,hx,rfl⟩:=Option.map_eq_some_iff.mp hd;exact hs j x ρ hx hp
theorem run_wp{n k:Nat}{ds:List PyData}(hl:ds.length=k)(e:ds.map (fun d=>some (Sl.val d))++List.replicate (n - ds.length) none=ρ)(h:Wp g ρ (Rt r)):runD n g k ds=some r:=by
 obtain ⟨o,h1,h2⟩:=h
 cases o with
 | rt r' ρ'=>cases h2;exact runD_rt hl e ⟨ρ',h1⟩
 | _=>exact h2.elim
end
theorem and_false{a b:En->Option Bool}{ρ:En}{k:Bool}(h1:a ρ=some k)(h2:b ρ=some false):mAnd a b ρ=some false:=by
 unfold mAnd;rw [h1]
 cases k
 . rfl
 . exact h2
theorem or_to{a b:En->Option Bool}{ρ:En}{k l:Bool}(h1:a ρ=some k)(h2:b ρ=some l):mOr a b ρ=some (k || l):=by
 unfold mOr;rw [h1]
 cases k
 . exact h2
 . rfl
theorem not_to{a:En->Option Bool}{ρ:En}{k:Bool}(h1:a ρ=some k):mNot a ρ=some (!k):=by
 unfold mNot;rw [h1];rfl
theorem eq_int{fa fb:En->Option Sl}{ρ:En}{i j:Int}(ha:fa ρ=some (.val (.int i)))(hb:fb ρ=some (.val (.int j))):mTest (mBin deq fa fb) ρ=some (decide (i=j)):=by
 unfold mTest mBin;rw [ha,Option.bind_some,hb,Option.bind_some];show Option.bind ((eqD (.int i) (.int j)).map _) _=_;rw [eqD_int];rfl
theorem ne_same{fa fb:En->Option Sl}{ρ:En}{a b:Sl}(ha:fa ρ=some a)(hb:fb ρ=some b)(h:a.dat=b.dat)(h1:b.dat.canLay0=true)(h2:b.dat.depth<=60):mTest (mBin dne fa fb) ρ=some false:=by
 unfold mTest mBin;rw [ha,Option.bind_some,hb,Option.bind_some];show Option.bind ((eqD a.dat b.dat).map _) _=_;rw [h,eqD_same h1 h2];rfl
theorem eq_same{fa fb:En->Option Sl}{ρ:En}{a b:Sl}(ha:fa ρ=some a)(hb:fb ρ=some b)(h:a.dat=b.dat)(h1:b.dat.canLay0=true)(h2:b.dat.depth<=60):mBin deq fa fb ρ=some (.val (.bool true)):=by
 unfold mBin;rw [ha,Option.bind_some,hb,Option.bind_some];show (eqD a.dat b.dat).map _=_;rw [h,eqD_same h1 h2];rfl
def il(l:List Int):List PyData:=l.map .int
def nl(l:List Nat):List PyData:=l.map fun n:Nat=>PyData.int (n:Int)
theorem il_len(l:List Int):(il l).length=l.length:=List.length_map ..
theorem nl_len(l:List Nat):(nl l).length=l.length:=List.length_map ..
theorem nl_app(a b:List Nat):nl (a++b)=nl a++nl b:=List.map_append ..
theorem il_app(a b:List Int):il (a++b)=il a++il b:=List.map_append ..
theorem atI_nat{α:Type}{xs:List α}{j:Nat}{x:α}(h:xs[j]? = some x):atI xs (j:Int)=some x:=by
 obtain ⟨hj,e⟩:=List.getElem?_eq_some_iff.mp h;unfold atI ixN;rw [if_pos (by omega),if_pos (by omega)];simpa using h
theorem dix_nat{s:Sl}{ds:List PyData}{j:Nat}{d:PyData}(hs:s.dat = .list ds\/s.dat = .tuple ds)(h:ds[j]? = some d):dix s (.val (.int (j:Int)))=some (.val d):=by
 unfold dix;rcases hs with hs | hs <;> simp only [hs,atI_nat h,Option.map_some]
end Dm
namespace Tf
open PySem PySem.Spec PyProof.Rows L2
def Itv(K:W.Frag)(a:Addr)(n:Nat):It:=
 ⟨fun i H=>∃xs x,xs.length=n/\SqL K H a xs/\xs.reverse[i]? = some x,fun i H v H'=>H'=H/\∀xs,SqL K H a xs->xs.reverse[i]? = some v,fun i H=>n<=i⟩
theorem rev_at{α:Type}{xs:List α}{i:Nat}{x:α}(h:xs.reverse[i]? = some x):i<xs.length/\xs[xs.length - 1 - i]? = some x:=by
 have hi:i<xs.length:=by
  obtain ⟨q,_⟩:=List.getElem?_eq_some_iff.mp h;simpa using q
 rw [List.getElem?_reverse hi] at h
 exact ⟨hi,h⟩
theorem turn_rev{P:Program}{w:World}{K:W.Frag}{tg:Expr}(a it:Addr)(n:Nat):Turn P w K tg (Itv K a n) [it] it (fun i h=>i<=n/\h.IsRevIter it a ((n:Int) - 1 - (i:Nat))) where
 mem:=List.mem_singleton.mpr rfl
 obj:=fun i h st b hb=>by
  cases List.mem_singleton.mp hb
  obtain ⟨_,o,e,_,d⟩:=st;refine ⟨o,e,fun v z=> ?_⟩;rw [d] at z
  cases z
 keep:=fun i h h' st k=>⟨st.1,st.2.at fun o e=>k it (List.mem_singleton.mpr rfl) o e⟩
 item:=by
  intro X hP hw hK hc i pins s σ H E I hf st hg;subst hP hw hK;obtain ⟨xs,x,hn,hq,hx⟩:=hg;obtain ⟨hi,hx'⟩:=rev_at hx;obtain ⟨its,rv,p,hz⟩:=I.list hq;obtain ⟨u,hu,ru⟩:=rv.get hx';obtain ⟨f0,f1,f2,f3,f4,f5⟩:=hf it (List.mem_singleton.mpr rfl);have e1:((n:Int) - 1 - (i:Nat))=((xs.length - 1 - i:Nat):Int):=by omega
  have hit:=st.2;rw [e1] at hit
  refine wpAny_pyNext_rev_item hit p.isList (x:=u) (by simpa using hu) fun h' st' sb=> ?_;have I1:Inv X pins σ H { s with heap:=h' }:=I.turned (t':=s.toks) (fun b o hb e=>(sb.2 b hb).trans e) f0 f1 f3 f4 f5;have e2:((xs.length - 1 - i:Nat):Int) - 1=(n:Int) - 1 - ((i+1:Nat):Int):=by omega
  rw [e2] at st'
  obtain ⟨o,e,c,d⟩:=id st';refine ⟨u,rfl,go_of (s:={ s with heap:=h' }) e c d (by decide) ⟨x,H,I1,ru,⟨rfl,fun ys hy=> ?_⟩,⟨by omega,st'⟩,fun b hb=>(hf b hb).1⟩⟩;rw [I.list_inj hy hq];exact hx
 done:=by
  intro X hP hw hK hc i pins s σ H E I hf st hg;subst hP hw hK;obtain ⟨f0,f1,f2,f3,f4,f5⟩:=hf it (List.mem_singleton.mpr rfl);have hn:n<=i:=hg;have e1:((n:Int) - 1 - (i:Nat)) = -1:=by have:=st.1;omega
  have hit:=st.2;rw [e1] at hit
  exact wpAny_pyNext_rev_end (I.ok.hd hc) hit fun h' eb=>⟨rfl,I.turned (t':=s.toks) (fun b o hb e=>eb b o hb e) f0 f1 f3 f4 f5⟩
 self:=fun _ _ _ _ _ st h=>wpAny_pyIter_revIter st.2 h
section
variable {X:Cx}
def iRev(K:W.Frag)(ta:TA):TI:=fun σ H R=>ta σ H fun vs H1=>∃l xs,vs = [.ref l]/\SqL K H1 l xs/\R (Itv K l xs.length) H1
theorem isRev_new{h:Heap}{l:Addr}{i:Int}:(h.push (revObj l i)).IsRevIter h.objs.size l i:=⟨_,Heap.get?_push_size _ rfl,rfl,rfl⟩
theorem pi_rev {tg a:Expr} {ta:TA} {p pos:Pos} (hg:Gl X "reversed") (hm:X.mg "reversed" = none) (ha:PA X [a] ta) (hs:starEach [a] X.env = [(false,eval a X.env)]:=by rfl):PI X tg (.Call (.Name "reversed" p) [a] [] pos) (iRev X.K ta):=by
 intro pins s σ H R I h;refine Call_ (ld_blt I hg hm bt_reversed (PyProof.Rows.callWith_type1 (thn (ha pos pins s σ H _ I h) fun us s1 ⟨vs,H1,I1,r1,q1⟩ => ?_) hs rfl));obtain ⟨l,xs,e,hq,q⟩:=q1;subst e;obtain ⟨u,rfl,ru⟩:=vals1 r1
 cases (show u=Value.ref l from ru)
 obtain ⟨its,rv,p1,hz⟩:=I1.list hq;have hl:=rv.length;refine call_reversed_list p1.isList ?_;refine wpAny_pyIter_revIter isRev_new ?_;refine ⟨s1.heap.objs.size,[s1.heap.objs.size],_,_,H1,rfl,I1.kept (t':=s1.toks) fun b o e=>Heap.get?_push_of_some _ e,turn_rev l _ xs.length,⟨Nat.zero_le _,?_⟩,fun b hb=> ?_,q⟩
 . have e:((its.toArray.size:Nat):Int) - 1=(xs.length:Int) - 1 - ((0:Nat):Int):=by simp;omega
   rw [<-e];exact isRev_new
 . cases List.mem_singleton.mp hb
   exact I1.fpOk (Nat.le_refl _) (I1.hok.fresh (Nat.le_refl _))
end
theorem nolen_lri:typeLookup (.type "list_reverseiterator") "__len__" = pure none:=by rw [typeLookup_type,builtinLookup_eq_fast];kernel_rfl
theorem hint_lri:typeLookup (.type "list_reverseiterator") "__length_hint__" = pure (some (.builtin "list_reverseiterator.__length_hint__")):=by rw [typeLookup_type,builtinLookup_eq_fast];kernel_rfl
section
variable {prog:Program} {w:World} {A:Around} {E:Value->Shared->Prop} {s:Shared} {it:Addr} {F W:List Addr} {G:Array GenState->Array GenState->Prop} {n:Nat} {P:Nat->Value->Prop} {St:Nat->Shared->Prop}
theorem col_rev {Q : List Value -> Shared -> Prop} (V : WalksS prog w A.in1 it F W G n P St) (ty : ∀ i s, St i s -> s.TypeIs (.ref it) "list_reverseiterator") (st : St 0 s) (lt : ∀ b ∈ F, b < s.heap.objs.size) (mem : it ∈ F)
 (q:∀s' acc,Moved W G s s'->ItemsOf P acc n->Q acc.toList s') (hn:n<=sizeLine):wpAny (model prog w) A (collect (.ref it)) Q E s:=by
 have out:s.heap.objs.size ∉ F:=fun z=>Nat.lt_irrefl _ (lt _ z);have ne:s.heap.objs.size≠it:=fun z=>out (z ▸ mem);unfold collect;refine wpAny_bind (wpAny_runValue (codeAny_builtin PySem.F.entry_proto_collect ?_));rw [Around.under_plainId PySem.F.plain_proto_collect _];show wpAny _ A.in1 (newList [] >>= fun z=>again (.builtin "list.__iadd__" ⟨[z, .ref it],[]⟩)) _ _ s;refine wpAny_bind (wpAny_newObj_type ?_);refine wpAny_pure ⟨plainId_quiet PySem.F.plain_list_iadd _,codeAny_builtin PySem.F.entry_list_iadd ?_⟩;rw [Around.under_plainId PySem.F.plain_list_iadd _];have st1:=V.frame 0 s (s.heap.push { cls:= .type "list",data:= .seq ([]:List Value).toArray }) s.toks st (Nat.le_refl _) fun b _ o z=>Heap.get?_push_of_some _ z;have new:(s.heap.push { cls:= .type "list",data:= .seq ([]:List Value).toArray }).get? s.heap.objs.size=some { cls:= .type "list",data:= .seq ([]:List Value).toArray }:=Heap.get?_push_size _ rfl;have un:Builtin.List.listSameRef (.ref s.heap.objs.size) (.ref it)=false:=by simp [Builtin.List.listSameRef,ne]
 show wpAny _ A.in1 (Builtin.List.listExtendWith (.ref s.heap.objs.size) (.ref it) (.ref s.heap.objs.size)) _ _ _;unfold Builtin.List.listExtendWith;refine wpAny_bind (wpAny_typeOf (ty 0 _ st1) ?_);rw [if_neg (by rw [un];decide)];refine wpAny_bind (V.self 0 _ _ _ st1 ?_);refine wpAny_bind (wpAny_holding ?_);unfold Builtin.List.listLengthHint;refine wpAny_bind (wpAny_specialOf (ty 0 _ st1) nolen_lri ?_);show wpAny _ A.in1 (specialOf (Value.ref it) (Str.ofString "__length_hint__") >>= _) _ _ _;refine wpAny_bind (wpAny_specialOf (ty 0 _ st1) hint_lri ?_)
 (generalize hid:("list_reverseiterator.__length_hint__" : String)=id0;(fail_if_success (clear hid id0));wp_delta;rw [show splitId id0=some ("list_reverseiterator", "__length_hint__") from by subst hid;decide +kernel];subst hid)
 refine wpAny_bind (wpAny_isInstance (b:=true) (ty 0 _ st1) (by rw [isSubtype_type];kernel_rfl) ?_);refine wpAny_pure ?_;rw [if_neg (by decide)];refine wpAny_pure ⟨plainId_quiet PySem.F.plain_extend_loop _,codeAny_extend_loopS V hn _ out _ n 0 _ _ _ rfl (Nat.zero_le _) st1 new (ItemsOf.nil P) fun s' acc' c' mv got all=> ?_⟩;show wpAny _ A (load s.heap.objs.size >>= _) _ _ s';refine wpAny_bind (wpAny_load got ?_);exact wpAny_pure (q s' acc' (Moved.drop_new (o:={ cls:= .type "list",data:= .seq ([]:List Value).toArray }) (tk:=s.toks) mv (Nat.le_refl _)) all)
theorem code_tupleRev {Q₁ : Value -> Shared -> Prop} (V : WalksS prog w A.in1.in1 it F W G n P St) (ty : ∀ i s, St i s -> s.TypeIs (.ref it) "list_reverseiterator") (st : St 0 s) (lt : ∀ b ∈ F, b < s.heap.objs.size) (mem : it ∈ F)
 (q:∀s' acc,Moved W G s s'->ItemsOf P acc n->Q₁ (.ref s'.heap.objs.size) { s' with heap:=s'.heap.push { cls:= .type "tuple",data:= .seq acc } }) (hn:n<=sizeLine) :
 codeAny (model prog w) A (.call (.builtin "tuple.__new__") ⟨[.type "tuple", .ref it],[]⟩) (wants Q₁ E) s:=by
 refine codeAny_of_tree ?_;show wpAny _ A.in1 (do checkBuiltinCall "tuple.__new__" ⟨[.type "tuple", .ref it],[]⟩;again (.builtin "tuple.__new__" ⟨[.type "tuple", .ref it],[]⟩)) _ _ s;refine wpAny_bind (wpAny_of_eq (PySem.F.newCall_tuple_1 _) (wpAny_pure ⟨plainId_quiet PySem.F.plain_tuple_new _,codeAny_builtin PySem.F.entry_tuple_new ?_⟩));rw [Around.under_plainId PySem.F.plain_tuple_new _];have hsub:=sub_tuple_self;have hinit:=init_tuple_lookup;have hmh:=madeHere_tuple;have ty0:=ty 0 s st
 wp_walk using wpAny_typeOf ty0,col_rev (hn:=hn) V ty st lt mem
 intro s' acc mv all;show wpAny _ _ (Builtin.Tuple.tupleExact acc.toList.toArray >>= fun z=>ret z) _ _ _;unfold Builtin.Tuple.tupleExact;refine wpAny_bind (wpAny_newObj_type ?_ (by show acc.toList.toArray.size<=sizeLine;simp only [Array.toArray_toList];rw [all.1];exact hn));refine wpAny_pure ?_;have e:acc.toList.toArray=acc:=by simp
 rw [e];exact q s' acc mv all
theorem call_tupleRev {Q : Value -> Shared -> Prop} (V : WalksS prog w A.in1.in1.in1 it F W G n P St) (ty : ∀ i s, St i s -> s.TypeIs (.ref it) "list_reverseiterator") (st : St 0 s) (lt : ∀ b ∈ F, b < s.heap.objs.size) (mem : it ∈ F)
 (q:∀s' acc,Moved W G s s'->ItemsOf P acc n->Q (.ref s'.heap.objs.size) { s' with heap:=s'.heap.push { cls:= .type "tuple",data:= .seq acc } }) (hn:n<=sizeLine) :
 wpAny (model prog w) A (call (.type "tuple") [.ref it]) Q E s:=by
 refine callType_codes (Q₁:=fun obj t=>t.TypeIs obj "tuple" /\ Q obj t) PySem.F.called_tuple (PySem.F.typeCall_tuple_1 _) PySem.F.entry_object_init
  (code_tupleRev (hn:=hn) V ty st lt mem fun s' acc mv all=>⟨⟨_,Heap.get?_push_size _ rfl,rfl⟩,q s' acc mv all⟩) fun obj t ht=> ?_
 exact ⟨ht.1,PySem.F.args_object_init_2 obj _,object_init_meets PySem.F.called_tuple.init.lookup PySem.F.called_tuple.made (by decide) prog w A.in1 _ t ⟨ht.1,rfl,ht.2⟩⟩
end
section
variable {X:Cx}
def tTupRev(K:W.Frag)(ta:TA):TE:=fun σ H Q=>ta σ H fun vs H1=>∃l xs,vs = [.ref l]/\SqL K H1 l xs/\∀p,H1 p=none->Q (.ref p) (upd H1 p (.tup xs.reverse))
theorem pe_tupRev {a : Expr} {ta : TA} {p p2 pos pos2 : Pos} (hc : X.calm = true) (hg : Gl X "reversed") (hm : X.mg "reversed" = none) (hg2 : Gl X "tuple") (hm2 : X.mg "tuple" = none) (ha : PA X [a] ta) (hs : starEach [a] X.env = [(false, eval a X.env)] := by rfl)
 (hs2:starEach [.Call (.Name "reversed" p) [a] [] pos] X.env = [(false,eval (.Call (.Name "reversed" p) [a] [] pos) X.env)]:=by rfl):PE X (.Call (.Name "tuple" p2) [.Call (.Name "reversed" p) [a] [] pos] [] pos2) (tTupRev X.K ta):=by
 intro pins s σ H Q I h;refine wpAny_Call_Name_kw (ld_blt I hg2 hm2 bt_tuple ?_);refine PyProof.Rows.callWith_type1 ?_ hs2 rfl;rw [hs2];show wpAny _ _ (spliced ((false,eval (.Call (.Name "reversed" p) [a] [] pos) X.env) :: [])) _ _ s;refine Calls.spliced_cons ?_;refine wpAny_Call_Name_kw (ld_blt I hg hm bt_reversed ?_);refine PyProof.Rows.callWith_type1 (thn (ha pos pins s σ H _ I h) fun us s1 ⟨vs,H1,I1,r1,q1⟩ => ?_) hs rfl;obtain ⟨l,xs,e,hq,q⟩:=q1;subst e;obtain ⟨u,rfl,ru⟩:=vals1 r1
 cases (show u=Value.ref l from ru)
 obtain ⟨its,rv,p1,hz⟩:=I1.list hq;have hl:=rv.length;refine call_reversed_list p1.isList ?_;refine Calls.spliced_nil ?_;have I2:Inv X pins σ H1 { s1 with heap:=s1.heap.push (revObj l ((its.toArray.size:Int) - 1)) }:=I1.kept (t':=s1.toks) fun b o e=>Heap.get?_push_of_some _ e;have lt1:l<s1.heap.objs.size:=by obtain ⟨o,n,e,_⟩:=p1;exact Heap.lt_size e
 have hd:X.A.handled=none:=I1.ok.hd hc;have V:=(Walks.listRev (prog:=X.prog) (w:=X.w) (A:=X.A.in1.in1.in1) hd s1.heap.objs.size l (Nat.ne_of_lt lt1) its.toArray).toS;obtain ⟨f0,f1,f2,f3,f4,f5⟩:=I1.fpOk (b:=s1.heap.objs.size) (Nat.le_refl _) (I1.hok.fresh (Nat.le_refl _));have hz':its.toArray.size<=sizeLine:=by simp only [List.size_toArray];omega
 refine call_tupleRev (s:={ s1 with heap:=s1.heap.push (revObj l ((its.toArray.size:Int) - 1)) }) V (fun i t st=>st.2.1.typeIs) ⟨Nat.zero_le _,?_,?_⟩ (fun b hb=> ?_) (List.mem_cons_self ..) (fun s' acc mv all=> ?_) hz'
 . have e:((its.toArray.size:Int) - 1 - ((0:Nat):Int))=(its.toArray.size:Int) - 1:=by omega
   rw [e];exact isRev_new
 . exact p1.isList.push _
 . show b<(s1.heap.push _).objs.size;rw [Heap.size_push];simp only [List.mem_cons,List.not_mem_nil,or_false] at hb
   rcases hb with rfl | rfl
   . exact Nat.lt_succ_self _
   . exact Nat.lt_succ_of_lt lt1
 . obtain ⟨h',g',d',tk',os'⟩:=s';obtain ⟨mh,mg,md,mo,mt⟩:=mv;have e1:g'=s1.gens:=mg;have e2:d'=s1.drawn:=md;have e3:os'=s1.os:=mo;subst e1 e2 e3;have I3:Inv X pins σ H1 { s1 with heap:=h',toks:=tk' }:=I2.turned (fun b o hb e=>mh b o (by simpa using hb) e) f0 f1 f3 f4 f5
   have ra:∃ys:List Value,acc=ys.toArray/\ys=its.reverse:=by
    refine ⟨acc.toList,by simp,?_⟩;refine List.ext_getElem? fun i=> ?_;have hsz:acc.size=its.length:=by simpa using all.1
    by_cases hi:i<its.length
    . have hlt:i<acc.size:=by omega
      have h1:=all.2 i acc[i] (by simp [hlt]);rw [List.getElem?_reverse hi];simp only [Array.getElem?_toList];rw [Array.getElem?_eq_getElem hlt, <-h1];simp
    . rw [List.getElem?_eq_none (by simp;omega),List.getElem?_eq_none (by simp;omega)]
   obtain ⟨ys,rfl,rfl⟩:=ra;have rr:Vals xs.reverse its.reverse:=rv.reverse
   have I4:Inv X pins σ (upd H1 h'.objs.size (.tup xs.reverse)) { s1 with heap:=h'.push { cls:= .type "tuple",data:= .seq its.reverse.toArray },toks:=tk' } :=
    I3.laid (t':=tk') (fun b o e=>Heap.get?_push_of_some _ e) (Nat.le_refl _) (show ObjOk X.prog X.w _ _ _ (.tup xs.reverse) from ⟨by rw [List.length_reverse];exact hz,its.reverse,rr,IsTup.new _ _⟩)
   exact ⟨.ref h'.objs.size,_,I4,rfl,q _ (I3.hok.fresh (Nat.le_refl _))⟩
def iSeq(K:W.Frag)(tl:TE):TI:=fun σ H R=>tl σ H fun x H1=>∃a,x = .ref a/\(((∃xs,SqL K H1 a xs)/\R (Itl K a) H1)\/((∃xs,SqT K H1 a xs)/\R (Itt K a) H1))
theorem pi_seq{tg l:Expr}{tl:TE}(hl:PE X l tl):PI X tg l (iSeq X.K tl):=by
 intro pins s σ H R I h;refine thn (hl pins s σ H _ I h) fun v s1 ⟨x,H1,I1,r1,q1⟩ => ?_;obtain ⟨a,e,⟨⟨xs,hq⟩,q⟩ | ⟨⟨xs,hq⟩,q⟩⟩:=q1
 . subst e
   cases r1
   obtain ⟨its,rv,p,hz⟩:=I1.list hq;refine wpAny_pyIter_list p.isList ?_;refine ⟨s1.heap.objs.size,[s1.heap.objs.size],_,_,H1,rfl,I1.kept (t':=s1.toks) fun b o e=>Heap.get?_push_of_some _ e,turn_list a _,⟨_,Heap.get?_push_size _ rfl,rfl,rfl⟩,fun b hb=> ?_,q⟩
   cases List.mem_singleton.mp hb
   exact I1.fpOk (Nat.le_refl _) (I1.hok.fresh (Nat.le_refl _))
 . subst e
   cases r1
   obtain ⟨its,rv,p,hz⟩:=I1.tuple hq;refine wpAny_pyIter_tuple (show s1.heap.IsTuple a its.toArray from p) ?_;refine ⟨s1.heap.objs.size,[s1.heap.objs.size],_,_,H1,rfl,I1.kept (t':=s1.toks) fun b o e=>Heap.get?_push_of_some _ e,turn_tuple a _,⟨_,Heap.get?_push_size _ rfl,rfl,rfl⟩,fun b hb=> ?_,q⟩
   cases List.mem_singleton.mp hb
   exact I1.fpOk (Nat.le_refl _) (I1.hok.fresh (Nat.le_refl _))
end
end Tf
namespace Dm
open PySem PySem.Spec PyProof.Rows L2 Tf
section
variable {K:W.Frag} {R:Rl} [RelOk K R]
theorem Reps.rev{H:Hp}:∀ {vs:List V} {ds:List PyData},Reps K H vs ds->Reps K H vs.reverse ds.reverse
 | _,_, .nil=> .nil
 | _,_, .cons a t=>by
  rw [List.reverse_cons,List.reverse_cons];exact Reps.append (Reps.rev t) (.cons a .nil)
theorem it_rev{H0:Hp}{a:Addr}{vs:List V}{ds:List PyData}(h:SqL K H0 a vs)(r:Reps K H0 vs ds):ItR K H0 (Itv K a vs.length) ds.reverse:=fun H0' H' s s' i=>by
 have h':=s'.seq (s.seq h);refine ⟨fun d hd=> ?_,fun hi=>show vs.length<=i by rw [r.length];simpa using hi⟩;obtain ⟨v,e1,e2⟩:=Tf.Reps.get (Reps.rev r) hd;refine ⟨⟨vs,v,rfl,h',e1⟩,fun x H2 y=> ?_⟩;obtain ⟨rfl,y⟩:=y;have:=y vs h';rw [e1] at this
 cases this
 exact ⟨H0',Ext.refl s',Rep.same s e2⟩
def mRevI(f:En->Option (List PyData)):En->Option (List PyData):=fun ρ=>(f ρ).bind fun a=>match a with
 | [.list xs]=>some xs.reverse
 | _=>none
theorem ri_rev{ta:TA}{f:En->Option (List PyData)}(h:RA K R ta f):RI K R (iRev K ta) (mRevI f):=fun HB σ ρ H0 H s e ds hd R q=>by
 obtain ⟨a,ha,hd⟩:=Option.bind_eq_some_iff.mp hd
 split at hd
 . cases hd
   refine h HB σ ρ H0 H s e _ ha _ fun vs H1 J1 x1 p1=> ?_
   cases p1 with | cons p1 t=>
    cases t
    cases p1 with | list a1 a2=>
     exact ⟨_,_,rfl,x1.s1.seq a1,q _ _ _ x1 (it_rev a1 a2)⟩
 . cases hd
def dTupRev:List Sl->Option Sl
 | [a]=>match a.dat with
  | .list ds=>some (.val (.tuple ds.reverse))
  | _=>none
 | _=>none
theorem re_tupRev{ta:TA}{f:En->Option (List Sl)}(h:RQ K R ta f):RE K R (tTupRev K ta) (mCallP dTupRev f):=fun HB σ ρ H0 H s e z hz Q q=>by
 obtain ⟨ss,hd,hz⟩:=Option.bind_eq_some_iff.mp hz;refine h HB σ ρ H0 H s e ss hd _ fun vs H1 J1 x1 p1=> ?_;unfold dTupRev at hz
 split at hz
 . obtain ⟨v,rfl,pa⟩:=paired1 p1
   split at hz
   . rename_i ds hds
     cases hz
     obtain ⟨a,vs,rfl,h1,h2⟩:=pa.lst x1.s1 hds;exact ⟨a,vs,rfl,h1,fun p hp=>q _ _ _ (x1.trans (Ext.allocF x1.s1 hp _)) (.tuple (SqT.of upd_same) (Reps.same (Same.upd (x1.s1.free hp) _) (Reps.rev h2)))⟩
   . cases hz
 . cases hz
def mItemsS(f:En->Option Sl):En->Option (List PyData):=fun ρ=>(f ρ).bind fun a=>match a.dat with
 | .list ds=>some ds
 | .tuple ds=>some ds
 | _=>none
theorem ri_seq{te:TE}{f:En->Option Sl}(h:RE K R te f):RI K R (iSeq K te) (mItemsS f):=fun HB σ ρ H0 H s e ds hd R q=>by
 obtain ⟨a,ha,hd⟩:=Option.bind_eq_some_iff.mp hd
 split at hd
 . rename_i es he
   cases hd
   refine h.rv HB σ ρ H0 H s e a.dat (by unfold mDat;rw [ha];rfl) _ fun v H1 J1 x1 p1=> ?_;rw [he] at p1
   cases p1 with
   | list h1 h2=>exact ⟨_,rfl, .inl ⟨⟨_,x1.s1.seq h1⟩,q _ _ _ x1 (it_list h1 h2)⟩⟩
 . rename_i es he
   cases hd
   refine h.rv HB σ ρ H0 H s e a.dat (by unfold mDat;rw [ha];rfl) _ fun v H1 J1 x1 p1=> ?_;rw [he] at p1
   cases p1 with
   | tuple h1 h2=>exact ⟨_,rfl, .inr ⟨⟨_,x1.s1.seqT h1⟩,q _ _ _ x1 (it_tup h1 h2)⟩⟩
 . cases hd
def mExt(i:Nat)(f:En->Option Sl):En->Option Out:=fun ρ=>match (ρ[i]?).join with
 | some (.own ds)=>(f ρ).bind fun r=>match r with
  | .own es=>if ds.length+es.length<=sizeLine then some (.nx (ρ.set i (some (.own (ds++es))))) else none
  | _=>none
 | _=>none
theorem rs_ext{te:TE}{f:En->Option Sl}{i:Nat}(hsl:R.slot i)(h:RE K R te f):RS K R (tDrop (tBM K "list" rExtend (tVar i) (tCons te tNil))) (mExt i f):=fun HB S0 σ ρ H0 H x e o ho D d=>by
 unfold mExt at ho
 split at ho
 . rename_i ds hj;obtain ⟨r,hr,ho⟩:=Option.bind_eq_some_iff.mp ho
   split at ho
   . rename_i es
     split at ho
     . rename_i hl
       cases ho
       obtain ⟨a,vs,hi,hs,g1,g2,g3,g4⟩:=own_of (K:=K) e hsl hj;refine ⟨.ref a,hs, .inl ⟨rfl,vs,SqL.of g3⟩,?_⟩;refine h HB σ ρ H0 H x.s1 e _ hr _ fun v H1 J1 x1 p1=> ?_;obtain ⟨a',vs',rfl,n1,n2,n3,n4⟩:=p1;have l0:=x1.own a _ g3 g2;refine ⟨a,a',vs,vs',rfl,rfl,x1.s _ _ g3,n3,by rw [g4.length,n4.length];exact hl,?_⟩;exact d σ H1 _ ((x.chain x1).write g1 l0 _) ⟨RelOk.write (K:=K) (e.ext (K:=K) x1).r hsl hi hs g1 l0 (x1.s _ _ g3) (Reps.append (Reps.same x1.s0 g4) n4)⟩
     . cases ho
   . cases ho
 . cases ho
def PinP(K:W.Frag)(i:Nat)(a:Addr)(ds:List PyData):Rl:=⟨fun HB H0 H σ ρ=>ER K HB H0 H σ ρ/\σ[i]? = some (some (.ref a))/\ρ[i]? = some (some (.own ds)),fun k=>k≠i/\(0:Nat)=0⟩
instance relOk_Pin {i:Nat} {a:Addr} {ds:List PyData}:RelOk K (PinP K i a ds) where
 ext:=fun x e=>⟨ER.ext x e.1,e.2⟩
 get:=fun e _ h=>ER.get e.1 _ _ h
 set:=fun {_ _ _ _ _ _ _ k _ _} e hs x s h=>⟨(relOk_PR (K:=K)).set e.1 trivial x s h,by rw [List.getElem?_set_ne hs.1];exact e.2.1,by rw [List.getElem?_set_ne hs.1];exact e.2.2⟩
 write:=fun e hs h1 h2 h3 h4 h5 h6=>⟨(relOk_PR (K:=K)).write e.1 trivial h1 h2 h3 h4 h5 h6,e.2.1,by rw [List.getElem?_set_ne hs.1];exact e.2.2⟩
 frz:=fun e hs h x=>by
  obtain ⟨H0',h1,h2⟩:=(relOk_PR (K:=K)).frz e.1 trivial h x;exact ⟨H0',h1,h2,e.2.1,by rw [List.getElem?_set_ne hs.1];exact e.2.2⟩
theorem pin_sub{i:Nat}{a:Addr}{ds:List PyData}{ix:List (Option Nat)}(hn:(ix.filterMap id).Nodup:=by decide)(HB:Hp)(σ:L2.St)(ρ:En)(H0 H:Hp)(h:(PinP K i a ds).r HB H0 H σ ρ):(PR K).r (fun _=>none) H0 H (subS ix σ) (subE ix ρ):=pr_sub hn HB σ ρ H0 H h.1
def tEx(t:Addr->List PyData->TS):TS:=fun D σ H=>∃a ds,t a ds D σ H
def mForN(i:Nat)(fg:PyData->En->Option En)(gb:En->Option Out):En->Option Out:=fun ρ=>match (ρ[i]?).join with
 | some (.own ds)=>forM fg gb ds ρ
 | _=>none
theorem st_pin{HB H0 H:Hp}{σ:L2.St}{ρ:En}{i:Nat}{a:Addr}{ds:List PyData}(e:ST (PinP K i a ds) HB H0 H σ ρ):ST (PR K) HB H0 H σ ρ:=⟨e.r.1⟩
theorem rs_forN {g : Addr -> List PyData -> TG} {tb : Addr -> List PyData -> TS} {i : Nat} {fg : PyData -> En -> Option En} {gb : En -> Option Out} (hg : ∀ a ds, RG K (PinP K i a ds) (g a ds) fg) (hb : ∀ a ds, RS K (PinP K i a ds) (tb a ds) gb) :
 RS K (PR K) (tFor (iList K (tVar i)) (fun v σ H Q=>∃a ds,g a ds v σ H Q) (tEx tb)) (mForN i fg gb):=fun HB S0 σ ρ H0 H x e o ho D d=>by
 unfold mForN at ho
 split at ho
 . rename_i ds hj;obtain ⟨a,vs,hi,hs,g1,g2,g3,g4⟩:=own_of (K:=K) e trivial hj;refine ⟨.ref a,hs,a,rfl,⟨vs,SqL.of g3⟩,?_⟩;refine ⟨fun n m σ' H'=>m=ds.length - n/\∃ρ' H0',n<=ds.length/\Ext S0 HB H0' H'/\ST (PinP K i a ds) HB H0' H' σ' ρ'/\forM fg gb (ds.drop n) ρ'=some o,⟨_,rfl,ρ,H0,Nat.zero_le _,x,⟨e.r,hs,hi⟩,by simpa using ho⟩,?_⟩;rintro n m σ1 H1 ⟨rfl,ρ1,H01,hle,x1,e1,hf⟩;obtain ⟨v,w1,w2⟩:=ER.get e1.r.1 _ _ e1.r.2.2;rw [e1.r.2.1] at w1
   cases w1
   obtain ⟨a',vs1,ea,b1,b2,b3,b4⟩:=w2
   cases ea
   by_cases hlt:n<ds.length
   . right;have hd:ds[n]? = some ds[n]:=List.getElem?_eq_getElem hlt;obtain ⟨v1,c1,c2⟩:=Tf.Reps.get b4 hd;rw [forM_drop hd] at hf
     obtain ⟨ρ2,hr2,hf⟩:=Option.bind_eq_some_iff.mp hf;obtain ⟨o2,ho2,hf⟩:=Option.bind_eq_some_iff.mp hf
     refine ⟨⟨vs1,v1,SqL.of b3,c1⟩,fun σ' H'=>∃ρ' H0',Ext S0 HB H0' H'/\ST (PinP K i a ds) HB H0' H' σ' ρ'/\forM fg gb (ds.drop (n+1)) ρ'=some o,
      fun σ' H' ⟨ρ',H0',z1,z2,z3⟩=>⟨ds.length - (n+1),by omega,rfl,ρ',H0',hlt,z1,z2,z3⟩,fun u H2 y=> ?_⟩
     obtain ⟨rfl,y⟩:=y;have hu:=y vs1 (SqL.of b3);rw [c1] at hu
     cases hu
     refine ⟨a,ds,hg a ds HB σ1 ρ1 ρ2 H01 H2 v1 _ x1.s1 x1.s e1 c2 hr2 _ fun σ2 e2=>⟨a,ds,?_⟩⟩;refine hb a ds HB S0 σ2 ρ2 H01 H2 x1 e2 o2 ho2 _ ?_
     cases o2 with
     | nx ρ3=>exact fun σ' H0'' H' p q=>⟨ρ3,H0'',p,q,hf⟩
     | ct ρ3=>exact fun σ' H0'' H' p q=>⟨ρ3,H0'',p,q,hf⟩
     | bk ρ3=>cases hf;exact fun σ' H0'' H' p q=>d σ' H0'' H' p (st_pin q)
     | rt r ρ3=>cases hf;exact fun v σ' H0'' H' p q c=>d v σ' H0'' H' p (st_pin q) c
   . left;refine ⟨⟨vs1,SqL.of b3,by rw [b4.length];omega⟩,?_⟩;rw [List.drop_eq_nil_of_le (by omega)] at hf
     cases hf
     exact d σ1 H01 H1 x1 (st_pin e1)
 . cases ho
end
section
variable {X:Cx} {R R':Rl} [RelOk X.K R] [RelOk X.K R'] {a b c e:Expr} {pos p p2 pos2:Pos} {f g fa fb fc:En->Option Sl} {fs:En->Option (List PyData)} {fq:En->Option (List Sl)} {tg:Expr} {x:Str}
theorem di_rev (hm:X.mg "reversed" = none) (h:DA X R [a] fs) (hg:Gl X "reversed" :=by rfl) (hs:starEach [a] X.env = [(false,eval a X.env)]:=by rfl):DI X R tg (.Call (.Name "reversed" p) [a] [] pos) (mRevI fs):=by
 obtain ⟨t,h1,h2⟩:=h;exact ⟨_,pi_rev hg hm h1 hs,ri_rev h2⟩
theorem di_seq(h:DE X R e f):DI X R tg e (mItemsS f):=by
 obtain ⟨t,h1,h2⟩:=h;exact ⟨_,pi_seq h1,ri_seq h2⟩
theorem de_tupRev (hm : X.mg "reversed" = none) (hm2 : X.mg "tuple" = none) (h : DQ X R [a] fq) (hc : X.calm = true := by rfl) (hg : Gl X "reversed" := by rfl) (hg2 : Gl X "tuple" := by rfl) (hs : starEach [a] X.env = [(false, eval a X.env)] := by rfl)
 (hs2:starEach [.Call (.Name "reversed" p) [a] [] pos] X.env = [(false,eval (.Call (.Name "reversed" p) [a] [] pos) X.env)]:=by rfl):DE X R (.Call (.Name "tuple" p2) [.Call (.Name "reversed" p) [a] [] pos] [] pos2) (mCallP dTupRev fq):=by
 obtain ⟨t,h1,h2⟩:=h;exact ⟨_,pe_tupRev hc hg hm hg2 hm2 h1 hs hs2,re_tupRev h2⟩
theorem ds_ext (i : Nat) {apos cpos : Pos} (h : DE X R e f) (hN : X.N[i]? = some x := by rfl) (hv : Vis X.env.scope x := by first | exact Or.inl rfl | exact Or.inr (Or.inl rfl) | exact Or.inr (Or.inr rfl)) (hd : (x == ("__debug__" : Str)) = false := by decide) (hcd : (x == ("__classdict__" : Str)) = false := by decide)
 (hst:starEach [e] X.env=(false,eval e X.env)::starEach [] X.env:=by rfl) (hbase:attributeBase (.Name x p) "extend" X.env (eval (.Name x p) X.env)=eval (.Name x p) X.env:=by rfl)
 (hfew:((backTo cpos (starEach [e] X.env)).all (fun x=> !x.1) && (backToKw cpos (keywordEach [] X.env)).all (fun x=>x.1.isSome) && decide ([e].length+([]:List Keyword).length+(if ([]:List Keyword).isEmpty then 0 else 1)<30))=true:=by rfl)
 (hline:(apos.endLine==cpos.line)=true:=by rfl) (hplain:(backTo cpos (starEach [] X.env)).any (·.1)=false:=by rfl)
 (hs:swapsWith (.Call (.Attribute (.Name x p) "extend" apos) [e] [] cpos) none pos.line X.env=pure false:=by rfl) (hsl:R.slot i:=by first | exact True.intro | exact ⟨of_decide_eq_true rfl,of_decide_eq_true rfl⟩):DS X R (.Expr (.Call (.Attribute (.Name x p) "extend" apos) [e] [] cpos) pos) (mExt i f):=by
 obtain ⟨t,h1,h2⟩:=h;exact ⟨_,ps_expr (pe_bm PySem.F.plainAttrs_list PySem.F.slot_list_extend PySem.F.type_list_extend mt_extend (pe_var hN hv hd hcd) (pa_cons h1 pa_nil hst) hbase hfew hline hst hplain) hs,rs_ext hsl h2⟩
theorem ds_forN {K : W.Frag} (i : Nat) {sts : List Stmt} {gb : En -> Option Out} {fg : PyData -> En -> Option En} (hK : X.K = K) (hp : PassesOwn (model X.prog X.w) X.A X.env X.xe) (hg : ∀ a ds, DG X (PinP K i a ds) tg fg) (hb : ∀ a ds, DSs X (PinP K i a ds) sts gb)
 (hN:X.N[i]? = some x:=by rfl) (hv:Vis X.env.scope x:=by first | exact Or.inl rfl | exact Or.inr (Or.inl rfl) | exact Or.inr (Or.inr rfl)) (hd:(x==("__debug__" : Str))=false:=by decide) (hcd:(x==("__classdict__" : Str))=false:=by decide)
 (hc:X.calm=true:=by rfl) (hfs:∀q,foldedSetIterable (.Name x p) X.env q=pure q:=by intro _;rfl) :
 DS X (PR K) (.For tg (.Name x p) sts [] pos) (mForN i fg gb):=by
 subst hK;refine ⟨_,ps_for hp hc (pi_list (pe_var hN hv hd hcd)) (g:=fun v σ H Q=>∃a ds,(hg a ds).choose v σ H Q) ?_ (tb:=tEx fun a ds=>(hb a ds).choose) ?_ hfs,rs_forN (fun a ds=>(hg a ds).choose_spec.2) (fun a ds=>(hb a ds).choose_spec.2)⟩
 . intro pins s σ H v u Q I r h;obtain ⟨a,ds,h⟩:=h;exact (hg a ds).choose_spec.1 pins s σ H v u Q I r h
 . intro pins s σ H D I h;obtain ⟨a,ds,h⟩:=h;exact (hb a ds).choose_spec.1 pins s σ H D I h
end
theorem wp_forN{α:Type}{en:α->PyData}{xs:List α}{i:Nat}{ρ:En}{fg:PyData->En->Option En}{g:En->Option Out}{Z:Out->Prop}(P:Nat->En->Prop)(hi:(ρ[i]?).join=some (.own (xs.map en)))(h0:P 0 ρ)(hs:∀(j:Nat) x ρ,xs[j]? = some x->P j ρ->∃ρ1,fg (en x) ρ=some ρ1/\Wp g ρ1 (Lp (P (j+1)) Z))(k:∀ρ',P xs.length ρ'->Z (.nx ρ')):Wp (mForN i fg g) ρ Z:=by
 obtain ⟨o,h1,h2⟩:=wp_forL (fi:=fun _=>some (xs.map en)) P rfl h0 hs k;refine ⟨o,?_,h2⟩;unfold mForN;rw [hi];exact h1
theorem ext_to{i:Nat}{f:En->Option Sl}{ρ:En}{ds es:List PyData}(h:f ρ=some (.own es))(ho:(ρ[i]?).join=some (.own ds))(hl:ds.length+es.length<=sizeLine):mExt i f ρ=some (.nx (ρ.set i (some (.own (ds++es))))):=by
 unfold mExt;rw [ho];show Option.bind (f ρ) _=_;rw [h];show (if ds.length+es.length<=sizeLine then _ else _)=_;rw [if_pos hl]
end Dm
namespace Tf
open PySem PySem.Spec PyProof.Rows L2
section
variable {prog:Program} {w:World} {A:Around} {E:Value->Shared->Prop} {s:Shared}
theorem nxt_tup {j t : Addr} {n : Nat} {us} {u : Value} {Q : Value -> Shared -> Prop} (st : s.heap.IsTupleIter j t n) (tu : s.heap.IsTuple t us) (hu : us[n]? = some u)
 (q:∀h',h'.IsTupleIter j t (n+1)->Heap.SameBut j s.heap h'->Q u { s with heap:=h' }):wpAny (model prog w) A (Builtin.SmallTypes.nextOf (.ref j)) Q E s:=by
 obtain ⟨o1,g1,c1,d1⟩:=id st;obtain ⟨o2,g2,_,n2,d2⟩:=tu;unfold Builtin.SmallTypes.nextOf
 refine wpAny_bind (wpAny_callSpecial?_slot (name:=Str.ofString "__next__") st.typeIs PySem.F.slot_tuple_iterator_next
  (wpAny_call_entry PySem.F.slot_tuple_iterator_next st.typeIs PySem.F.entry_tuple_iterator_next ?_ (PySem.F.args_tuple_iterator_next_1 _)))
 show wpAny _ _ (field (.ref j) 0 >>= _) _ _ s;refine wpAny_bind (wpAny_field g1 d1 (x:= .ref t) rfl ?_);show wpAny _ _ (if (Value.ref t==Value.none)=true then _ else _) _ _ s;rw [if_neg (show ¬((Value.ref t==Value.none)=true) from Bool.false_ne_true)];show wpAny _ _ (field (.ref j) 1 >>= _) _ _ s;refine wpAny_bind (wpAny_field g1 d1 (x:= .int n 0) rfl ?_);show wpAny _ _ (seqItems? (.ref t) >>= _) _ _ s;refine wpAny_bind (wpAny_seqItems g2 d2 ?_);simp only [Int.toNat_natCast,hu];refine wpAny_bind (wpAny_setField g1 d1 (by simp) (wpAny_pure ⟨u,rfl,wpAny_pure (q _ ?_ (Heap.SameBut.update ..))⟩));exact ⟨_,Heap.get?_update_self _ g1 (Obj.isFreed_of_fields (Obj.data_mapFields d1 _)),(Obj.cls_mapFields ..).trans c1,by rw [Obj.data_mapFields d1];simp [rawInt]⟩
theorem nxt_tupEnd {j t : Addr} {n : Nat} {us} {Q : Value -> Shared -> Prop} (hh : A.handled = none) (st : s.heap.IsTupleIter j t n) (tu : s.heap.IsTuple t us) (hu : us[n]? = none)
 (q:∀h' e,Heap.ExtBut j s.heap h'->(∃o,h'.get? e=some o/\o.cls = .type "StopIteration")->E (.ref e) { s with heap:=h' }):wpAny (model prog w) A (Builtin.SmallTypes.nextOf (.ref j)) Q E s:=by
 obtain ⟨o1,g1,c1,d1⟩:=id st;obtain ⟨o2,g2,_,n2,d2⟩:=tu;unfold Builtin.SmallTypes.nextOf
 refine wpAny_bind (wpAny_callSpecial?_slot (name:=Str.ofString "__next__") st.typeIs PySem.F.slot_tuple_iterator_next
  (wpAny_call_entry PySem.F.slot_tuple_iterator_next st.typeIs PySem.F.entry_tuple_iterator_next ?_ (PySem.F.args_tuple_iterator_next_1 _)))
 show wpAny _ _ (field (.ref j) 0 >>= _) _ _ s;refine wpAny_bind (wpAny_field g1 d1 (x:= .ref t) rfl ?_);show wpAny _ _ (if (Value.ref t==Value.none)=true then _ else _) _ _ s;rw [if_neg (show ¬((Value.ref t==Value.none)=true) from Bool.false_ne_true)];show wpAny _ _ (field (.ref j) 1 >>= _) _ _ s;refine wpAny_bind (wpAny_field g1 d1 (x:= .int n 0) rfl ?_);show wpAny _ _ (seqItems? (.ref t) >>= _) _ _ s;refine wpAny_bind (wpAny_seqItems g2 d2 ?_);simp only [Int.toNat_natCast,hu];refine wpAny_bind (wpAny_rule (wpAny_bind (wpAny_setField g1 d1 (by simp) ?_)));show wpAny _ _ (newExc (.type "StopIteration") [] >>= _) _ _ _;refine wpAny_bind ?_;simp only [newExc,newTuple];refine wpAny_bind (wpAny_newObj_type ?_ (by size_fits));refine wpAny_bind (m:=firstArgMember _ _) (wpAny_of_eq (a:=Value.none) (by first | rfl | (simp only [firstArgMember];rfl)) ?_);refine wpAny_newObj_type ?_ (by size_fits);simp only [raiseNew];refine wpAny_bind (wpAny_handled ?_)
 first | rw [show A.in1.handled=none from hh] | rw [hh]
 refine wpAny_bind (wpAny_pure (wpAny_throw ?_));exact q _ _ (((Heap.SameBut.update ..).extBut.push _).push _) ⟨_,Heap.get?_push_size _ rfl,rfl⟩
theorem tupIter_ext{h h':Heap}{j t b:Addr}{n:Nat}(st:h.IsTupleIter j t n)(k:∀c o,c≠b->h.get? c=some o->h'.get? c=some o)(hb:j≠b):h'.IsTupleIter j t n:=st.at fun o e=>k j o hb e
theorem tup_ext{h h':Heap}{t b:Addr}{us}(st:h.IsTuple t us)(k:∀c o,c≠b->h.get? c=some o->h'.get? c=some o)(hb:t≠b):h'.IsTuple t us:=by
 obtain ⟨o,e,r⟩:=st;exact ⟨o,k t o hb e,r⟩
theorem zipT_item {z TI TO j1 j2 t1 t2 : Addr} {n1 n2 : Nat} {xs ys : Array Value} {x y a b : Value} {Q : Value -> Shared -> Prop} (D : ZipApart z TI TO j1 j2 t1 t2)
 (hz:IsZip s.heap z TI TO .none) (hI:IsPair s.heap TI (.ref j1) (.ref j2)) (hO:IsPair s.heap TO a b)
 (s1:s.heap.IsTupleIter j1 t1 n1) (s2:s.heap.IsTupleIter j2 t2 n2) (l1:s.heap.IsTuple t1 xs) (l2:s.heap.IsTuple t2 ys) (hx:xs[n1]? = some x) (hy:ys[n2]? = some y)
 (q:∀h',IsZip h' z TI TO (rawInt s.heap.objs.size)->IsPair h' TO x y->h'.IsTupleIter j1 t1 (n1+1)->h'.IsTupleIter j2 t2 (n2+1)->IsPair h' s.heap.objs.size x y->h'.objs.size=s.heap.objs.size+1 ->
  (∀c o,c≠z->c≠TO->c≠j1->c≠j2->s.heap.get? c=some o->h'.get? c=some o)->Q (.ref s.heap.objs.size) { s with heap:=h' }) :
 wpAny (model prog w) A (Builtin.«zip.__next__» ⟨[.ref z], []⟩) (fun fin s' => ∃ v, fin = .done (.ret v) /\ Q v s') E s := by
 show wpAny _ _ (field (.ref z) 2 >>= _) _ _ _;refine wpAny_bind (wpAny_field hz rfl (x:= .bool false) rfl ?_);show wpAny _ _ (field (.ref z) 3 >>= _) _ _ _;refine wpAny_bind (wpAny_field hz rfl (x:= .ref TI) rfl ?_);refine wpAny_bind (wpAny_seqItems hI rfl ?_);show wpAny _ _ (Builtin.SmallTypes.ownedTupleIsFree (.ref z) >>= _) _ _ _;refine wpAny_bind ?_;unfold Builtin.SmallTypes.ownedTupleIsFree;refine wpAny_bind (wpAny_field hz rfl (x:= .none) rfl (wpAny_pure ?_));simp only [if_true];refine wpAny_bind (wpAny_rule ?_);refine wpAny_bind (wpAny_field hz rfl (x:= .ref TO) rfl ?_);refine wpAny_bind (wpAny_setField_rec hz (by simp) fun H1 z1 k1=> ?_)
 replace z1:IsZip H1 z TI TO .ellipsis:=z1
 refine wpAny_bind ?_;simp only [List.zipIdx_cons,List.zipIdx_nil,List.forIn_cons,List.forIn_nil];refine wpAny_bind (wpAny_bind (wpAny_onRaise ?_));show wpAny _ _ (Builtin.SmallTypes.nextOf (.ref j1) >>= _) _ _ _;refine wpAny_bind (nxt_tup (tupIter_ext s1 k1.extBut D.i1z) (tup_ext l1 k1.extBut D.l1z) hx fun H2 i2 k2=>wpAny_pure ?_);have O2:IsPair H2 TO a b:=k2.extBut _ _ D.TOi1 (k1.extBut _ _ D.TOz hO);refine wpAny_bind (wpAny_seqItems O2 rfl ?_);refine wpAny_bind (wpAny_updateSeq_pair O2 fun H3 O3 k3=> ?_)
 replace O3:IsPair H3 TO x b:=O3
 refine wpAny_bind (wpAny_letGo (wpAny_pure ?_));refine wpAny_bind (wpAny_bind (wpAny_onRaise ?_));show wpAny _ _ (Builtin.SmallTypes.nextOf (.ref j2) >>= _) _ _ _;refine wpAny_bind (nxt_tup (tupIter_ext (tupIter_ext (tupIter_ext s2 k1.extBut D.i2z) k2.extBut D.i12.symm) k3.extBut D.TOi2.symm) (tup_ext (tup_ext (tup_ext l2 k1.extBut D.l2z) k2.extBut D.l2i1) k3.extBut D.l2TO) hy fun H4 i4 k4=>wpAny_pure ?_);have O4:IsPair H4 TO x b:=k4.extBut _ _ D.TOi2 O3;refine wpAny_bind (wpAny_seqItems O4 rfl ?_);refine wpAny_bind (wpAny_updateSeq_pair O4 fun H5 O5 k5=> ?_)
 replace O5:IsPair H5 TO x y:=O5
 refine wpAny_bind (wpAny_letGo (wpAny_pure (wpAny_pure ?_)));refine wpAny_bind (wpAny_seqItems O5 rfl ?_);refine wpAny_bind (wpAny_newTuple ?_);have sz:H5.objs.size=s.heap.objs.size:=by rw [k5.1,k4.1,k3.1,k2.1,k1.1]
 have z5:IsZip H5 z TI TO .ellipsis:=k5.extBut _ _ D.TOz.symm (k4.extBut _ _ D.i2z.symm (k3.extBut _ _ D.TOz.symm (k2.extBut _ _ D.i1z.symm z1)))
 have keep:∀c o,c≠z->c≠TO->c≠j1->c≠j2->s.heap.get? c=some o->H5.get? c=some o:=fun c o c1 c2 c3 c4 e=>
  k5.extBut _ _ c2 (k4.extBut _ _ c4 (k3.extBut _ _ c2 (k2.extBut _ _ c3 (k1.extBut _ _ c1 e))))
 have i5:H5.IsTupleIter j1 t1 (n1+1):=tupIter_ext (tupIter_ext (tupIter_ext i2 k3.extBut D.TOi1.symm) k4.extBut D.i12) k5.extBut D.TOi1.symm;have i5':H5.IsTupleIter j2 t2 (n2+1):=tupIter_ext i4 k5.extBut D.TOi2.symm;have zlt:z<H5.objs.size:=Heap.lt_size z5;show wpAny _ _ (Builtin.SmallTypes.ownedTupleHandOut (.ref z) (.ref H5.objs.size) >>= _) _ _ _;refine wpAny_bind ?_;unfold Builtin.SmallTypes.ownedTupleHandOut;have z6:IsZip (H5.push { cls:= .type "tuple",data:= .seq #[x,y] }) z TI TO .ellipsis:=Heap.get?_push_of_some _ z5;refine wpAny_bind (wpAny_setField_rec z6 (by simp) fun H7 z7 k7=> ?_)
 replace z7:IsZip H7 z TI TO (rawInt H5.objs.size):=z7
 refine wpAny_setField_rec z7 (by simp) fun H8 z8 k8=> ?_
 replace z8:IsZip H8 z TI TO (rawInt H5.objs.size):=z8
 have up:∀c o,c≠z->H5.get? c=some o->H8.get? c=some o:=fun c o c1 e=>k8.extBut _ _ c1 (k7.extBut _ _ c1 (Heap.get?_push_of_some _ e));have T8:IsPair H8 H5.objs.size x y:=k8.extBut _ _ (Nat.ne_of_gt zlt) (k7.extBut _ _ (Nat.ne_of_gt zlt) (Heap.get?_push_size _ rfl));have n8:H8.objs.size=H5.objs.size+1:=by rw [k8.1,k7.1,Heap.size_push]
 rw [sz] at z8 T8 n8
 refine wpAny_pure ⟨_,rfl,?_⟩;show Q (.ref H5.objs.size) _;rw [sz];exact q H8 z8 (up _ _ D.TOz O5) (i5.at fun o e=>up _ o D.i1z e) (i5'.at fun o e=>up _ o D.i2z e) T8 n8 fun c o c1 c2 c3 c4 e=>up c o c1 (keep c o c1 c2 c3 c4 e)
theorem zipT_end {z TI TO j1 j2 t1 t2 : Addr} {n1 n2 : Nat} {xs ys : Array Value} {a b : Value} {Q : Fin -> Shared -> Prop} (hh : A.handled = none) (D : ZipApart z TI TO j1 j2 t1 t2)
 (hz:IsZip s.heap z TI TO .none) (hI:IsPair s.heap TI (.ref j1) (.ref j2)) (hO:IsPair s.heap TO a b)
 (s1:s.heap.IsTupleIter j1 t1 n1) (s2:s.heap.IsTupleIter j2 t2 n2) (l1:s.heap.IsTuple t1 xs) (l2:s.heap.IsTuple t2 ys) (fin:xs[n1]? = none\/ys[n2]? = none)
 (q:∀h' e,(∀c o,c≠z->c≠TO->c≠j1->c≠j2->s.heap.get? c=some o->h'.get? c=some o)->(∃o,h'.get? e=some o/\o.cls = .type "StopIteration")->E (.ref e) { s with heap:=h' }) :
 wpAny (model prog w) A (Builtin.«zip.__next__» ⟨[.ref z], []⟩) Q E s := by
 show wpAny _ _ (field (.ref z) 2 >>= _) _ _ _;refine wpAny_bind (wpAny_field hz rfl (x:= .bool false) rfl ?_);show wpAny _ _ (field (.ref z) 3 >>= _) _ _ _;refine wpAny_bind (wpAny_field hz rfl (x:= .ref TI) rfl ?_);refine wpAny_bind (wpAny_seqItems hI rfl ?_);show wpAny _ _ (Builtin.SmallTypes.ownedTupleIsFree (.ref z) >>= _) _ _ _;refine wpAny_bind ?_;unfold Builtin.SmallTypes.ownedTupleIsFree;refine wpAny_bind (wpAny_field hz rfl (x:= .none) rfl (wpAny_pure ?_));simp only [if_true];refine wpAny_bind (wpAny_rule ?_);refine wpAny_bind (wpAny_field hz rfl (x:= .ref TO) rfl ?_);refine wpAny_bind (wpAny_setField_rec hz (by simp) fun H1 z1 k1=> ?_)
 replace z1:IsZip H1 z TI TO .ellipsis:=z1
 refine wpAny_bind ?_;simp only [List.zipIdx_cons,List.zipIdx_nil,List.forIn_cons,List.forIn_nil];refine wpAny_bind (wpAny_bind (wpAny_onRaise ?_));show wpAny _ _ (Builtin.SmallTypes.nextOf (.ref j1) >>= _) _ _ _
 cases hx:xs[n1]? with
 | none=>
  refine wpAny_bind (nxt_tupEnd hh (tupIter_ext s1 k1.extBut D.i1z) (tup_ext l1 k1.extBut D.l1z) hx fun H2 e k2 st=> ?_);obtain ⟨oe,ge,ce⟩:=st;have z2:IsZip H2 z TI TO .ellipsis:=k2 _ _ D.i1z.symm z1;have ez:e≠z:=fun x=>by subst x;rw [z2] at ge;cases ge;simp at ce
  refine wpAny_setField_rec z2 (by simp) fun H3 _ k3=>q H3 e (fun c o c1 _ c3 _ x=>k3.extBut _ _ c1 (k2 _ _ c3 (k1.extBut _ _ c1 x))) ⟨oe,k3.extBut _ _ ez ge,ce⟩
 | some x=>
  have hy:ys[n2]? = none:=by rcases fin with h | h;rw [hx] at h;cases h;exact h
  refine wpAny_bind (nxt_tup (tupIter_ext s1 k1.extBut D.i1z) (tup_ext l1 k1.extBut D.l1z) hx fun H2 i2 k2=>wpAny_pure ?_);have O2:IsPair H2 TO a b:=k2.extBut _ _ D.TOi1 (k1.extBut _ _ D.TOz hO);refine wpAny_bind (wpAny_seqItems O2 rfl ?_);refine wpAny_bind (wpAny_updateSeq_pair O2 fun H3 O3 k3=> ?_);refine wpAny_bind (wpAny_letGo (wpAny_pure ?_));refine wpAny_bind (wpAny_bind (wpAny_onRaise ?_));show wpAny _ _ (Builtin.SmallTypes.nextOf (.ref j2) >>= _) _ _ _;refine wpAny_bind (nxt_tupEnd hh (tupIter_ext (tupIter_ext (tupIter_ext s2 k1.extBut D.i2z) k2.extBut D.i12.symm) k3.extBut D.TOi2.symm) (tup_ext (tup_ext (tup_ext l2 k1.extBut D.l2z) k2.extBut D.l2i1) k3.extBut D.l2TO) hy fun H4 e k4 st=> ?_);obtain ⟨oe,ge,ce⟩:=st;have z4:IsZip H4 z TI TO .ellipsis:=k4 _ _ D.i2z.symm (k3.extBut _ _ D.TOz.symm (k2.extBut _ _ D.i1z.symm z1));have ez:e≠z:=fun x=>by subst x;rw [z4] at ge;cases ge;simp at ce
  refine wpAny_setField_rec z4 (by simp) fun H5 _ k5=>q H5 e (fun c o c1 c2 c3 c4 x=>k5.extBut _ _ c1 (k4 _ _ c4 (k3.extBut _ _ c2 (k2.extBut _ _ c3 (k1.extBut _ _ c1 x))))) ⟨oe,k5.extBut _ _ ez ge,ce⟩
theorem nextT_item {z TI TO j1 j2 t1 t2 : Addr} {n1 n2 : Nat} {xs ys : Array Value} {x y a b : Value} {Q : Option Value -> Shared -> Prop} (D : ZipApart z TI TO j1 j2 t1 t2)
 (hz:IsZip s.heap z TI TO .none) (hI:IsPair s.heap TI (.ref j1) (.ref j2)) (hO:IsPair s.heap TO a b)
 (s1:s.heap.IsTupleIter j1 t1 n1) (s2:s.heap.IsTupleIter j2 t2 n2) (l1:s.heap.IsTuple t1 xs) (l2:s.heap.IsTuple t2 ys) (hx:xs[n1]? = some x) (hy:ys[n2]? = some y)
 (q:∀h',IsZip h' z TI TO (rawInt s.heap.objs.size)->IsPair h' TO x y->h'.IsTupleIter j1 t1 (n1+1)->h'.IsTupleIter j2 t2 (n2+1)->IsPair h' s.heap.objs.size x y->h'.objs.size=s.heap.objs.size+1 ->
  (∀c o,c≠z->c≠TO->c≠j1->c≠j2->s.heap.get? c=some o->h'.get? c=some o)->Q (some (.ref s.heap.objs.size)) { s with heap:=h' }) :
 wpAny (model prog w) A (pyNext (.ref z)) Q E s:=by
 have ty:s.TypeIs (.ref z) "zip" :=⟨_,hz,rfl⟩;unfold pyNext
 exact wpAny_bind (wpAny_attempt (wpAny_callSpecial?_slot (name:=Str.ofString "__next__") ty PySem.F.slot_zip_next
  (wpAny_call_entry PySem.F.slot_zip_next ty PySem.F.entry_zip_next
   (zipT_item D hz hI hO s1 s2 l1 l2 hx hy fun h' a1 a2 a3 a4 a5 a6 a7=>wpAny_pure (q h' a1 a2 a3 a4 a5 a6 a7)) (PySem.F.args_zip_next_1 _))))
theorem nextT_end {z TI TO j1 j2 t1 t2 : Addr} {n1 n2 : Nat} {xs ys : Array Value} {a b : Value} {Q : Option Value -> Shared -> Prop} (hh : A.handled = none) (D : ZipApart z TI TO j1 j2 t1 t2)
 (hz:IsZip s.heap z TI TO .none) (hI:IsPair s.heap TI (.ref j1) (.ref j2)) (hO:IsPair s.heap TO a b)
 (s1:s.heap.IsTupleIter j1 t1 n1) (s2:s.heap.IsTupleIter j2 t2 n2) (l1:s.heap.IsTuple t1 xs) (l2:s.heap.IsTuple t2 ys) (fin:xs[n1]? = none\/ys[n2]? = none)
 (q:∀h',(∀c o,c≠z->c≠TO->c≠j1->c≠j2->s.heap.get? c=some o->h'.get? c=some o)->Q none { s with heap:=h' }):wpAny (model prog w) A (pyNext (.ref z)) Q E s:=by
 have ty:s.TypeIs (.ref z) "zip" :=⟨_,hz,rfl⟩;unfold pyNext
 refine wpAny_bind (wpAny_attempt (wpAny_callSpecial?_slot (name:=Str.ofString "__next__") ty PySem.F.slot_zip_next
  (wpAny_call_entry PySem.F.slot_zip_next ty PySem.F.entry_zip_next (zipT_end hh D hz hI hO s1 s2 l1 l2 fin fun h' e k st=> ?_) (PySem.F.args_zip_next_1 _))))
 obtain ⟨o,g,c⟩:=st;refine wpAny_bind (wpAny_isInstance (T:= "StopIteration") (b:=true) ⟨o,g,c⟩ isSubtype_stop ?_);exact wpAny_pure (q _ k)
end
abbrev zt1 (h:Heap) (a:Addr):Heap:=h.push { cls:= .type "tuple_iterator",data:= .fields #[.ref a, .int 0 0] }
abbrev zt2 (h:Heap) (a b:Addr):Heap:=(zt1 h a).push { cls:= .type "tuple_iterator",data:= .fields #[.ref b, .int 0 0] }
abbrev zt3 (h:Heap) (a b:Addr):Heap:=(zt2 h a b).push { cls:= .type "tuple",data:= .seq #[.ref h.objs.size, .ref (zt1 h a).objs.size] }
abbrev zt4 (h:Heap) (a b:Addr):Heap:=(zt3 h a b).push { cls:= .type "tuple",data:= .seq #[.none, .none] }
abbrev zt5 (h:Heap) (a b:Addr):Heap:=(zt4 h a b).push { cls:= .type "zip",data:= .fields #[.none, .bool false, .bool false, .ref (zt2 h a b).objs.size, .ref (zt3 h a b).objs.size] }
theorem tuple_push{h:Heap}{t:Addr}{us}{o:Obj}(x:h.IsTuple t us):(h.push o).IsTuple t us:=by
 obtain ⟨o',e,r⟩:=x;exact ⟨o',Heap.get?_push_of_some _ e,r⟩
theorem meetsT_new (a b : Addr) (xs ys : Array Value) :
 Meets (Builtin.«zip.__new__» ⟨[.type "zip", .ref a, .ref b], []⟩) (fun _ R s => s.heap.IsTuple a xs /\ s.heap.IsTuple b ys /\ R (.ok (.ret (.ref (zt4 s.heap a b).objs.size))) { s with heap := zt5 s.heap a b }) :=
 .of_wp fun prog w A R s h=>by
  obtain ⟨hp,g,d,tk,os⟩:=s;obtain ⟨x1,x2,h⟩:=h;have hsub:=sub_zip;have y1:Heap.IsTuple (Shared.heap ⟨hp,g,d,tk,os⟩) a xs:=x1;have y2:Heap.IsTuple (Shared.heap ⟨hp.push { cls:= .type "tuple_iterator",data:= .fields #[.ref a, .int 0 0] },g,d,tk,os⟩) b ys:=tuple_push x2
  wp_walk using wpAny_pyIter_tuple y1,wpAny_pyIter_tuple y2
  exact ⟨_,rfl,h⟩
section
variable {prog:Program} {w:World} {A:Around} {E:Value->Shared->Prop} {s:Shared}
theorem call_zipT {a b : Addr} {xs ys : Array Value} {Q : Value -> Shared -> Prop} (x1 : s.heap.IsTuple a xs) (x2 : s.heap.IsTuple b ys)
 (q:∀h',IsZip h' (s.heap.objs.size+4) (s.heap.objs.size+2) (s.heap.objs.size+3) .none->IsPair h' (s.heap.objs.size+2) (.ref s.heap.objs.size) (.ref (s.heap.objs.size+1)) ->
  IsPair h' (s.heap.objs.size+3) .none .none->h'.IsTupleIter s.heap.objs.size a 0->h'.IsTupleIter (s.heap.objs.size+1) b 0->(∀c o,s.heap.get? c=some o->h'.get? c=some o)->Q (.ref (s.heap.objs.size+4)) { s with heap:=h' }) :
 wpAny (model prog w) A (call (.type "zip") [.ref a, .ref b]) Q E s:=by
 refine callType_new PySem.F.called_zip (by decide) (PySem.F.typeCall_zip_2 _ _) (PySem.F.newCall_zip_2 _ _) (fun obj=>PySem.F.args_object_init_3 obj _ _) PySem.F.entry_zip_new (meetsT_new a b xs ys) ⟨x1,x2,?_⟩;have e1:(zt1 s.heap a).objs.size=s.heap.objs.size+1:=Heap.size_push ..;have e2:(zt2 s.heap a b).objs.size=s.heap.objs.size+2:=by rw [Heap.size_push,e1]
 have e3:(zt3 s.heap a b).objs.size=s.heap.objs.size+3:=by rw [Heap.size_push,e2]
 have e4:(zt4 s.heap a b).objs.size=s.heap.objs.size+4:=by rw [Heap.size_push,e3]
 have g5:(zt5 s.heap a b).get? (zt4 s.heap a b).objs.size=some _:=Heap.get?_push_size _ rfl;have g4:(zt5 s.heap a b).get? (zt3 s.heap a b).objs.size=some _:=Heap.get?_push_of_some _ (Heap.get?_push_size _ rfl);have g3:(zt5 s.heap a b).get? (zt2 s.heap a b).objs.size=some _:=Heap.get?_push_of_some _ (Heap.get?_push_of_some _ (Heap.get?_push_size _ rfl));have g2:(zt5 s.heap a b).get? (zt1 s.heap a).objs.size=some _:=Heap.get?_push_of_some _ (Heap.get?_push_of_some _ (Heap.get?_push_of_some _ (Heap.get?_push_size _ rfl)));have g1:(zt5 s.heap a b).get? s.heap.objs.size=some _:=Heap.get?_push_of_some _ (Heap.get?_push_of_some _ (Heap.get?_push_of_some _ (Heap.get?_push_of_some _ (Heap.get?_push_size _ rfl))));show _/\_;rw [e2,e3,e4] at g5
 rw [e1,e2] at g3
 rw [e3] at g4
 rw [e1] at g2
 rw [e4];refine ⟨⟨_,g5,rfl⟩,q _ g5 g3 g4 ⟨_,g1,rfl,rfl⟩ ⟨_,g2,rfl,rfl⟩ fun c o e=> ?_⟩;exact Heap.get?_push_of_some _ (Heap.get?_push_of_some _ (Heap.get?_push_of_some _ (Heap.get?_push_of_some _ (Heap.get?_push_of_some _ e))))
end
def Ity(K:W.Frag)(a b:Addr):It:=
 ⟨fun i H=>∃xs ys x y,SqT K H a xs/\SqT K H b ys/\xs[i]? = some x/\ys[i]? = some y,
  fun i H v H'=>∃p x y,H p=none/\v = .ref p/\H'=upd H p (.tup [x,y])/\(∀xs,SqT K H a xs->xs[i]? = some x)/\(∀ys,SqT K H b ys->ys[i]? = some y),
  fun i H=>∃xs ys,SqT K H a xs/\SqT K H b ys/\(xs.length<=i\/ys.length<=i)⟩
def tnZipT(z TI TO i1 i2 l1 l2:Addr)(i:Nat)(h:Heap):Prop:=IsZip h z TI TO .none/\IsPair h TI (.ref i1) (.ref i2)/\(∃a b,IsPair h TO a b)/\h.IsTupleIter i1 l1 i/\h.IsTupleIter i2 l2 i
theorem turn_zipT {P : Program} {w : World} {K : W.Frag} {elts : List Expr} {k : Nat} {pos : Pos} {z TI TO i1 i2 l1 l2 : Addr} (D : ZipApart z TI TO i1 i2 l1 l2) :
 Turn P w K (.Tuple elts k pos) (Ity K l1 l2) [z,TI,TO,i1,i2] z (tnZipT z TI TO i1 i2 l1 l2) where
 mem:=by simp
 obj:=fun i h st b hb=>by
  obtain ⟨h1,h2,⟨a,c,h3⟩,⟨o4,h4,_,d4⟩,⟨o5,h5,_,d5⟩⟩:=st;simp only [List.mem_cons,List.not_mem_nil,or_false] at hb
  rcases hb with rfl | rfl | rfl | rfl | rfl
  . exact ⟨_,h1,fun v e=>(nomatch e)⟩
  . exact ⟨_,h2,fun v e=>(nomatch e)⟩
  . exact ⟨_,h3,fun v e=>(nomatch e)⟩
  . exact ⟨_,h4,fun v e=>by rw [d4] at e;cases e⟩
  . exact ⟨_,h5,fun v e=>by rw [d5] at e;cases e⟩
 keep:=fun i h h' st kk=>by
  obtain ⟨h1,h2,⟨a,c,h3⟩,h4,h5⟩:=st;exact ⟨kk z (by simp) _ h1,kk TI (by simp) _ h2,⟨a,c,kk TO (by simp) _ h3⟩,h4.at fun o e=>kk i1 (by simp) o e,h5.at fun o e=>kk i2 (by simp) o e⟩
 item:=by
  intro X hP hw hK hc i pins s σ H E I hf st hg;subst hP hw hK;obtain ⟨h1,h2,⟨a,c,h3⟩,h4,h5⟩:=st;obtain ⟨xs,ys,x,y,q1,q2,hx,hy⟩:=hg;obtain ⟨its,rv,p,hz⟩:=I.tuple q1;obtain ⟨jts,rw',p',hz'⟩:=I.tuple q2;obtain ⟨u,hu,ru⟩:=rv.get hx;obtain ⟨u',hu',ru'⟩:=rw'.get hy;have ltS:∀ {h:Heap} {b:Addr} {o:Obj},h.get? b=some o -> @LT.lt Nat _ b h.objs.size:=fun e=>Heap.lt_size e;refine nextT_item D h1 h2 h3 h4 h5 p p' (x:=u) (y:=u') (by simpa using hu) (by simpa using hu') fun h' a1 a2 a3 a4 a5 a6 hk=> ?_;refine ⟨_,rfl,wpAny_letOwnedTupleGo_zip a1 fun h'' a1' sb=> ?_⟩;have ch:∀b ∈ [z,TI,TO,i1,i2],H b=none:=fun b hb=>(hf b hb).1
  have kk:∀b o,b ∉ [z,TO,i1,i2]->s.heap.get? b=some o->h''.get? b=some o:=fun b o hb e=>by
   simp only [List.mem_cons,List.not_mem_nil,or_false,not_or] at hb
   exact sb.extBut b o hb.1 (hk b o hb.1 hb.2.1 hb.2.2.1 hb.2.2.2 e)
  have eT:h''.get? s.heap.objs.size=some { cls:= .type "tuple",data:= .seq #[u,u'] }:=sb.extBut _ _ (fun e=>by have l:=ltS h1;rw [<-e] at l;omega) a5
  have sub:∀b,b ∈ [z,TO,i1,i2]->b ∈ [z,TI,TO,i1,i2]:=fun b hb=>by
   simp only [List.mem_cons,List.not_mem_nil,or_false] at hb ⊢
   rcases hb with r | r | r | r
   . exact .inl r
   . exact .inr (.inr (.inl r))
   . exact .inr (.inr (.inr (.inl r)))
   . exact .inr (.inr (.inr (.inr r)))
  have nT:H s.heap.objs.size=none:=I.hok.fresh (Nat.le_refl _)
  have hok1 : HOk X.prog X.w H h'' := fun b o e => (I.hok b o e).stay (fun d v hd q => kk d v (fun hm => by
   have n:=ch d (sub d hm);rcases hd with hd | hd
   . rw [hd,e] at n;cases n
   . rw [hd] at n;cases n) q) (fun _ q=>q) fun _ _ q=>q
  have hok2:HOk X.prog X.w (upd H s.heap.objs.size (.tup [x,y])) h'':=HOk_add hok1 nT ⟨by show 2<=sizeLine;decide,[u,u'], .cons ru (.cons ru' .nil),⟨_,eT,rfl,_,rfl⟩⟩
  have un:Un (frs X.stack) [z,TO,i1,i2] H (upd H s.heap.objs.size (.tup [x,y])) s.heap h'':=by
   refine ⟨fun b o e _ _ hx=>kk b o hx e,fun b o e _ _ hx=>⟨o.slots,kk b o hx e⟩,fun b o e n _=> ?_,fun b o e hx=>⟨o,kk b o hx e⟩,fun b zs e=> ?_,fun b o v e=> ?_,fun b ps e=>⟨#[],?_⟩⟩
   . have l:=ltS e;rw [upd_ne (by intro q;subst q;omega)];exact n
   . rw [upd_ne (ne_of_none e nT)];exact e
   . rw [upd_ne (ne_of_none e nT)];exact e
   . rw [upd_ne (ne_of_none e nT)];simpa using e
  have I2:Inv X pins σ (upd H s.heap.objs.size (.tup [x,y])) { s with heap:=h'' }:=I.call' rfl un hok2 I.bare fun b hb=>by
   obtain ⟨f0,f1,f2,f3,f4,f5⟩:=hf b (sub b hb);exact ⟨f3,f1,f4,f5⟩
  refine ⟨.ref s.heap.objs.size,_,I2,rfl,⟨s.heap.objs.size,x,y,nT,rfl,rfl,fun zs hq=> ?_,fun zs hq=> ?_⟩,⟨a1',?_,⟨_,_,sb.extBut _ _ D.TOz a2⟩,a3.extBut sb.extBut D.i1z,a4.extBut sb.extBut D.i2z⟩,fun b hb=> ?_⟩
  . rw [I.tuple_inj hq q1];exact hx
  . rw [I.tuple_inj hq q2];exact hy
  . exact sb.extBut _ _ D.TIz (hk TI _ D.TIz D.TITO D.TIi1 D.TIi2 h2)
  . have n:=ch b hb
    obtain ⟨o,e⟩:∃o,s.heap.get? b=some o:=by
     simp only [List.mem_cons,List.not_mem_nil,or_false] at hb
     rcases hb with rfl | rfl | rfl | rfl | rfl
     . exact ⟨_,h1⟩
     . exact ⟨_,h2⟩
     . exact ⟨_,h3⟩
     . obtain ⟨o,e,_⟩:=h4;exact ⟨o,e⟩
     . obtain ⟨o,e,_⟩:=h5;exact ⟨o,e⟩
    have l:=ltS e;rw [upd_ne (by intro q;subst q;omega)];exact n
 done:=by
  intro X hP hw hK hc i pins s σ H E I hf st hg;subst hP hw hK;obtain ⟨h1,h2,⟨a,c,h3⟩,h4,h5⟩:=st;obtain ⟨xs,ys,q1,q2,he⟩:=hg;obtain ⟨its,rv,p,hz⟩:=I.tuple q1;obtain ⟨jts,rw',p',hz'⟩:=I.tuple q2;have l1:=rv.length;have l2:=rw'.length;refine nextT_end (I.ok.hd hc) D h1 h2 h3 h4 h5 p p' (by rcases he with e | e;exact .inl (by simp;omega);exact .inr (by simp;omega)) fun h' hk=>⟨rfl,?_⟩;have ch:∀b ∈ [z,TI,TO,i1,i2],H b=none:=fun b hb=>(hf b hb).1
  have sub:∀b,b ∈ [z,TO,i1,i2]->b ∈ [z,TI,TO,i1,i2]:=fun b hb=>by
   simp only [List.mem_cons,List.not_mem_nil,or_false] at hb ⊢
   rcases hb with r | r | r | r
   . exact .inl r
   . exact .inr (.inr (.inl r))
   . exact .inr (.inr (.inr (.inl r)))
   . exact .inr (.inr (.inr (.inr r)))
  have kk:∀b o,b ∉ [z,TO,i1,i2]->s.heap.get? b=some o->h'.get? b=some o:=fun b o hb e=>by
   simp only [List.mem_cons,List.not_mem_nil,or_false,not_or] at hb
   exact hk b o hb.1 hb.2.1 hb.2.2.1 hb.2.2.2 e
  have hok1 : HOk X.prog X.w H h' := fun b o e => (I.hok b o e).stay (fun d v hd q => kk d v (fun hm => by
   have n:=ch d (sub d hm);rcases hd with hd | hd
   . rw [hd,e] at n;cases n
   . rw [hd] at n;cases n) q) (fun _ q=>q) fun _ _ q=>q
  have un:Un (frs X.stack) [z,TO,i1,i2] H H s.heap h' :=
   ⟨fun b o e _ _ hx=>kk b o hx e,fun b o e _ _ hx=>⟨o.slots,kk b o hx e⟩,fun b o e n _=>n,fun b o e hx=>⟨o,kk b o hx e⟩,fun b zs e=>e,fun b o v e=>e,fun b ps e=>⟨#[],by simpa using e⟩⟩
  exact I.call' rfl un hok1 I.bare fun b hb=>by
   obtain ⟨f0,f1,f2,f3,f4,f5⟩:=hf b (sub b hb);exact ⟨f3,f1,f4,f5⟩
 self:=fun _ _ _ _ _ st h=>wpAny_pyIter_zip st.1 h
section
variable {X:Cx}
def iZipS(K:W.Frag)(ta:TA):TI:=fun σ H R=>ta σ H fun vs H1=>∃l1 l2,vs = [.ref l1, .ref l2]/\(((∃xs,SqL K H1 l1 xs)/\(∃ys,SqL K H1 l2 ys)/\R (Itz K l1 l2) H1)\/((∃xs,SqT K H1 l1 xs)/\(∃ys,SqT K H1 l2 ys)/\R (Ity K l1 l2) H1))
theorem new5{n b:Nat}(hb:b ∈ [n+4,n+2,n+3,n,n+1]):n<=b:=by
 simp only [List.mem_cons,List.not_mem_nil,or_false] at hb
 omega
theorem pi_zipS {a b : Expr} {ta : TA} {elts : List Expr} {k : Nat} {tp p pos : Pos} (hg : Gl X "zip") (hm : X.mg "zip" = none) (ha : PA X [a, b] ta) (hs : starEach [a, b] X.env = [(false, eval a X.env), (false, eval b X.env)] := by rfl) (hs2 : starEach [b] X.env = [(false, eval b X.env)] := by rfl) :
 PI X (.Tuple elts k tp) (.Call (.Name "zip" p) [a,b] [] pos) (iZipS X.K ta):=by
 intro pins s σ H R I h;refine Call_ (ld_blt I hg hm bt_zip (PyProof.Rows.callWith_type1 (thn (ha pos pins s σ H _ I h) fun us s1 ⟨vs,H1,I1,r1,q1⟩ => ?_) (by rw [hs,hs2]) (by rw [hs2];rfl)));obtain ⟨l1,l2,e,q1⟩:=q1;subst e;obtain ⟨u,w',rfl,ru,rw'⟩:=vals2 r1
 cases (show u=Value.ref l1 from ru)
 cases (show w'=Value.ref l2 from rw')
 rcases q1 with ⟨⟨xs,q1⟩,⟨ys,q2⟩,q⟩ | ⟨⟨xs,q1⟩,⟨ys,q2⟩,q⟩
 . obtain ⟨its,rv,p1,hz⟩:=I1.list q1;obtain ⟨jts,rv',p2,hz'⟩:=I1.list q2;have lt1:l1<s1.heap.objs.size:=by obtain ⟨o,n,e,_⟩:=p1;exact Heap.lt_size e
   have lt2:l2<s1.heap.objs.size:=by obtain ⟨o,n,e,_⟩:=p2;exact Heap.lt_size e
   refine call_zip_2 p1.isList p2.isList fun h' a1 a2 a3 a4 a5 a6 hk=> ?_;refine wpAny_pyIter_zip (s:={ s1 with heap:=h' }) a1 ?_;exact ⟨_,[s1.heap.objs.size+4,s1.heap.objs.size+2,s1.heap.objs.size+3,s1.heap.objs.size,s1.heap.objs.size+1],_,_,H1,rfl,I1.kept (t':=s1.toks) hk,turn_zip (zipApart_new lt1 lt2),⟨a1,a2,⟨_,_,a3⟩,a4,a5⟩,fun b hb=>I1.fpOk (new5 hb) (I1.hok.fresh (new5 hb)),q⟩
 . obtain ⟨its,rv,p1,hz⟩:=I1.tuple q1;obtain ⟨jts,rv',p2,hz'⟩:=I1.tuple q2;have lt1:l1<s1.heap.objs.size:=by obtain ⟨o,e,_⟩:=p1;exact Heap.lt_size e
   have lt2:l2<s1.heap.objs.size:=by obtain ⟨o,e,_⟩:=p2;exact Heap.lt_size e
   refine call_zipT p1 p2 fun h' a1 a2 a3 a4 a5 hk=> ?_;refine wpAny_pyIter_zip (s:={ s1 with heap:=h' }) a1 ?_;exact ⟨_,[s1.heap.objs.size+4,s1.heap.objs.size+2,s1.heap.objs.size+3,s1.heap.objs.size,s1.heap.objs.size+1],_,_,H1,rfl,I1.kept (t':=s1.toks) hk,turn_zipT (zipApart_new lt1 lt2),⟨a1,a2,⟨_,_,a3⟩,a4,a5⟩,fun b hb=>I1.fpOk (new5 hb) (I1.hok.fresh (new5 hb)),q⟩
end
end Tf
namespace Dm
open PySem PySem.Spec PyProof.Rows L2 Tf
section
variable {K:W.Frag} {R:Rl} [RelOk K R]
theorem it_zipT{H0:Hp}{a b:Addr}{vs ws:List V}{ds es:List PyData}(h:SqT K H0 a vs)(r:Reps K H0 vs ds)(h2:SqT K H0 b ws)(r2:Reps K H0 ws es):ItR K H0 (Ity K a b) (zipD ds es):=fun H0' H' s s' i=>by
 have h':=s'.seqT (s.seqT h);have h2':=s'.seqT (s.seqT h2);refine ⟨fun d hd=> ?_,fun hi=>⟨vs,ws,h',h2',?_⟩⟩
 . unfold zipD at hd
   rw [List.getElem?_zipWith] at hd
   cases e1:ds[i]? with
   | none=>rw [e1] at hd;cases hd
   | some x=>
    cases e2:es[i]? with
    | none=>rw [e1,e2] at hd;cases hd
    | some y=>
     rw [e1,e2] at hd
     cases hd
     obtain ⟨v,q1,q2⟩:=Tf.Reps.get r e1;obtain ⟨w,q3,q4⟩:=Tf.Reps.get r2 e2;refine ⟨⟨vs,ws,v,w,h',h2',q1,q3⟩,fun z H2 yl=> ?_⟩;obtain ⟨p,x',y',hp,rfl,rfl,hx,hy⟩:=yl;have:=hx vs h';rw [q1] at this
     cases this
     have:=hy ws h2';rw [q3] at this
     cases this
     refine ⟨_,Ext.allocF s' hp _, .tuple (SqT.of upd_same) ?_⟩;have s2:=s.trans (Same.upd (s'.free hp) (.tup [v,w]));exact .cons (Rep.same s2 q2) (.cons (Rep.same s2 q4) .nil)
 . rw [r.length,r2.length];unfold zipD at hi
   rw [List.length_zipWith] at hi
   omega
def mZipS(f:En->Option (List PyData)):En->Option (List PyData):=fun ρ=>(f ρ).bind fun a=>match a with
 | [.list xs, .list ys]=>some (zipD xs ys)
 | [.tuple xs, .tuple ys]=>some (zipD xs ys)
 | _=>none
theorem ri_zipS{ta:TA}{f:En->Option (List PyData)}(h:RA K R ta f):RI K R (iZipS K ta) (mZipS f):=fun HB σ ρ H0 H s e ds hd R q=>by
 obtain ⟨a,ha,hd⟩:=Option.bind_eq_some_iff.mp hd
 split at hd
 . cases hd
   refine h HB σ ρ H0 H s e _ ha _ fun vs H1 J1 x1 p1=> ?_
   cases p1 with | cons p1 t=>cases t with | cons p2 t=>
    cases t
    cases p1 with | list a1 a2=>cases p2 with | list b1 b2=>
     exact ⟨_,_,rfl, .inl ⟨⟨_,x1.s1.seq a1⟩,⟨_,x1.s1.seq b1⟩,q _ _ _ x1 (it_zip a1 a2 b1 b2)⟩⟩
 . cases hd
   refine h HB σ ρ H0 H s e _ ha _ fun vs H1 J1 x1 p1=> ?_
   cases p1 with | cons p1 t=>cases t with | cons p2 t=>
    cases t
    cases p1 with | tuple a1 a2=>cases p2 with | tuple b1 b2=>
     exact ⟨_,_,rfl, .inr ⟨⟨_,x1.s1.seqT a1⟩,⟨_,x1.s1.seqT b1⟩,q _ _ _ x1 (it_zipT a1 a2 b1 b2)⟩⟩
 . cases hd
end
section
variable {X:Cx} {R:Rl} [RelOk X.K R] {a b:Expr} {pos p:Pos} {fs:En->Option (List PyData)}
theorem di_zipS {elts:List Expr} {k} {tp:Pos} (hm:X.mg "zip" = none) (h:DA X R [a,b] fs) (hg:Gl X "zip" :=by rfl) (hs:starEach [a,b] X.env = [(false,eval a X.env),(false,eval b X.env)]:=by rfl) (hs2:starEach [b] X.env = [(false,eval b X.env)]:=by rfl):DI X R (.Tuple elts k tp) (.Call (.Name "zip" p) [a,b] [] pos) (mZipS fs):=by
 obtain ⟨t,h1,h2⟩:=h;exact ⟨_,pi_zipS hg hm h1 hs hs2,ri_zipS h2⟩
end
end Dm
namespace Tf
open PySem PySem.Spec PyProof.Rows L2
def IteE(K:W.Frag)(a:Addr):It:=
 ⟨fun i H=>∃xs x,SqL K H a xs/\xs[i]? = some x,
  fun i H v H'=>∃p x,H p=none/\v = .ref p/\H'=upd H p (.tup [.int (i:Nat),x])/\(∀xs,SqL K H a xs->xs[i]? = some x),
  fun i H=>∃xs,SqL K H a xs/\xs.length<=i⟩
def tnEnum(e it l:Addr)(i:Nat)(h:Heap):Prop:=(∃old,IsEnum h e it (i:Nat) old)/\h.IsListIter it l i
theorem turn_enum {P : Program} {w : World} {K : W.Frag} {elts : List Expr} {k : Nat} {pos : Pos} {e it l : Addr} (hne : e ≠ it) :
 Turn P w K (.Tuple elts k pos) (IteE K l) [e,it] e (tnEnum e it l) where
 mem:=by simp
 obj:=fun i h st b hb=>by
  obtain ⟨⟨old,h1⟩,⟨o4,h4,_,d4⟩⟩:=st;simp only [List.mem_cons,List.not_mem_nil,or_false] at hb
  rcases hb with rfl | rfl
  . exact ⟨_,h1,fun v e=>(nomatch e)⟩
  . exact ⟨_,h4,fun v e=>by rw [d4] at e;cases e⟩
 keep:=fun i h h' st kk=>by
  obtain ⟨⟨old,h1⟩,h4⟩:=st;exact ⟨⟨old,kk e (by simp) _ h1⟩,h4.at fun o x=>kk it (by simp) o x⟩
 item:=by
  intro X hP hw hK hc i pins s σ H E I hf st hg;subst hP hw hK;obtain ⟨⟨old,h1⟩,h4⟩:=st;obtain ⟨xs,x,q1,hx⟩:=hg;obtain ⟨its,rv,p,hz⟩:=I.list q1;obtain ⟨u,hu,ru⟩:=rv.get hx;have ltS:∀ {h:Heap} {b:Addr} {o:Obj},h.get? b=some o -> @LT.lt Nat _ b h.objs.size:=fun e=>Heap.lt_size e;refine wpAny_pyNext_enum_item h1 h4 p.isList (x:=u) (by simpa using hu) hne fun h' a1 a2 a3 a4 hk=> ?_;refine ⟨_,rfl,wpAny_letOwnedTupleGo_enum (s:={ s with heap:=h',toks:=s.toks+1 }) a1 fun h'' a1' sb=> ?_⟩;have ch:∀b ∈ [e,it],H b=none:=fun b hb=>(hf b hb).1
  have kk:∀b o,b ∉ [e,it]->s.heap.get? b=some o->h''.get? b=some o:=fun b o hb x=>by
   simp only [List.mem_cons,List.not_mem_nil,or_false,not_or] at hb
   exact sb.extBut b o hb.1 (hk b o hb.1 hb.2 x)
  have eT:h''.get? s.heap.objs.size=some { cls:= .type "tuple",data:= .seq #[.int (i:Nat) s.toks,u] }:=sb.extBut _ _ (fun x=>by have l:=ltS h1;rw [<-x] at l;omega) a3;have nT:H s.heap.objs.size=none:=I.hok.fresh (Nat.le_refl _)
  have hok1 : HOk X.prog X.w H h'' := fun b o x => (I.hok b o x).stay (fun d v hd q => kk d v (fun hm => by
   have n:=ch d hm;rcases hd with hd | hd
   . rw [hd,x] at n;cases n
   . rw [hd] at n;cases n) q) (fun _ q=>q) fun _ _ q=>q
  have hok2:HOk X.prog X.w (upd H s.heap.objs.size (.tup [.int (i:Nat),x])) h'':=HOk_add hok1 nT ⟨by show 2<=sizeLine;decide,[.int (i:Nat) s.toks,u], .cons ⟨_,rfl⟩ (.cons ru .nil),⟨_,eT,rfl,_,rfl⟩⟩
  have un:Un (frs X.stack) [e,it] H (upd H s.heap.objs.size (.tup [.int (i:Nat),x])) s.heap h'':=by
   refine ⟨fun b o x _ _ hx=>kk b o hx x,fun b o x _ _ hx=>⟨o.slots,kk b o hx x⟩,fun b o x n _=> ?_,fun b o x hx=>⟨o,kk b o hx x⟩,fun b zs x=> ?_,fun b o v x=> ?_,fun b ps x=>⟨#[],?_⟩⟩
   . have l:=ltS x;rw [upd_ne (by intro q;subst q;omega)];exact n
   . rw [upd_ne (ne_of_none x nT)];exact x
   . rw [upd_ne (ne_of_none x nT)];exact x
   . rw [upd_ne (ne_of_none x nT)];simpa using x
  have I2:Inv X pins σ (upd H s.heap.objs.size (.tup [.int (i:Nat),x])) { s with heap:=h'',toks:=s.toks+1 }:=I.call' rfl un hok2 I.bare fun b hb=>by
   obtain ⟨f0,f1,f2,f3,f4,f5⟩:=hf b hb;exact ⟨f3,f1,f4,f5⟩
  refine ⟨.ref s.heap.objs.size,_,I2,rfl,⟨s.heap.objs.size,x,nT,rfl,rfl,fun zs hq=> ?_⟩,⟨⟨u,by simpa using a1'⟩,a2.extBut sb.extBut (Ne.symm hne)⟩,fun b hb=> ?_⟩
  . rw [I.list_inj hq q1];exact hx
  . have n:=ch b hb
    obtain ⟨o,x⟩:∃o,s.heap.get? b=some o:=by
     simp only [List.mem_cons,List.not_mem_nil,or_false] at hb
     rcases hb with rfl | rfl
     . exact ⟨_,h1⟩
     . obtain ⟨o,x,_⟩:=h4;exact ⟨o,x⟩
    have l:=ltS x;rw [upd_ne (by intro q;subst q;omega)];exact n
 done:=by
  intro X hP hw hK hc i pins s σ H E I hf st hg;subst hP hw hK;obtain ⟨⟨old,h1⟩,h4⟩:=st;obtain ⟨xs,q1,he⟩:=hg;obtain ⟨its,rv,p,hz⟩:=I.list q1;have l1:=rv.length;refine wpAny_pyNext_enum_end (I.ok.hd hc) h1 h4 p.isList (by simp;omega) fun h' hk=>⟨rfl,?_⟩;have ch:∀b ∈ [it],H b=none:=fun b hb=>(hf b (by simp at hb;simp [hb])).1
  have kk:∀b o,b ∉ [it]->s.heap.get? b=some o->h'.get? b=some o:=fun b o hb x=>by
   simp only [List.mem_cons,List.not_mem_nil,or_false] at hb
   exact hk b o hb x
  have hok1 : HOk X.prog X.w H h' := fun b o x => (I.hok b o x).stay (fun d v hd q => kk d v (fun hm => by
   have n:=ch d hm;rcases hd with hd | hd
   . rw [hd,x] at n;cases n
   . rw [hd] at n;cases n) q) (fun _ q=>q) fun _ _ q=>q
  have un:Un (frs X.stack) [it] H H s.heap h' :=
   ⟨fun b o x _ _ hx=>kk b o hx x,fun b o x _ _ hx=>⟨o.slots,kk b o hx x⟩,fun b o x n _=>n,fun b o x hx=>⟨o,kk b o hx x⟩,fun b zs x=>x,fun b o v x=>x,fun b ps x=>⟨#[],by simpa using x⟩⟩
  exact I.call' rfl un hok1 I.bare fun b hb=>by
   obtain ⟨f0,f1,f2,f3,f4,f5⟩:=hf b (by simp at hb;simp [hb]);exact ⟨f3,f1,f4,f5⟩
 self:=fun _ _ _ _ _ st h=>by
  obtain ⟨⟨old,h1⟩,_⟩:=st;exact wpAny_pyIter_enum h1 h
section
variable {X:Cx}
def iEnum(K:W.Frag)(ta:TA):TI:=fun σ H R=>ta σ H fun vs H1=>∃l1,vs = [.ref l1]/\(∃xs,SqL K H1 l1 xs)/\R (IteE K l1) H1
theorem pi_enum {a : Expr} {ta : TA} {elts : List Expr} {k : Nat} {tp p pos : Pos} (hg : Gl X "enumerate") (hm : X.mg "enumerate" = none) (ha : PA X [a] ta) (hs : starEach [a] X.env = (false, eval a X.env) :: starEach [] X.env := by rfl) (hs2 : (backTo pos (starEach [] X.env)).any (·.1) = false := by rfl) :
 PI X (.Tuple elts k tp) (.Call (.Name "enumerate" p) [a] [] pos) (iEnum X.K ta):=by
 intro pins s σ H R I h;refine Call_ (ld_blt I hg hm bt_enumerate (PyProof.Rows.callWith_type1 (thn (ha pos pins s σ H _ I h) fun us s1 ⟨vs,H1,I1,r1,q1⟩ => ?_) hs hs2));obtain ⟨l1,e,⟨xs,q1⟩,q⟩:=q1;subst e;obtain ⟨u,rfl,r2⟩:=vals1 r1;have r2:u=Value.ref l1:=r2;subst r2;obtain ⟨its,rv,p1,hz⟩:=I1.list q1;refine call_enumerate_list p1.isList fun h' a1 a2 a3 hk=> ?_;refine wpAny_pyIter_enum (s:={ s1 with heap:=h' }) a1 ?_
 have nb:∀b:Nat,b ∈ [s1.heap.objs.size+1,s1.heap.objs.size]->s1.heap.objs.size<=b:=fun b hb=>by
  simp only [List.mem_cons,List.not_mem_nil,or_false] at hb
  omega
 exact ⟨_,[s1.heap.objs.size+1,s1.heap.objs.size],_,_,H1,rfl,I1.kept (t':=s1.toks) hk,turn_enum (l:=l1) (fun x=>by have x:s1.heap.objs.size+1=s1.heap.objs.size:=x;omega),⟨⟨_,a1⟩,a2⟩,fun b hb=>I1.fpOk (nb b hb) (I1.hok.fresh (nb b hb)),q⟩
end
end Tf
namespace Dm
open PySem PySem.Spec PyProof.Rows L2 Tf
def enumD(xs:List PyData):List PyData:=(List.range xs.length).map fun i=> .tuple [.int (i:Nat),xs.getD i .none]
theorem enum_get{xs:List PyData}{i:Nat}{x:PyData}(h:xs[i]? = some x):xs.getD i .none=x:=by rw [List.getD,h];rfl
section
variable {K:W.Frag} {R:Rl} [RelOk K R]
theorem it_enum{H0:Hp}{a:Addr}{vs:List V}{ds:List PyData}(h:SqL K H0 a vs)(r:Reps K H0 vs ds):ItR K H0 (IteE K a) (enumD ds):=fun H0' H' s s' i=>by
 have h':=s'.seq (s.seq h);refine ⟨fun dd hd=> ?_,fun hi=>⟨vs,h',?_⟩⟩
 . unfold enumD at hd
   rw [List.getElem?_map] at hd
   by_cases hi:i<ds.length
   . rw [List.getElem?_range hi] at hd
     have e1:ds[i]? = some ds[i]:=List.getElem?_eq_getElem hi;simp only [Option.map_some,enum_get e1] at hd
     cases hd
     obtain ⟨v,q1,q2⟩:=Tf.Reps.get r e1;refine ⟨⟨vs,v,h',q1⟩,fun z H2 yl=> ?_⟩;obtain ⟨p,x',hp,rfl,rfl,hx⟩:=yl;have:=hx vs h';rw [q1] at this
     cases this
     refine ⟨_,Ext.allocF s' hp _, .tuple (SqT.of upd_same) ?_⟩;have s2:=s.trans (Same.upd (s'.free hp) (.tup [.int (i:Nat),v]));exact .cons (.int _) (.cons (Rep.same s2 q2) .nil)
   . rw [List.getElem?_eq_none (by rw [List.length_range];omega)] at hd
     cases hd
 . rw [r.length];unfold enumD at hi
   rw [List.length_map,List.length_range] at hi
   omega
def mEnum(f:En->Option (List PyData)):En->Option (List PyData):=fun ρ=>(f ρ).bind fun a=>match a with
 | [.list xs]=>some (enumD xs)
 | _=>none
theorem ri_enum{ta:TA}{f:En->Option (List PyData)}(h:RA K R ta f):RI K R (iEnum K ta) (mEnum f):=fun HB σ ρ H0 H s e ds hd R q=>by
 obtain ⟨a,ha,hd⟩:=Option.bind_eq_some_iff.mp hd
 split at hd
 . cases hd
   refine h HB σ ρ H0 H s e _ ha _ fun vs H1 J1 x1 p1=> ?_
   cases p1 with | cons p1 t=>
    cases t
    cases p1 with | list a1 a2=>
     exact ⟨_,rfl,⟨_,x1.s1.seq a1⟩,q _ _ _ x1 (it_enum a1 a2)⟩
 . cases hd
end
section
variable {X:Cx} {R:Rl} [RelOk X.K R] {a:Expr} {pos p:Pos} {fs:En->Option (List PyData)}
theorem di_enum {elts:List Expr} {k} {tp:Pos} (hm:X.mg "enumerate" = none) (h:DA X R [a] fs) (hg:Gl X "enumerate" :=by rfl) (hs:starEach [a] X.env=(false,eval a X.env)::starEach [] X.env:=by rfl) (hs2:(backTo pos (starEach [] X.env)).any (·.1)=false:=by rfl):DI X R (.Tuple elts k tp) (.Call (.Name "enumerate" p) [a] [] pos) (mEnum fs):=by
 obtain ⟨t,h1,h2⟩:=h;exact ⟨_,pi_enum hg hm h1 hs hs2,ri_enum h2⟩
end
end Dm
namespace Dm
open PySem PySem.Spec PyProof.Rows L2 Tf
theorem rs_frzF{K:W.Frag}{od:OD}{ts:TS}{g:En->Option Out}(i:Nat)(h:RS K (FR K od) ts g):RS K (FR K od) ts (mFrz i g):=fun HB S0 σ ρ H0 H x e o ho D d=>by
 unfold mFrz frz1 at ho
 split at ho
 . rename_i ds hj;obtain ⟨h1,p,vals,hpp,h2,h3,h4⟩:=e.r;obtain ⟨a,vs,ha,x',e'⟩:=h4.frz (join_some hj) x;exact h HB S0 σ _ _ H x' ⟨⟨h1,p,vals,hpp,h2,h3.frz ha,e'⟩⟩ o ho D d
 . exact h HB S0 σ ρ H0 H x e o ho D d
theorem ds_frzF{X:Cx}{od:OD}{st:Stmt}{gs:En->Option Out}(i:Nat)(h:DS X (FR X.K od) st gs):DS X (FR X.K od) st (mFrz i gs):=by obtain ⟨t,h1,h2⟩:=h;exact ⟨_,h1,rs_frzF i h2⟩
end Dm
namespace HT
open PySem PyProof.Rows
section
variable {prog:Program} {w:World} {A:Around} {E:Value->Shared->Prop} {s:Shared}
theorem getItem_tuple_whole {t sl : Addr} {items : Array Value} {vl vu : Value} {lo hi : Option Int} {Q : Value -> Shared -> Prop} (ht : IsTup s.heap t items) (hs : s.heap.IsSliceOf sl vl vu .none) (pl : IsPart vl lo) (pu : IsPart vu hi)
 (hw:sIx items.size 0 lo=0/\sIx items.size items.size hi=items.size) (h:Q (.ref t) s):wpAny (model prog w) A (getItem (.ref t) (.ref sl)) Q E s:=by
 obtain ⟨os,hos,hcs,hds⟩:=id hs;have hTs:s.TypeIs (.ref sl) "slice" :=⟨os,hos,hcs⟩;unfold getItem
 try with_reducible refine wpAny_holding ?_
 first | refine wpAny_bind (wpAny_pure ?_) | skip
 refine wpAny_bind (wpAny_sequenceKey ht.typeIs (by decide) ?_)
 refine wpAny_bind (wpAny_callSpecial?_slot (name:=Str.ofString "__getitem__") ht.typeIs PyProof.Rows.slot_tuple_getitem
  (wpAny_call_entry PyProof.Rows.slot_tuple_getitem ht.typeIs entry_tuple_getitem ?_ (args_tuple_getitem _ _)))
 show wpAny _ _ (Builtin.Tuple.tupleItemsOf (.ref t) >>= _) _ _ s;refine wpAny_bind (tupleItemsOf_ ht ?_);refine wpAny_bind (wpAny_typeOf hTs ?_);rw [if_pos (by decide)];refine wpAny_bind (sliceApplied_gen hs pl pu ?_)
 have hyes:(((sIx items.size 0 lo:Nat):Int)==0 && (1:Int)==1 && (sIx items.size items.size hi - sIx items.size 0 lo)==items.size)=true:=by
  rw [hw.1,hw.2];simp
 show wpAny _ _ (if (((sIx items.size 0 lo:Nat):Int)==0 && (1:Int)==1 && (sIx items.size items.size hi - sIx items.size 0 lo)==items.size)=true then _ else _) _ _ s;rw [if_pos hyes];refine wpAny_bind ?_;unfold Builtin.Tuple.tupleIsExact;refine wpAny_bind (wpAny_typeOf ht.typeIs (wpAny_pure ?_));rw [if_pos (by decide)];refine wpAny_bind (wpAny_rule ?_);exact wpAny_pure ⟨_,rfl,wpAny_pure h⟩
end
end HT
namespace L2
open PySem PySem.Spec PyProof.Rows
def rSlW(K:W.Frag):V->Option Int->Option Int->Hp->VK->Prop:=fun x lo hi H Q=>∃a xs,x = .ref a/\SqT K H a xs /\
 (HT.sIx xs.length 0 lo=0/\HT.sIx xs.length xs.length hi=xs.length)/\Q (.ref a) H
theorem slw_tup{X:Cx}:SlR X (rSlW X.K):=by
 intro pins s σ H x v vl vu lo hi sl Q I rx hs pl pu h;obtain ⟨a,xs,rfl,hx,hw,q⟩:=h
 cases rx
 obtain ⟨its,r,ht,hz⟩:=I.tuple hx;have hlen:its.toArray.size=xs.length:=by rw [List.size_toArray];exact r.length.symm
 refine ⟨"tuple",_,PyProof.Rows.slot_tuple_getitem.lookup,ht.typeIs,?_⟩;exact HT.getItem_tuple_whole ht hs pl pu (by rw [hlen];exact hw) ⟨.ref a,_,I,rfl,q⟩
end L2
namespace Dm
open PySem PySem.Spec PyProof.Rows L2 Tf
section
variable {K:W.Frag} {R:Rl} [RelOk K R]
def dSlW(a:Sl)(lo hi:Option Int):Option Sl:=match a.dat with
 | .tuple ds=>if HT.sIx ds.length 0 lo=0/\HT.sIx ds.length ds.length hi=ds.length then some (.val (.tuple ds)) else some (.val (.tuple (cutD ds lo hi)))
 | _=>none
def mSlW(f:En->Option Sl)(l h:En->Option (Option Int)):En->Option Sl:=fun ρ=>(f ρ).bind fun a=>(l ρ).bind fun lo=>(h ρ).bind fun hi=>dSlW a lo hi
theorem re_slW{te:TE}{tl th:TO}{f:En->Option Sl}{fl fh:En->Option (Option Int)}(h:RP K R te f)(hl:RO K R tl fl)(hh:RO K R th fh):RE K R (tSl (fun x lo hi H Q=>rSlW K x lo hi H Q\/rSlT K x lo hi H Q) te tl th) (mSlW f fl fh):=fun HB σ ρ H0 H s e z hz Q q=>by
 obtain ⟨a,ha,hz⟩:=Option.bind_eq_some_iff.mp hz;obtain ⟨lo,hlo,hz⟩:=Option.bind_eq_some_iff.mp hz;obtain ⟨hi,hhi,hz⟩:=Option.bind_eq_some_iff.mp hz;refine h HB σ ρ H0 H s e a ha _ fun v H1 J1 x1 p1=> ?_;refine hl HB σ ρ H1 J1 x1.s1 (e.ext (K:=K) x1) lo hlo _ fun H2 J2 x2=> ?_;refine hh HB σ ρ H2 J2 x2.s1 ((e.ext (K:=K) x1).ext (K:=K) x2) hi hhi _ fun H3 J3 x3=> ?_;have x:=(x1.trans x2).trans x3;have p:=p1.ext (x2.trans x3);unfold dSlW at hz
 split at hz
 . rename_i ds hd;obtain ⟨b,vs,rfl,h1,h2⟩:=p.tup hd
   split at hz
   . rename_i hw
     cases hz
     exact .inl ⟨b,vs,rfl,x.s1.seqT h1,by rw [h2.length];exact hw,q _ _ _ x (.tuple h1 h2)⟩
   . rename_i hw
     cases hz
     refine .inr ⟨b,vs,rfl,x.s1.seqT h1,by rw [h2.length];exact hw,fun l hl=>q _ _ _ (x.trans (Ext.allocF x.s1 hl _)) (.tuple (SqT.of upd_same) (Reps.same (Same.upd (x.s1.free hl) _) (Reps.cut h2 lo hi)))⟩
 . cases hz
end
section
variable {X:Cx} {R:Rl} [RelOk X.K R] {e:Expr} {f:En->Option Sl} {pos:Pos} {lo hi:Option Expr} {fl fh:En->Option (Option Int)} {p2:Pos}
theorem de_slW(h:DP X R e f)(hl:DO X R lo fl)(hh:DO X R hi fh):DE X R (.Subscript e (.Slice lo hi none p2) pos) (mSlW f fl fh):=by
 obtain ⟨t,h1,h2⟩:=h;obtain ⟨u,h3,h4⟩:=hl;obtain ⟨v,h5,h6⟩:=hh;exact ⟨_,pe_slice (slw_tup.or sl_tup) h1 h3 h5,re_slW h2 h4 h6⟩
end
end Dm
namespace Dm
open PySem PySem.Spec PyProof.Rows L2 Tf
theorem vals_rev:∀ {xs:List V} {us:List Value},Vals xs us->Vals xs.reverse us.reverse
 | _,_, .nil=> .nil
 | _,_, .cons r t=>by
  rw [List.reverse_cons,List.reverse_cons];exact Vals.append (vals_rev t) (.cons r .nil)
theorem reps_rev{K:W.Frag}{H:Hp}:∀ {vs:List V} {ds:List PyData},Reps K H vs ds->Reps K H vs.reverse ds.reverse
 | _,_, .nil=> .nil
 | _,_, .cons r t=>by
  rw [List.reverse_cons,List.reverse_cons];exact Reps.append (reps_rev t) (.cons r .nil)
section
variable {X:Cx} {e b:Expr} {te tb:TE} {pos p2:Pos}
def tRvs(K:W.Frag)(te tb:TE):TE:=fun σ H Q=>te σ H fun x H1=>tPart tb σ H1 fun t H3=>∃p xs,t=some (-1)/\x = .ref p/\SqL K H3 p xs/\∀q,H3 q=none->Q (.ref q) (upd H3 q (.lst xs.reverse))
theorem pe_rvs(he:PE X e te)(hb:PE X b tb):PE X (.Subscript e (.Slice none none (some b) p2) pos) (tRvs X.K te tb):=by
 intro pins s σ H Q I h;refine Subscript_ (thn (he pins s σ H _ I h) fun v s1 ⟨x,H1,I1,r1,q1⟩ => ?_);refine wpAny_Slice ?_;rw [evalPart_none];refine wpAny_pure (wpAny_pure ?_);refine thn (po_some hb pins s1 σ H1 _ I1 q1) fun vt s3 ⟨t,H3,I3,pt,q3⟩ => ?_;obtain ⟨p,xs,rfl,rfl,hx,q⟩:=q3
 cases r1
 have I4:Inv X pins σ H3 { s3 with heap:=s3.heap.push { cls:= .type "slice",data:= .fields #[.none, .none,vt] } }:=I3.kept (t':=s3.toks) fun b ob q=>Heap.get?_push_of_some _ q;obtain ⟨its,r,ht,hz⟩:=I4.list hx;have hlen:=r.length;show wpAny (model X.prog X.w) X.A (subscriptTail e (.Slice none none (some b) p2) (.ref p) (.ref s3.heap.objs.size)) (EP X pins σ Q) X.xe { s3 with heap:=s3.heap.push { cls:= .type "slice",data:= .fields #[.none, .none,vt] } };refine tail_any (ops:= [.ref p, .ref s3.heap.objs.size]) ht.isList.typeIs slot_list_getitem.lookup (wpAny_getItem_list_slice ht.isList (Heap.IsSliceOf.new ..) .none .none pt (by decide) ?_ (by rw [List.size_toArray] <;> omega)) (by with_unfolding_all rfl);rw [W.krv_pick];refine ⟨.ref _,_,I4.laid (t':=s3.toks) (o:= .lst xs.reverse) (fun b ob q=>Heap.get?_push_of_some _ q) (Nat.le_refl _) ?_,rfl,q _ (I4.hok.fresh (Nat.le_refl _))⟩;refine ⟨by rw [List.length_reverse];omega,_,0,?_,Heap.get?_push_size _ rfl⟩;exact vals_rev r
end
section
variable {K:W.Frag} {R:Rl} [RelOk K R]
def mRvs(f fb:En->Option Sl):En->Option Sl:=fun ρ=>(f ρ).bind fun s=>match s.dat with
 | .list ds=>(fb ρ).bind fun u=>match u with
  | .val (.int st)=>if st = -1 then some (.own ds.reverse) else none
  | _=>none
 | _=>none
theorem re_rvs{te tb:TE}{f fb:En->Option Sl}(h:RP K R te f)(hB:RP K R tb fb):RE K R (tRvs K te tb) (mRvs f fb):=fun HB σ ρ H0 H s e z hz Q q=>by
 obtain ⟨s1,e1,hz⟩:=Option.bind_eq_some_iff.mp hz
 split at hz
 . rename_i ds hd;obtain ⟨s3,e3,hz⟩:=Option.bind_eq_some_iff.mp hz
   split at hz
   . rename_i st
     split at hz
     . rename_i hst;subst hst
       cases hz
       refine h HB σ ρ H0 H s e _ e1 _ fun v H1 J1 x1 p1=> ?_;refine hB HB σ ρ H1 J1 x1.s1 (e.ext (K:=K) x1) _ e3 _ fun w' H3 J3 x3 p3=>⟨_,p3.int,?_⟩;obtain ⟨p,vs,rfl,h1,h2⟩:=p1.lst x1.s1 hd;refine ⟨p,vs,rfl,rfl,x3.s.seq h1,fun l hp=> ?_⟩;have xp:=Ext.alloc x3.s1 hp (.lst vs.reverse);exact q _ _ _ ((x1.trans x3).trans xp) ⟨l,_,rfl,(x1.s.trans x3.s).free hp,x3.s1.free hp,upd_same,reps_rev (Reps.same x3.s0 h2)⟩
     . cases hz
   . cases hz
 . cases hz
end
section
variable {X:Cx} {R:Rl} [RelOk X.K R] {e b:Expr} {pos p2:Pos} {f fb:En->Option Sl}
theorem de_rvs(h:DP X R e f)(hb:DP X R b fb):DE X R (.Subscript e (.Slice none none (some b) p2) pos) (mRvs f fb):=by
 obtain ⟨t,h1,h2⟩:=h;obtain ⟨t'',h5,h6⟩:=hb;exact ⟨_,pe_rvs h1 h5,re_rvs h2 h6⟩
end
end Dm
namespace Ba
abbrev Mx:=Nat->Nat->Int
def skip(p i:Nat):Nat:=if i<p then i else i+1
def unskip(p r:Nat):Nat:=if r<p then r else r - 1
def sgn(n:Nat):Int:=if n % 2=0 then 1 else -1
def sumN:Nat->(Nat->Int)->Int
 | 0,_=>0
 | n+1,f=>sumN n f+f n
def det:Nat->Mx->Int
 | 0,_=>1
 | n+1,M=>sumN (n+1) fun p=>sgn (n - p)*M p n*det n (fun i=>M (skip p i))
theorem det_succ(n:Nat)(M:Mx):det (n+1) M=sumN (n+1) fun p=>sgn (n - p)*M p n*det n (fun i=>M (skip p i)):=rfl
theorem sum_congr:∀ {n:Nat} {f g:Nat->Int},(∀i,i<n->f i=g i)->sumN n f=sumN n g
 | 0,_,_,_=>rfl
 | n+1,f,g,h=>by
  rw [sumN,sumN,sum_congr (n:=n) fun i hi=>h i (by omega),h n (by omega)]
theorem sum_zero:∀ {n:Nat} {f:Nat->Int},(∀i,i<n->f i=0)->sumN n f=0
 | 0,_,_=>rfl
 | n+1,f,h=>by rw [sumN,sum_zero (n:=n) fun i hi=>h i (by omega),h n (by omega)];rfl
theorem sum_lin(a b:Int):∀ {n:Nat} {f g:Nat->Int},sumN n (fun i=>a*f i+b*g i)=a*sumN n f+b*sumN n g
 | 0,_,_=>by simp [sumN]
 | n+1,f,g=>by
  rw [sumN,sumN,sumN,sum_lin a b (n:=n),Int.mul_add,Int.mul_add];omega
theorem sum_mul(a:Int){n:Nat}{f:Nat->Int}:sumN n (fun i=>a*f i)=a*sumN n f:=by
 have h:=sum_lin a 0 (n:=n) (f:=f) (g:=fun _=>0);simpa using h
theorem sum_add{n:Nat}{f g:Nat->Int}:sumN n (fun i=>f i+g i)=sumN n f+sumN n g:=by
 have h:=sum_lin 1 1 (n:=n) (f:=f) (g:=g);simpa using h
theorem sum_one:∀ {n r:Nat} {f:Nat->Int},r<n->(∀i,i<n->i≠r->f i=0)->sumN n f=f r
 | 0,r,_,h,_=>absurd h (by omega)
 | n+1,r,f,h,hz=>by
  rw [sumN]
  by_cases e:r=n
  . subst e;rw [sum_zero fun i hi=>hz i (by omega) (by omega)];omega
  . rw [sum_one (n:=n) (r:=r) (by omega) fun i hi hr=>hz i (by omega) hr,hz n (by omega) (by omega)];omega
theorem sum_two:∀ {n r:Nat} {f:Nat->Int},r+1<n->(∀i,i<n->i≠r->i≠r+1->f i=0)->sumN n f=f r+f (r+1)
 | 0,r,_,h,_=>absurd h (by omega)
 | n+1,r,f,h,hz=>by
  rw [sumN]
  by_cases e:r+1=n
  . subst e;rw [sum_one (r:=r) (by omega) fun i hi hr=>hz i (by omega) hr (by omega)]
  . rw [sum_two (n:=n) (r:=r) (by omega) fun i hi hr h2=>hz i (by omega) hr h2,hz n (by omega) (by omega) (by omega)];omega
theorem sum_comm:∀ {n m:Nat} {f:Nat->Nat->Int},sumN n (fun i=>sumN m (fun j=>f i j))=sumN m (fun j=>sumN n (fun i=>f i j))
 | 0,m,f=>by rw [sumN];exact (sum_zero fun _ _=>rfl).symm
 | n+1,m,f=>by
  rw [sumN,sum_comm (n:=n), <-sum_add];exact sum_congr fun j _=>rfl
theorem det_congr:∀ {n:Nat} {M N:Mx},(∀i,i<n->∀j,j<n->M i j=N i j)->det n M=det n N
 | 0,_,_,_=>rfl
 | n+1,M,N,h=>by
  rw [det_succ,det_succ];refine sum_congr fun p hp=> ?_;rw [h p hp n (by omega),det_congr (n:=n) fun i hi j hj=>h (skip p i) (by unfold skip;split <;> omega) j (by omega)]
def setR(M:Mx)(r:Nat)(v:Nat->Int):Mx:=fun i=>if i=r then v else M i
theorem setR_same(M:Mx)(r:Nat)(v:Nat->Int):setR M r v r=v:=by simp [setR]
theorem setR_ne{M:Mx}{r i:Nat}{v:Nat->Int}(h:i≠r):setR M r v i=M i:=by simp [setR,h]
theorem setR_self(M:Mx)(r:Nat):setR M r (M r)=M:=by
 funext i
 by_cases h:i=r
 . subst h;rw [setR_same]
 . rw [setR_ne h]
theorem setR_comm{M:Mx}{r s:Nat}{u v:Nat->Int}(h:r≠s):setR (setR M r u) s v=setR (setR M s v) r u:=by
 funext i
 by_cases h1:i=r
 . subst h1;rw [setR_ne h,setR_same,setR_same]
 . by_cases h2:i=s
   . subst h2;rw [setR_same,setR_ne h1,setR_same]
   . rw [setR_ne h2,setR_ne h1,setR_ne h1,setR_ne h2]
theorem skip_set{M:Mx}{r p:Nat}{v:Nat->Int}(h:p≠r):(fun i=>setR M r v (skip p i))=setR (fun i=>M (skip p i)) (unskip p r) v:=by
 funext i
 by_cases e:i=unskip p r
 . rw [e,setR_same];have:skip p (unskip p r)=r:=by (unfold skip unskip;split <;> (try split) <;> omega)
   rw [this,setR_same]
 . rw [setR_ne e,setR_ne];unfold skip unskip at *
   split <;> split at e <;> omega
theorem skip_set_same{M:Mx}{r:Nat}{v:Nat->Int}:(fun i=>setR M r v (skip r i))=fun i=>M (skip r i):=by
 funext i;rw [setR_ne];unfold skip
 split <;> omega
theorem det_lin(a b:Int):∀ {n r:Nat} {M:Mx} {u v:Nat->Int},r<n->det n (setR M r (fun j=>a*u j+b*v j))=a*det n (setR M r u)+b*det n (setR M r v)
 | 0,r,_,_,_,h=>absurd h (by omega)
 | n+1,r,M,u,v,h=>by
  rw [det_succ,det_succ,det_succ, <-sum_lin];refine sum_congr fun p hp=> ?_
  by_cases e:p=r
  . subst e;rw [skip_set_same,skip_set_same,skip_set_same,setR_same,setR_same,setR_same];generalize det n (fun i=>M (skip p i))=d;simp only [Int.mul_add,Int.add_mul];congr 1 <;> ac_rfl
  . rw [skip_set e,skip_set e,skip_set e,setR_ne e,setR_ne e,setR_ne e,det_lin a b (n:=n) (by unfold unskip;split <;> omega)];simp only [Int.mul_add];congr 1 <;> ac_rfl
theorem det_zero_row{n r:Nat}{M:Mx}(h:r<n)(hz:∀j,j<n->M r j=0):det n M=0:=by
 have e:det n M=det n (setR M r (fun j=>0*M r j+0*M r j)):=det_congr fun i hi j hj=>by
  by_cases q:i=r
  . subst q;rw [setR_same,hz j hj];omega
  . rw [setR_ne q]
 rw [e,det_lin 0 0 h];omega
theorem sgn_succ(n:Nat):sgn (n+1) = - sgn n:=by
 unfold sgn
 split <;> split <;> omega
theorem det_adj:∀ {n r:Nat} {M:Mx},r+1<n->(∀j,j<n->M r j=M (r+1) j)->det n M=0
 | 0,_,_,h,_=>absurd h (by omega)
 | n+1,r,M,h,he=>by
  rw [det_succ,sum_two (r:=r) h]
  . have e : det n (fun i => M (skip r i)) = det n (fun i => M (skip (r + 1) i)) := det_congr fun i hi j hj => by
     by_cases q:i=r
     . subst q;have a:skip i i=i+1:=by unfold skip;split <;> omega
       have b:skip (i+1) i=i:=by unfold skip;split <;> omega
       rw [a,b];exact (he j (by omega)).symm
     . have:skip r i=skip (r+1) i:=by unfold skip;split <;> split <;> omega
       rw [this]
    rw [e,he n (by omega)]
    have s:sgn (n - r) = - sgn (n - (r+1)):=by
     have:n - r=(n - (r+1))+1:=by omega
     rw [this,sgn_succ]
    rw [s];simp only [Int.neg_mul];omega
  . intro p hp h1 h2
    have:det n (fun i=>M (skip p i))=0:=by
     refine det_adj (n:=n) (r:=unskip p r) (by unfold unskip;split <;> omega) fun j hj=> ?_;have a:skip p (unskip p r)=r:=by (unfold skip unskip;split <;> (try split) <;> omega)
     have b:skip p (unskip p r+1)=r+1:=by (unfold skip unskip;split <;> (try split) <;> omega)
     show M (skip p (unskip p r)) j=M (skip p (unskip p r+1)) j;rw [a,b];exact he j (by omega)
    rw [this,Int.mul_zero]
theorem det_add{n r:Nat}{M:Mx}{u v:Nat->Int}(h:r<n):det n (setR M r (fun j=>u j+v j))=det n (setR M r u)+det n (setR M r v):=by
 have:=det_lin 1 1 (M:=M) (u:=u) (v:=v) h;simpa using this
theorem det_smul{n r:Nat}{M:Mx}{u:Nat->Int}(a:Int)(h:r<n):det n (setR M r (fun j=>a*u j))=a*det n (setR M r u):=by
 have:=det_lin a 0 (M:=M) (u:=u) (v:=u) h;simpa using this
theorem swap_of {n r s : Nat} {M : Mx} (hr : r < n) (hs : s < n) (hrs : r ≠ s) (z : ∀ (M : Mx), M r = M s -> det n M = 0) (u v : Nat -> Int) :
 det n (setR (setR M r u) s v) = - det n (setR (setR M r v) s u):=by
 have w:∀x:Nat->Int,det n (setR (setR M r x) s x)=0:=fun x=>z _ (by rw [setR_ne hrs,setR_same,setR_same]);have e:=w (fun j=>u j+v j);rw [det_add hs,setR_comm hrs,det_add hr,setR_comm hrs.symm,setR_comm hrs.symm,setR_comm (M:=M) (u:=fun j=>u j+v j) (v:=v) hrs,det_add hr,setR_comm hrs.symm,setR_comm hrs.symm,w,w] at e
 omega
theorem det_eq_rows:∀ {d n r:Nat} {M:Mx},r+d+1<n->M r=M (r+d+1)->det n M=0
 | 0,n,r,M,h,he=>det_adj h fun j _=>congrFun he j
 | d+1,n,r,M,h,he=>by
  have hs:r+d+1<n:=by omega
  have q:=swap_of (n:=n) (r:=r+d+1) (s:=r+d+1+1) (M:=M) hs (by omega) (by omega) (fun M' h'=>det_adj (by omega) fun j _=>congrFun h' j) (M (r+d+1)) (M (r+d+1+1));rw [setR_self,setR_self] at q
  rw [q,det_eq_rows (d:=d) (r:=r) hs]
  . rfl
  . rw [setR_ne (by omega),setR_ne (by omega),setR_ne (by omega),setR_same];exact he
theorem det_same{n r s:Nat}{M:Mx}(hr:r<n)(hs:s<n)(hrs:r≠s)(he:M r=M s):det n M=0:=by
 rcases (by omega:r<s\/s<r) with h | h
 . obtain ⟨d,rfl⟩:∃d,s=r+d+1:=⟨s - r - 1,by omega⟩;exact det_eq_rows hs he
 . obtain ⟨d,rfl⟩:∃d,r=s+d+1:=⟨r - s - 1,by omega⟩;exact det_eq_rows hr he.symm
theorem det_swap{n r s:Nat}{M:Mx}(hr:r<n)(hs:s<n)(hrs:r≠s)(u v:Nat->Int):det n (setR (setR M r u) s v) = - det n (setR (setR M r v) s u) :=
 swap_of hr hs hrs (fun _ h=>det_same hr hs hrs h) u v
def exch(M:Mx)(r s:Nat):Mx:=setR (setR M r (M s)) s (fun j=> - M r j)
theorem det_exch{n r s:Nat}{M:Mx}(hr:r<n)(hs:s<n)(hrs:r≠s):det n (exch M r s)=det n M:=by
 unfold exch;have e:(fun j=> - M r j)=fun j=>(-1)*M r j:=by funext j;omega
 rw [e,det_smul _ hs,det_swap hr hs hrs,setR_self,setR_self];omega
theorem det_comb{n r:Nat}{M:Mx}(hr:r<n)(a:Int)(q:Nat->Int):∀ {m:Nat},m<=r->det n (setR M r (fun j=>a*M r j+sumN m (fun p=>q p*M p j)))=a*det n M
 | 0,_=>by
  simp only [sumN,Int.add_zero]
  rw [det_smul _ hr,setR_self]
 | m+1,h=>by
  have e:(fun j=>a*M r j+sumN (m+1) (fun p=>q p*M p j))=fun j=>1*(a*M r j+sumN m (fun p=>q p*M p j))+q m*M m j:=by
   funext j;rw [sumN];omega
  have z:det n (setR M r (fun j=>M m j))=0:=det_same (r:=r) (s:=m) hr (by omega) (by omega) (by rw [setR_same,setR_ne (by omega)]);rw [e,det_lin 1 (q m) hr,det_comb hr a q (m:=m) (by omega),z];omega
theorem det_last{n:Nat}{M:Mx}(h:∀j,j<n->M n j=0):det (n+1) M=M n n*det n M:=by
 rw [det_succ,sum_one (r:=n) (by omega)]
 . rw [Nat.sub_self]
   have:det n (fun i=>M (skip n i))=det n M:=det_congr fun i hi j hj=>by
    have:skip n i=i:=by unfold skip;split <;> omega
    rw [this]
   rw [this];simp [sgn]
 . intro p hp hne
   have:det n (fun i=>M (skip p i))=0:=by
    refine det_zero_row (r:=n - 1) (by omega) fun j hj=> ?_;have e:skip p (n - 1)=n:=by unfold skip;split <;> omega
    show M (skip p (n - 1)) j=0;rw [e];exact h j hj
   rw [this,Int.mul_zero]
end Ba
namespace Ba
inductive Ex (n:Nat) (A:Mx):Mx->Prop where
 | refl:Ex n A A
 | step {B:Mx} {r s:Nat}:r<n->s<n->r≠s->Ex n A B->Ex n A (exch B r s)
theorem Ex.det{n:Nat}{A B:Mx}(h:Ex n A B):det n B=det n A:=by
 induction h with
 | refl=>rfl
 | step h1 h2 h3 _ ih=>rw [det_exch h1 h2 h3,ih]
theorem exch_r{M:Mx}{r s:Nat}(h:r≠s):exch M r s r=M s:=by unfold exch;rw [setR_ne h,setR_same]
theorem exch_s{M:Mx}{r s:Nat}:exch M r s s=fun j=> - M r j:=by unfold exch;rw [setR_same]
theorem exch_ne{M:Mx}{r s i:Nat}(h1:i≠r)(h2:i≠s):exch M r s i=M i:=by unfold exch;rw [setR_ne h2,setR_ne h1]
def col(k:Nat)(L:Nat->Nat)(j t:Nat):Nat:=if t<k then L t else j
def row(k i r:Nat):Nat:=if r<k then r else i
def bord(B:Mx)(k:Nat)(L:Nat->Nat)(i j:Nat):Int:=det (k+1) fun r t=>B (row k i r) (col k L j t)
def lds(B:Mx)(k:Nat)(L:Nat->Nat):Int:=det k fun r t=>B r (L t)
theorem lds_succ(B:Mx)(k:Nat)(L:Nat->Nat)(c:Nat):lds B (k+1) (fun t=>if t=k then c else L t)=bord B k L k c:=det_congr fun r hr t ht=>by
 have e1:row k k r=r:=by unfold row;split <;> omega
 have e2:col k L c t=if t=k then c else L t:=by unfold col;split <;> split <;> first | rfl | omega
 rw [e1,e2]
theorem bord_of{B:Mx}{k i j:Nat}{L:Nat->Nat}{μ:Int}{q w:Nat->Int}(hw:∀j,w j=μ*B i j+sumN k (fun p=>q p*B p j))(hz:∀t,t<k->w (L t)=0):μ*bord B k L i j=w j*lds B k L:=by
 have h:=det_comb (n:=k+1) (r:=k) (M:=fun r t=>B (row k i r) (col k L j t)) (by omega) μ q (m:=k) (Nat.le_refl k)
 have e:(fun t=>μ*B (row k i k) (col k L j t)+sumN k (fun p=>q p*B (row k i p) (col k L j t)))=fun t=>w (col k L j t):=by
  funext t;have e1:row k i k=i:=by unfold row;split <;> omega
  rw [hw,e1];congr 1
  exact sum_congr fun p hp=>by
   have:row k i p=p:=by unfold row;split <;> omega
   rw [this]
 rw [e,det_last] at h
 . unfold bord;rw [<-h,setR_same];have e2:col k L j k=j:=by unfold col;split <;> omega
   rw [e2];unfold lds;congr 1
   exact det_congr fun r hr t ht=>by
    rw [setR_ne (by omega)];have e3:row k i r=r:=by unfold row;split <;> omega
    have e4:col k L j t=L t:=by unfold col;split <;> omega
    rw [e3,e4]
 . intro t ht;rw [setR_same];have e4:col k L j t=L t:=by unfold col;split <;> omega
   rw [e4,hz t ht]
structure BI (n m:Nat) (A R:Mx) (k:Nat) (L:Nat->Nat) (last:Int) (c:Nat) (B:Mx):Prop where
 kn:k<=n
 cm:c<=m
 Lc:∀t,t<k->L t<c
 Li:∀s t,s<t->t<k->L s<L t
 nz:last≠0
 ld:last=lds B k L
 top:∀i,i<k->∀j,j<m->R i j=bord B i L i j
 topz:∀i,i<k->∀j,j<L i->R i j=0
 topn:∀i,i<k->R i (L i)≠0
 bot:∀i,k<=i->i<n->∃μ:Int,μ≠0/\∃q:Nat->Int,∀j,j<m->μ*R i j=last*(μ*B i j+sumN k (fun p=>q p*B p j))
 zero:∀i,k<=i->i<n->∀j,j<c->R i j=0
 ex:Ex n A B
theorem mul_cancel{a b c:Int}(h:a≠0)(e:a*b=a*c):b=c:=Int.eq_of_mul_eq_mul_left h e
theorem BI.minor{n m:Nat}{A R:Mx}{k:Nat}{L:Nat->Nat}{last:Int}{c:Nat}{B:Mx}(I:BI n m A R k L last c B){i j:Nat}(hi:k<=i)(hn:i<n)(hj:j<m):R i j=bord B k L i j:=by
 obtain ⟨μ,hμ,q,h⟩:=I.bot i hi hn
 have z:∀t,t<k->(fun j=>μ*B i j+sumN k (fun p=>q p*B p j)) (L t)=0:=by
  intro t ht;have e:=h (L t) (Nat.lt_of_lt_of_le (I.Lc t ht) I.cm);rw [I.zero i hi hn (L t) (I.Lc t ht),Int.mul_zero] at e
  rcases Int.mul_eq_zero.mp e.symm with e | e
  . exact absurd e I.nz
  . exact e
 have e:=bord_of (j:=j) (w:=fun j=>μ*B i j+sumN k (fun p=>q p*B p j)) (fun _=>rfl) z;have e2:=h j hj;refine mul_cancel hμ ?_;rw [e,e2,I.ld];exact Int.mul_comm _ _
theorem BI.start{n m:Nat}(A:Mx):BI n m A A 0 (fun _=>0) 1 0 A where
 kn:=Nat.zero_le _
 cm:=Nat.zero_le _
 Lc:=fun t h=>absurd h (by omega)
 Li:=fun s t _ h=>absurd h (by omega)
 nz:=by decide
 ld:=rfl
 top:=fun i h=>absurd h (by omega)
 topz:=fun i h=>absurd h (by omega)
 topn:=fun i h=>absurd h (by omega)
 bot:=fun i _ _=>⟨1,by decide,fun _=>0,fun j _=>by simp [sumN]⟩
 zero:=fun i _ _ j h=>absurd h (by omega)
 ex:= .refl
theorem BI.none{n m:Nat}{A R:Mx}{k:Nat}{L:Nat->Nat}{last:Int}{c:Nat}{B:Mx}(I:BI n m A R k L last c B)(hc:c<m)(h:∀i,k<=i->i<n->R i c=0):BI n m A R k L last (c+1) B:=
 { I with
   cm:=hc
   Lc:=fun t ht=>Nat.lt_succ_of_lt (I.Lc t ht)
   zero:=fun i h1 h2 j hj=>by
    by_cases e:j=c
    . subst e;exact h i h1 h2
    . exact I.zero i h1 h2 j (by omega) }
theorem bord_congr{B B':Mx}{k i j:Nat}{L L':Nat->Nat}(hi:B i=B' i)(h:∀r,r<k->B r=B' r)(hL:∀t,t<k->L t=L' t):bord B k L i j=bord B' k L' i j:=det_congr fun r hr t ht=>by
 have e1:B (row k i r)=B' (row k i r):=by
  unfold row
  split
  . exact h r (by assumption)
  . exact hi
 have e2:col k L j t=col k L' j t:=by
  unfold col
  split
  . exact hL t (by assumption)
  . rfl
 rw [e1,e2]
theorem lds_congr{B B':Mx}{k:Nat}{L L':Nat->Nat}(h:∀r,r<k->B r=B' r)(hL:∀t,t<k->L t=L' t):lds B k L=lds B' k L':=det_congr fun r hr t ht=>by rw [h r hr,hL t ht]
theorem BI.exch{n m:Nat}{A R:Mx}{k:Nat}{L:Nat->Nat}{last:Int}{c:Nat}{B:Mx}(I:BI n m A R k L last c B){p:Nat}(hp:k<p)(hn:p<n):BI n m A (exch R k p) k L last c (exch B k p):=by
 have up:∀ {M:Mx} {r:Nat},r<k->Ba.exch M k p r=M r:=fun h=>exch_ne (by omega) (by omega);have su:∀(q:Nat->Int) j,sumN k (fun r=>q r*Ba.exch B k p r j)=sumN k (fun r=>q r*B r j):=fun q j=>sum_congr fun r hr=>by rw [up hr]
 refine ⟨I.kn,I.cm,I.Lc,I.Li,I.nz,?_,fun i hi j hj=> ?_,fun i hi j hj=> ?_,fun i hi=> ?_,fun i h1 h2=> ?_,fun i h1 h2 j hj=> ?_, .step (by omega) hn (by omega) I.ex⟩
 . rw [I.ld];exact lds_congr (fun r hr=>(up hr).symm) fun _ _=>rfl
 . rw [up hi,I.top i hi j hj];exact bord_congr (up hi).symm (fun r hr=>(up (by omega)).symm) fun _ _=>rfl
 . rw [up hi];exact I.topz i hi j hj
 . rw [up hi];exact I.topn i hi
 . by_cases e1:i=k
   . subst e1;obtain ⟨μ,h,q,e⟩:=I.bot p (by omega) hn;exact ⟨μ,h,q,fun j hj=>by rw [exch_r (by omega),exch_r (by omega),su];exact e j hj⟩
   . by_cases e2:i=p
     . subst e2;obtain ⟨μ,h,q,e⟩:=I.bot k (Nat.le_refl _) (by omega);refine ⟨μ,h,fun r=> - q r,fun j hj=> ?_⟩;rw [exch_s,exch_s,su]
       have s:sumN k (fun r=> - q r*B r j) = - sumN k (fun r=>q r*B r j):=by
        have:=sum_mul (-1) (n:=k) (f:=fun r=>q r*B r j);rw [show - sumN k (fun r=>q r*B r j) = -1*sumN k (fun r=>q r*B r j) by omega, <-this];exact sum_congr fun r _=>by simp [Int.neg_mul]
       rw [s,Int.mul_neg,Int.mul_neg, <-Int.neg_add,Int.mul_neg,e j hj]
     . obtain ⟨μ,h,q,e⟩:=I.bot i h1 h2;exact ⟨μ,h,q,fun j hj=>by rw [exch_ne e1 e2,exch_ne e1 e2,su];exact e j hj⟩
 . by_cases e1:i=k
   . subst e1;rw [exch_r (by omega)];exact I.zero p (by omega) hn j hj
   . by_cases e2:i=p
     . subst e2;rw [exch_s];show - R k j=0;rw [I.zero k (Nat.le_refl _) (by omega) j hj];rfl
     . rw [exch_ne e1 e2];exact I.zero i h1 h2 j hj
def clr(R:Mx)(k c i j:Nat):Int:=R k c*R i j - R i c*R k j
theorem BI.exact {n m : Nat} {A R : Mx} {k : Nat} {L : Nat -> Nat} {last : Int} {c : Nat} {B : Mx} (I : BI n m A R k L last c B) (hc : c < m) (hk : k < n) (hl : R k c ≠ 0) {i : Nat} (hi : k < i) (hn : i < n) :
 (∃ν:Int,ν≠0/\∃s:Nat->Int,∀j,j<m->ν*clr R k c i j=last*(R k c*ν*B i j+sumN (k+1) (fun p=>s p*B p j))) /\
 ∀j,j<m->clr R k c i j=last*bord B (k+1) (fun t=>if t=k then c else L t) i j:=by
 obtain ⟨μi,hμi,qi,ei⟩:=I.bot i (by omega) hn;obtain ⟨μk,hμk,qk,ek⟩:=I.bot k (Nat.le_refl _) hk;have hν:μi*μk≠0:=Int.mul_ne_zero hμi hμk
 have key:∀j,j<m->μi*μk*clr R k c i j=last*(R k c*(μi*μk)*B i j+sumN (k+1) (fun p=>(if p=k then - (R i c*(μi*μk)) else R k c*μk*qi p - R i c*μi*qk p)*B p j)):=by
  intro j hj;have a:=ei j hj;have b:=ek j hj
  have s:sumN (k+1) (fun p=>(if p=k then - (R i c*(μi*μk)) else R k c*μk*qi p - R i c*μi*qk p)*B p j)=R k c*μk*sumN k (fun p=>qi p*B p j) - R i c*μi*sumN k (fun p=>qk p*B p j) - R i c*(μi*μk)*B k j:=by
   have t:sumN k (fun p=>(if p=k then - (R i c*(μi*μk)) else R k c*μk*qi p - R i c*μi*qk p)*B p j)=sumN k (fun p=>(R k c*μk)*(qi p*B p j)+(- (R i c*μi))*(qk p*B p j)):=sum_congr fun p hp=>by
    rw [if_neg (by omega),Int.sub_mul,Int.neg_mul,Int.mul_assoc,Int.mul_assoc (R i c*μi),Int.sub_eq_add_neg]
   rw [sumN,t,sum_lin,if_pos rfl,Int.neg_mul,Int.neg_mul];omega
  rw [s];unfold clr
  have e1:μi*μk*(R k c*R i j - R i c*R k j)=R k c*μk*(μi*R i j) - R i c*μi*(μk*R k j):=by
   rw [Int.mul_sub];congr 1 <;> ac_rfl
  rw [e1,a,b];generalize sumN k (fun p=>qi p*B p j)=S1;generalize sumN k (fun p=>qk p*B p j)=S2;simp only [Int.mul_add,Int.mul_sub];have c1:R k c*μk*(last*(μi*B i j))=last*(R k c*(μi*μk)*B i j):=by ac_rfl
  have c2:R k c*μk*(last*S1)=last*(R k c*μk*S1):=by ac_rfl
  have c3:R i c*μi*(last*(μk*B k j))=last*(R i c*(μi*μk)*B k j):=by ac_rfl
  have c4:R i c*μi*(last*S2)=last*(R i c*μi*S2):=by ac_rfl
  rw [c1,c2,c3,c4];omega
 refine ⟨⟨μi*μk,hν,_,key⟩,fun j hj=> ?_⟩
 have cz:∀t,t<k+1->clr R k c i (if t=k then c else L t)=0:=by
  intro t ht;unfold clr
  by_cases e:t=k
  . rw [if_pos e,Int.mul_comm];omega
  . have lt:=I.Lc t (by omega);rw [if_neg e,I.zero i (by omega) hn _ lt,I.zero k (Nat.le_refl _) hk _ lt];omega
 have wz:∀t,t<k+1->(fun j=>R k c*(μi*μk)*B i j+sumN (k+1) (fun p=>(if p=k then - (R i c*(μi*μk)) else R k c*μk*qi p - R i c*μi*qk p)*B p j)) ((fun t=>if t=k then c else L t) t)=0:=by
  intro t ht
  have e:=key (if t=k then c else L t) (by
   by_cases e:t=k
   . rw [if_pos e];exact hc
   . rw [if_neg e];have:=I.Lc t (by omega);omega)
  rw [cz t ht,Int.mul_zero] at e
  rcases Int.mul_eq_zero.mp e.symm with e | e
  . exact absurd e I.nz
  . exact e
 have d:=bord_of (j:=j) (L:=fun t=>if t=k then c else L t) (w:=fun j=>R k c*(μi*μk)*B i j+sumN (k+1) (fun p=>(if p=k then - (R i c*(μi*μk)) else R k c*μk*qi p - R i c*μi*qk p)*B p j)) (fun _=>rfl) wz;rw [lds_succ, <-I.minor (Nat.le_refl _) hk hc] at d
 have hR:R k c*(μi*μk)≠0:=Int.mul_ne_zero hl hν;have e:=key j hj;generalize bord B (k+1) (fun t=>if t=k then c else L t) i j=y at d ⊢
 generalize R k c*(μi*μk)*B i j+sumN (k+1) (fun p=>(if p=k then - (R i c*(μi*μk)) else R k c*μk*qi p - R i c*μi*qk p)*B p j)=w at d e
 have hw:w=μi*μk*y:=by
  refine mul_cancel hl ?_;rw [Int.mul_comm, <-d]
  ac_rfl
 refine mul_cancel hν ?_;rw [e,hw]
 ac_rfl
theorem BI.step {n m : Nat} {A R : Mx} {k : Nat} {L : Nat -> Nat} {last : Int} {c : Nat} {B : Mx} (I : BI n m A R k L last c B) (hc : c < m) (hk : k < n) (hl : R k c ≠ 0) {R' : Mx}
 (ht:∀i,i<=k->∀j,j<m->R' i j=R i j) (hb:∀i,k<i->i<n->∀j,j<m->last*R' i j=clr R k c i j):BI n m A R' (k+1) (fun t=>if t=k then c else L t) (R k c) (c+1) B:=by
 refine ⟨hk,hc,fun t h=> ?_,fun s t h1 h2=> ?_,hl,?_,fun i hi j hj=> ?_,fun i hi j hj=> ?_,fun i hi=> ?_,fun i h1 h2=> ?_,fun i h1 h2 j hj=> ?_,I.ex⟩
 . show (if t=k then c else L t)<c+1
   split
   . omega
   . have:=I.Lc t (by omega);omega
 . show (if s=k then c else L s)<(if t=k then c else L t);rw [if_neg (by omega)]
   split
   . exact I.Lc s (by omega)
   . exact I.Li s t h1 (by omega)
 . rw [lds_succ];exact I.minor (Nat.le_refl _) hk hc
 . rw [ht i (by omega) j hj]
   by_cases e:i=k
   . subst e;rw [I.minor (Nat.le_refl _) hk hj];exact bord_congr rfl (fun _ _=>rfl) fun t h=>by rw [if_neg (by omega)]
   . rw [I.top i (by omega) j hj];exact bord_congr rfl (fun _ _=>rfl) fun t h=>by rw [if_neg (by omega)]
 . have hj:j<(if i=k then c else L i):=hj
   by_cases e:i=k
   . rw [if_pos e] at hj
     rw [e,ht k (by omega) j (by omega)];exact I.zero k (Nat.le_refl _) hk j hj
   . rw [if_neg e] at hj
     have:=I.Lc i (by omega);rw [ht i (by omega) j (by omega)];exact I.topz i (by omega) j hj
 . show R' i (if i=k then c else L i)≠0
   by_cases e:i=k
   . rw [if_pos e];subst e;rw [ht i (by omega) c hc];exact hl
   . rw [if_neg e];have:=I.Lc i (by omega);rw [ht i (by omega) _ (by omega)];exact I.topn i (by omega)
 . obtain ⟨⟨ν,hν,s,e⟩,_⟩:=I.exact hc hk hl (i:=i) (by omega) h2;refine ⟨R k c*ν,Int.mul_ne_zero hl hν,s,fun j hj=> ?_⟩;have q:=e j hj;rw [<-hb i (by omega) h2 j hj] at q
   have q2:ν*R' i j=R k c*ν*B i j+sumN (k+1) (fun p=>s p*B p j):=by
    refine mul_cancel I.nz ?_;rw [<-q]
    ac_rfl
   rw [<-q2]
   ac_rfl
 . refine mul_cancel I.nz ?_;rw [hb i (by omega) h2 j (by omega),Int.mul_zero];unfold clr
   by_cases e:j=c
   . subst e;rw [Int.mul_comm];omega
   . rw [I.zero i (by omega) h2 j (by omega),I.zero k (Nat.le_refl _) hk j (by omega)];omega
end Ba
namespace Ba
theorem sum_abs{X:Nat}:∀ {n:Nat} {f:Nat->Int},(∀i,i<n->(f i).natAbs<=X)->(sumN n f).natAbs<=n*X
 | 0,_,_=>by simp [sumN]
 | n+1,f,h=>by
  have h1:=sum_abs (n:=n) fun i hi=>h i (by omega);have h2:=h n (by omega);have h3:=Int.natAbs_add_le (sumN n f) (f n);rw [sumN,Nat.succ_mul];omega
theorem det_abs{N Y:Nat}:∀ {n:Nat} {M:Mx},n<=N->(∀i,i<n->∀j,j<n->(M i j).natAbs<=Y)->(det n M).natAbs<=(N*Y) ^ n
 | 0,_,_,_=>by simp [det]
 | n+1,M,hn,h=>by
  rw [det_succ]
  have t:∀p,p<n+1->(sgn (n - p)*M p n*det n (fun i=>M (skip p i))).natAbs<=Y*(N*Y) ^ n:=by
   intro p hp;rw [Int.natAbs_mul,Int.natAbs_mul];have s:(sgn (n - p)).natAbs=1:=by unfold sgn;split <;> rfl
   rw [s,Nat.one_mul];exact Nat.mul_le_mul (h p hp n (by omega)) (det_abs (n:=n) (by omega) fun i hi j hj=>h (skip p i) (by unfold skip;split <;> omega) j (by omega))
  have:=sum_abs t;refine Nat.le_trans this ?_;rw [Nat.pow_succ,Nat.mul_comm ((N*Y) ^ n)];rw [Nat.mul_assoc];exact Nat.mul_le_mul hn (Nat.le_refl _)
theorem Ex.bound{n m Y:Nat}{A B:Mx}(h:Ex n A B)(hA:∀i,i<n->∀j,j<m->(A i j).natAbs<=Y):∀i,i<n->∀j,j<m->(B i j).natAbs<=Y:=by
 induction h with
 | refl=>exact hA
 | @step B r s h1 h2 h3 _ ih=>
  intro i hi j hj
  by_cases e1:i=s
  . subst e1;rw [exch_s];show (- B r j).natAbs<=Y;rw [Int.natAbs_neg];exact ih r h1 j hj
  . by_cases e2:i=r
    . subst e2;rw [exch_r e1];exact ih s h2 j hj
    . rw [exch_ne e2 e1];exact ih i hi j hj
theorem pow_up{a s n:Nat}(ha:1<=a)(h:s<=n):a ^ s<=a ^ n:=Nat.pow_le_pow_right ha h
theorem BI.bound {n m Y : Nat} {A R : Mx} {k : Nat} {L : Nat -> Nat} {last : Int} {c : Nat} {B : Mx} (I : BI n m A R k L last c B) (hn : n <= 32) (hY : 1 <= Y) (hA : ∀ i, i < n -> ∀ j, j < m -> (A i j).natAbs <= Y) :
 (∀i,i<n->∀j,j<m->(R i j).natAbs<=(32*Y) ^ n)/\last.natAbs<=(32*Y) ^ n:=by
 have hB:=I.ex.bound hA;have hL:∀t,t<k->L t<m:=fun t ht=>Nat.lt_of_lt_of_le (I.Lc t ht) I.cm
 have bo:∀s i j,s<=k->s+1<=n->i<n->j<m->(bord B s L i j).natAbs<=(32*Y) ^ n:=by
  intro s i j hs hsn hi hj;refine Nat.le_trans (det_abs (N:=32) (Y:=Y) (by omega) fun r hr t ht=> ?_) (pow_up (by omega) hsn);refine hB _ ?_ _ ?_
  . unfold row;split <;> omega
  . unfold col;split
    . exact hL t (by omega)
    . exact hj
 refine ⟨fun i hi j hj=> ?_,?_⟩
 . by_cases h:i<k
   . rw [I.top i h j hj];exact bo i i j (by omega) (by omega) hi hj
   . rw [I.minor (by omega) hi hj];exact bo k i j (Nat.le_refl _) (by omega) hi hj
 . rw [I.ld];refine Nat.le_trans (det_abs (N:=32) (Y:=Y) (by have:=I.kn;omega) fun r hr t ht=> ?_) (pow_up (by omega) I.kn);exact hB r (by have:=I.kn;omega) _ (hL t ht)
end Ba
namespace Ba
theorem det_rowsum{n r:Nat}{M:Mx}(h:r<n)(f:Nat->Int)(g:Nat->Nat->Int):∀m,det n (setR M r (fun j=>sumN m (fun s=>f s*g s j)))=sumN m (fun s=>f s*det n (setR M r (g s)))
 | 0=>det_zero_row h fun j _=>by rw [setR_same];rfl
 | m+1=>by
  have e:(fun j=>sumN (m+1) (fun s=>f s*g s j))=fun j=>1*(fun j=>sumN m (fun s=>f s*g s j)) j+f m*g m j:=by
   funext j;rw [sumN];show _=1*sumN m (fun s=>f s*g s j)+f m*g m j;rw [Int.one_mul]
  rw [e,det_lin 1 (f m) h,det_rowsum h f g m,sumN];omega
def unit(s j:Nat):Int:=if j=s then 1 else 0
def cof(n:Nat)(M:Mx)(r s:Nat):Int:=det n (setR M r (unit s))
theorem det_cof{n r:Nat}{M:Mx}(h:r<n)(v:Nat->Int):det n (setR M r v)=sumN n (fun s=>v s*cof n M r s):=by
 unfold cof;rw [<-det_rowsum h v unit n];refine det_congr fun i hi j hj=> ?_
 by_cases e:i=r
 . subst e;rw [setR_same,setR_same,sum_one (r:=j) hj fun s _ hs=>by unfold unit;rw [if_neg (fun q=>hs q.symm),Int.mul_zero]];unfold unit;rw [if_pos rfl,Int.mul_one]
 . rw [setR_ne e,setR_ne e]
def crx(n:Nat)(M:Mx)(b:Nat->Int)(s:Nat):Int:=sumN n (fun r=>cof n M r s*b r)
theorem cramer(n:Nat)(M:Mx)(b:Nat->Int){i:Nat}(hi:i<n):sumN n (fun s=>M i s*crx n M b s)=det n M*b i:=by
 have e1:sumN n (fun s=>M i s*crx n M b s)=sumN n (fun s=>sumN n (fun r=>M i s*(cof n M r s*b r))):=sum_congr fun s _=>by
  unfold crx;rw [sum_mul]
 rw [e1,sum_comm]
 have e2:sumN n (fun r=>sumN n (fun s=>M i s*(cof n M r s*b r)))=sumN n (fun r=>b r*det n (setR M r (M i))):=sum_congr fun r hr=>by
  rw [det_cof hr, <-sum_mul];exact sum_congr fun s _=>by rw [<-Int.mul_assoc,Int.mul_comm]
 rw [e2,sum_one (r:=i) hi fun r hr hne=>by
  rw [det_same (r:=r) (s:=i) hr hi hne (by rw [setR_same,setR_ne (fun q=>hne q.symm)]),Int.mul_zero]]
 rw [setR_self,Int.mul_comm]
theorem bord_lin(B:Mx)(i:Nat)(L:Nat->Nat)(c:Nat):bord B i L i c=sumN (i+1) (fun p=>B p c*(sgn (i - p)*det i (fun r t=>B (skip p r) (L t)))):=by
 unfold bord;rw [det_succ];refine sum_congr fun p hp=> ?_;have e1:row i i p=p:=by unfold row;split <;> omega
 have e2:col i L c i=c:=by unfold col;split <;> omega
 have e3:det i (fun r t=>B (row i i (skip p r)) (col i L c t))=det i (fun r t=>B (skip p r) (L t)):=det_congr fun r hr t ht=>by
  have e4:row i i (skip p r)=skip p r:=by
   have:skip p r<=i:=by unfold skip;split <;> omega
   unfold row;split <;> omega
  have e5:col i L c t=L t:=by unfold col;rw [if_pos ht]
  rw [e4,e5]
 rw [e1,e2];show sgn (i - p)*B p c*det i (fun r t=>B (row i i (skip p r)) (col i L c t))=_;rw [e3,Int.mul_comm (sgn (i - p)),Int.mul_assoc]
def redx(B:Mx)(k:Nat)(L:Nat->Nat)(j t:Nat):Int:=crx k (fun r t=>B r (L t)) (fun r=>B r j) t
theorem BI.red {n m : Nat} {A R : Mx} {k : Nat} {L : Nat -> Nat} {last : Int} {c : Nat} {B : Mx} (I : BI n m A R k L last c B) {i j : Nat} (hi : i < k) (hj : j < m) :
 sumN k (fun t=>R i (L t)*redx B k L j t)=last*R i j:=by
 have hL:∀t,t<k->L t<m:=fun t ht=>Nat.lt_of_lt_of_le (I.Lc t ht) I.cm
 have e1:sumN k (fun t=>R i (L t)*redx B k L j t)=sumN k (fun t=>sumN (i+1) (fun p=>B p (L t)*(sgn (i - p)*det i (fun r t=>B (skip p r) (L t)))*redx B k L j t)):=sum_congr fun t ht=>by
  rw [I.top i hi (L t) (hL t ht),bord_lin,Int.mul_comm, <-sum_mul];exact sum_congr fun p _=>Int.mul_comm _ _
 rw [e1,sum_comm,I.top i hi j hj,bord_lin, <-sum_mul];refine sum_congr fun p hp=> ?_;have h:=cramer k (fun r t=>B r (L t)) (fun r=>B r j) (i:=p) (by omega);have e2:last=det k (fun r t=>B r (L t)):=I.ld;rw [<-e2] at h
 have e3:sumN k (fun t=>B p (L t)*(sgn (i - p)*det i (fun r t=>B (skip p r) (L t)))*redx B k L j t)=(sgn (i - p)*det i (fun r t=>B (skip p r) (L t)))*sumN k (fun t=>B p (L t)*crx k (fun r t=>B r (L t)) (fun r=>B r j) t):=by
  rw [<-sum_mul];refine sum_congr fun t _=> ?_;unfold redx;generalize (sgn (i - p)*det i (fun r t=>B (skip p r) (L t)))=a;rw [Int.mul_comm (B p (L t)) a,Int.mul_assoc]
 rw [e3,h];generalize (sgn (i - p)*det i (fun r t=>B (skip p r) (L t)))=a;show a*(last*B p j)=last*(B p j*a);rw [Int.mul_comm a,Int.mul_assoc]
theorem sum_drop:∀ {k i:Nat} {f:Nat->Int},i<=k->(∀t,t<i->f t=0)->sumN k f=sumN (k - i) (fun t=>f (i+t))
 | 0, i, f, h, _ => by have : i = 0 := by omega
                       subst this;rfl
 | k+1,i,f,h,z=>by
  by_cases e:i=k+1
  . subst e;rw [sum_zero z,Nat.sub_self];rfl
  . have e1:k+1 - i=(k - i)+1:=by omega
    rw [e1,sumN,sumN,sum_drop (k:=k) (by omega) z];congr 2
    omega
theorem sum_head:∀ {n:Nat} {f:Nat->Int},sumN (n+1) f=f 0+sumN n (fun t=>f (t+1))
 | 0,f=>by simp [sumN]
 | n+1,f=>by rw [sumN,sum_head (n:=n),sumN];omega
theorem BI.back {n m : Nat} {A R : Mx} {k : Nat} {L : Nat -> Nat} {last : Int} {c : Nat} {B : Mx} (I : BI n m A R k L last c B) {i j : Nat} (hi : i < k) (hj : j < m) :
 last*R i j - sumN (k - (i+1)) (fun t=>R i (L (i+1+t))*redx B k L j (i+1+t))=R i (L i)*redx B k L j i:=by
 have h:=I.red hi hj;rw [sum_drop (i:=i) (by omega) fun t ht=>by rw [I.topz i hi (L t) (I.Li t i ht hi),Int.zero_mul]] at h
 have e:k - i=(k - (i+1))+1:=by omega
 rw [e,sum_head] at h
 have e2:sumN (k - (i+1)) (fun t=>R i (L (i+(t+1)))*redx B k L j (i+(t+1)))=sumN (k - (i+1)) (fun t=>R i (L (i+1+t))*redx B k L j (i+1+t)):=sum_congr fun t _=>by
  rw [show i+(t+1)=i+1+t by omega]
 rw [e2] at h
 simp only [Nat.add_zero] at h
 omega
theorem BI.back_div {n m : Nat} {A R : Mx} {k : Nat} {L : Nat -> Nat} {last : Int} {c : Nat} {B : Mx} (I : BI n m A R k L last c B) {i j : Nat} (hi : i < k) (hj : j < m) :
 Int.fdiv (last*R i j - sumN (k - (i+1)) (fun t=>R i (L (i+1+t))*redx B k L j (i+1+t))) (R i (L i))=redx B k L j i:=by
 rw [I.back hi hj];exact Int.mul_fdiv_cancel_left _ (I.topn i hi)
theorem BI.only {n m : Nat} {A R : Mx} {k : Nat} {L : Nat -> Nat} {last : Int} {c : Nat} {B : Mx} (I : BI n m A R k L last c B) {j : Nat} (hj : j < m) {y : Nat -> Int}
 (hy:∀i,i<k->sumN k (fun t=>R i (L t)*y t)=last*R i j):∀d i,i<k->k - i<=d->y i=redx B k L j i
 | 0,i,hi,hd=>by omega
 | d+1,i,hi,hd=>by
  have h:=hy i hi;rw [<-I.red hi hj] at h
  rw [sum_drop (i:=i) (by omega) fun t ht=>by rw [I.topz i hi (L t) (I.Li t i ht hi),Int.zero_mul],
   sum_drop (f:=fun t=>R i (L t)*redx B k L j t) (i:=i) (by omega) fun t ht=>by rw [I.topz i hi (L t) (I.Li t i ht hi),Int.zero_mul]] at h
  have e:k - i=(k - (i+1))+1:=by omega
  rw [e,sum_head,sum_head] at h
  have e2:sumN (k - (i+1)) (fun t=>R i (L (i+(t+1)))*y (i+(t+1)))=sumN (k - (i+1)) (fun t=>R i (L (i+(t+1)))*redx B k L j (i+(t+1))):=sum_congr fun t ht=>by
   rw [I.only hj hy d (i+(t+1)) (by omega) (by omega)]
  rw [e2] at h
  have h2:R i (L i)*y i=R i (L i)*redx B k L j i:=by
   simp only [Nat.add_zero] at h
   omega
  exact mul_cancel (I.topn i hi) h2
theorem BI.red_lead{n m:Nat}{A R:Mx}{k:Nat}{L:Nat->Nat}{last:Int}{c:Nat}{B:Mx}(I:BI n m A R k L last c B){s i:Nat}(hs:s<k)(hi:i<k):redx B k L (L s) i=if i=s then last else 0:=by
 refine (I.only (j:=L s) (Nat.lt_of_lt_of_le (I.Lc s hs) I.cm) (y:=fun i=>if i=s then last else 0) (fun i hi=> ?_) k i hi (by omega)).symm;rw [sum_one (r:=s) hs fun t _ ht=>by rw [if_neg ht,Int.mul_zero],if_pos rfl,Int.mul_comm]
theorem BI.red_ahead{n m:Nat}{A R:Mx}{k:Nat}{L:Nat->Nat}{last:Int}{c:Nat}{B:Mx}(I:BI n m A R k L last c B){i j:Nat}(hi:i<k)(hj:j<L i):∀d t,t<k->i<=t->k - t<=d->redx B k L j t=0
 | 0,t,ht,_,hd=>by omega
 | d+1,t,ht,hit,hd=>by
  have hLi:L i<=L t:=by
   rcases Nat.lt_or_ge i t with h | h
   . exact Nat.le_of_lt (I.Li i t h ht)
   . have:i=t:=by omega
     subst this;exact Nat.le_refl _
  have hm:j<m:=by have:=I.Lc t ht;have:=I.cm;omega
  have h:=I.back ht hm
  rw [I.topz t ht j (by omega),Int.mul_zero,sum_zero fun u hu=>by
   rw [I.red_ahead hi hj d (t+1+u) (by omega) (by omega) (by omega),Int.mul_zero]] at h
  have h2:R t (L t)*redx B k L j t=0:=by omega
  rcases Int.mul_eq_zero.mp h2 with h3 | h3
  . exact absurd h3 (I.topn t ht)
  . exact h3
theorem unit_abs(s j:Nat):(unit s j).natAbs<=1:=by unfold unit;split <;> decide
theorem cof_abs{N Y n:Nat}{M:Mx}(hn:n<=N)(hY:1<=Y)(h:∀i,i<n->∀j,j<n->(M i j).natAbs<=Y)(r s:Nat):(cof n M r s).natAbs<=(N*Y) ^ n:=by
 unfold cof;refine det_abs hn fun i hi j hj=> ?_
 by_cases e:i=r
 . subst e;rw [setR_same];exact Nat.le_trans (unit_abs s j) hY
 . rw [setR_ne e];exact h i hi j hj
theorem crx_abs{N Y n:Nat}{M:Mx}{b:Nat->Int}(hn:n<=N)(hY:1<=Y)(h:∀i,i<n->∀j,j<n->(M i j).natAbs<=Y)(hb:∀i,i<n->(b i).natAbs<=Y)(s:Nat):(crx n M b s).natAbs<=n*((N*Y) ^ n*Y):=by
 unfold crx;refine sum_abs fun i hi=> ?_;rw [Int.natAbs_mul];exact Nat.mul_le_mul (cof_abs hn hY h i s) (hb i hi)
theorem BI.red_abs {n m Y : Nat} {A R : Mx} {k : Nat} {L : Nat -> Nat} {last : Int} {c : Nat} {B : Mx} (I : BI n m A R k L last c B) (hY : 1 <= Y) (hA : ∀ i, i < n -> ∀ j, j < m -> (A i j).natAbs <= Y) {j : Nat} (hj : j < m) (t : Nat) :
 (redx B k L j t).natAbs<=k*((n*Y) ^ k*Y):=by
 have hB:=I.ex.bound hA;unfold redx;refine crx_abs I.kn hY (fun r hr t ht=>hB r (Nat.lt_of_lt_of_le hr I.kn) (L t) (Nat.lt_of_lt_of_le (I.Lc t ht) I.cm)) (fun r hr=>hB r (Nat.lt_of_lt_of_le hr I.kn) j hj) t
end Ba
namespace Ba
def Ker(n m:Nat)(A:Mx)(x:Nat->Int):Prop:=∀i,i<n->sumN m (fun j=>A i j*x j)=0
structure RR (m k:Nat) (L:Nat->Nat) (ρ:Mx) (e:Int):Prop where
 nz:e≠0
 Lm:∀t,t<k->L t<m
 Li:∀s t,s<t->t<k->L s<L t
 ld:∀t,t<k->∀s,s<k->ρ t (L s)=if t=s then e else 0
 az:∀t,t<k->∀j,j<L t->ρ t j=0
theorem RR.inj{m k:Nat}{L:Nat->Nat}{ρ:Mx}{e:Int}(h:RR m k L ρ e){s t:Nat}(hs:s<k)(ht:t<k)(he:L s=L t):s=t:=by
 rcases Nat.lt_trichotomy s t with h1 | h1 | h1
 . have:=h.Li s t h1 ht;omega
 . exact h1
 . have:=h.Li t s h1 hs;omega
open Classical in
noncomputable def kv(k:Nat)(L:Nat->Nat)(ρ:Mx)(e:Int)(j:Nat)(c:Nat):Int:=
 if c=j then e else if h:∃t,t<k/\L t=c then - ρ h.choose j else 0
theorem kv_j{k:Nat}{L:Nat->Nat}{ρ:Mx}{e:Int}{j:Nat}:kv k L ρ e j j=e:=by unfold kv;rw [if_pos rfl]
theorem RR.kv_L{m k:Nat}{L:Nat->Nat}{ρ:Mx}{e:Int}(h:RR m k L ρ e){j t:Nat}(ht:t<k)(hj:L t≠j):kv k L ρ e j (L t) = - ρ t j:=by
 unfold kv;rw [if_neg hj];have hx:∃s,s<k/\L s=L t:=⟨t,ht,rfl⟩;rw [dif_pos hx,h.inj hx.choose_spec.1 ht hx.choose_spec.2]
theorem kv_else{k:Nat}{L:Nat->Nat}{ρ:Mx}{e:Int}{j c:Nat}(hc:c≠j)(hn:∀t,t<k->L t≠c):kv k L ρ e j c=0:=by
 unfold kv;rw [if_neg hc,dif_neg];rintro ⟨t,ht,h⟩;exact hn t ht h
theorem sum_pair{n r s:Nat}{f:Nat->Int}(hr:r<n)(hs:s<n)(hrs:r≠s)(h:∀i,i<n->i≠r->i≠s->f i=0):sumN n f=f r+f s:=by
 have e:sumN n f=sumN n (fun i=>if i=r then f r else 0)+sumN n (fun i=>if i=r then 0 else f i):=by
  rw [<-sum_add];exact sum_congr fun i _=>by split <;> simp_all
 rw [e,sum_one (r:=r) hr fun i _ hi=>by rw [if_neg hi],sum_one (r:=s) hs fun i hi hne=>by
  by_cases e2:i=r
  . rw [if_pos e2]
  . rw [if_neg e2];exact h i hi e2 hne]
 rw [if_pos rfl,if_neg (fun q=>hrs q.symm)]
theorem RR.row_kv {m k k' : Nat} {L : Nat -> Nat} {ρ ρ' : Mx} {e e' : Int} (h : RR m k L ρ e) (h' : RR m k' L ρ' e') (hk : k' = k) {j t : Nat} (hj : j < m) (hn : ∀ t, t < k -> L t ≠ j) (ht : t < k) :
 sumN m (fun c=>ρ' t c*kv k L ρ e j c)=e'*(- ρ t j)+ρ' t j*e:=by
 subst hk;rw [sum_pair (r:=L t) (s:=j) (h.Lm t ht) hj (hn t ht) fun c hc h1 h2=> ?_]
 . rw [h.kv_L ht (hn t ht),kv_j,h'.ld t ht t ht,if_pos rfl]
 . by_cases hx:∃s,s<k'/\L s=c
   . obtain ⟨s,hs,rfl⟩:=hx;have hts:t≠s:=fun q=>h1 (by rw [q]);rw [h'.ld t ht s hs,if_neg hts,Int.zero_mul]
   . rw [kv_else h2 fun t ht q=>hx ⟨t,ht,q⟩,Int.mul_zero]
theorem RR.ker_kv{m k:Nat}{L:Nat->Nat}{ρ:Mx}{e:Int}(h:RR m k L ρ e){j:Nat}(hj:j<m)(hn:∀t,t<k->L t≠j):Ker k m ρ (kv k L ρ e j):=fun t ht=>by
 rw [h.row_kv h rfl hj hn ht,Int.mul_neg,Int.mul_comm];omega
theorem RR.kv_behind{m k:Nat}{L:Nat->Nat}{ρ:Mx}{e:Int}(h:RR m k L ρ e){j c:Nat}(hc:j<c):kv k L ρ e j c=0:=by
 by_cases hx:∃s,s<k/\L s=c
 . obtain ⟨s,hs,rfl⟩:=hx;rw [h.kv_L hs (by omega),h.az s hs j hc];rfl
 . exact kv_else (by omega) fun t ht q=>hx ⟨t,ht,q⟩
theorem RR.lead_zero{m k:Nat}{L:Nat->Nat}{ρ:Mx}{e:Int}(h:RR m k L ρ e){t:Nat}(ht:t<k){x:Nat->Int}(hx:Ker k m ρ x)(hz:∀c,L t<c->x c=0):x (L t)=0:=by
 have h1:=hx t ht
 rw [sum_one (r:=L t) (h.Lm t ht) fun c hc hne=>by
  rcases Nat.lt_or_ge c (L t) with h2 | h2
  . rw [h.az t ht c h2,Int.zero_mul]
  . rw [hz c (by omega),Int.mul_zero],h.ld t ht t ht,if_pos rfl] at h1
 rcases Int.mul_eq_zero.mp h1 with h2 | h2
 . exact absurd h2 h.nz
 . exact h2
theorem RR.leads{m k k':Nat}{L L':Nat->Nat}{ρ ρ':Mx}{e e':Int}(h:RR m k L ρ e)(h':RR m k' L' ρ' e')(hk:∀x,Ker k' m ρ' x->Ker k m ρ x){t:Nat}(ht:t<k):∃u,u<k'/\L' u=L t:=by
 refine Classical.byContradiction fun hno=> ?_;have hn:∀u,u<k'->L' u≠L t:=fun u hu q=>hno ⟨u,hu,q⟩;have z:=h.lead_zero ht (hk _ (h'.ker_kv (h.Lm t ht) hn)) fun c hc=>h'.kv_behind hc;rw [kv_j] at z
 exact h'.nz z
theorem RR.same_to {m k k' : Nat} {L L' : Nat -> Nat} {ρ ρ' : Mx} {e e' : Int} (h : RR m k L ρ e) (h' : RR m k' L' ρ' e')
 (a:∀t,t<k->∃u,u<k'/\L' u=L t) (b:∀t,t<k'->∃u,u<k/\L u=L' t):∀d t,t<d->(t<k↔t<k')/\(t<k->L t=L' t)
 | 0,t,ht=>by omega
 | d+1,t,ht=>by
  have ih:∀s,s<t->(s<k↔s<k')/\(s<k->L s=L' s):=fun s hs=>RR.same_to h h' a b d s (by omega)
  have p:t<k->t<k'/\L' t<=L t:=fun hk=>by
   obtain ⟨u,hu,e⟩:=a t hk;rcases Nat.lt_or_ge u t with h1 | h1
   . have h2:=(ih u h1).2 (by omega);have:=h.Li u t h1 hk;omega
   . refine ⟨by omega,?_⟩;rcases Nat.lt_or_ge t u with h2 | h2
     . have:=h'.Li t u h2 hu;omega
     . have:t=u:=by omega
       subst this;omega
  have q:t<k'->t<k/\L t<=L' t:=fun hk=>by
   obtain ⟨u,hu,e⟩:=b t hk;rcases Nat.lt_or_ge u t with h1 | h1
   . have h2:=(ih u h1).2 hu;have:=h'.Li u t h1 hk;omega
   . refine ⟨by omega,?_⟩;rcases Nat.lt_or_ge t u with h2 | h2
     . have:=h.Li t u h2 hu;omega
     . have:t=u:=by omega
       subst this;omega
  refine ⟨⟨fun x=>(p x).1,fun x=>(q x).1⟩,fun x=> ?_⟩;have:=(p x).2;have:=(q (p x).1).2;omega
theorem RR.unique {m k k' : Nat} {L L' : Nat -> Nat} {ρ ρ' : Mx} {e e' : Int} (h : RR m k L ρ e) (h' : RR m k' L' ρ' e') (hk : ∀ x, Ker k m ρ x ↔ Ker k' m ρ' x) :
 k=k'/\(∀t,t<k->L t=L' t)/\∀t,t<k->∀j,j<m->e'*ρ t j=e*ρ' t j:=by
 have a:∀t,t<k->∃u,u<k'/\L' u=L t:=fun t ht=>h.leads h' (fun x=>(hk x).2) ht;have b:∀t,t<k'->∃u,u<k/\L u=L' t:=fun t ht=>h'.leads h (fun x=>(hk x).1) ht;have s:=RR.same_to h h' a b (k+k'+1)
 have ek:k=k':=by
  have s1:=(s k (by omega)).1;have s2:=(s k' (by omega)).1;omega
 subst ek;have eL:∀t,t<k->L t=L' t:=fun t ht=>(s t (by omega)).2 ht;have h2:RR m k L ρ' e':=⟨h'.nz,h.Lm,h.Li,fun t ht s hs=>by rw [eL s hs];exact h'.ld t ht s hs,fun t ht j hj=>h'.az t ht j (by rw [<-eL t ht];exact hj)⟩;refine ⟨rfl,eL,fun t ht j hj=> ?_⟩
 by_cases hx:∃s,s<k/\L s=j
 . obtain ⟨s,hs,rfl⟩:=hx;rw [h.ld t ht s hs,h2.ld t ht s hs]
   split
   . exact Int.mul_comm _ _
   . rw [Int.mul_zero,Int.mul_zero]
 . have hn:∀t,t<k->L t≠j:=fun t ht q=>hx ⟨t,ht,q⟩;have z:=(hk _).1 (h.ker_kv hj hn) t ht;rw [h.row_kv h2 rfl hj hn ht,Int.mul_neg,Int.mul_comm (ρ' t j)] at z
   omega
theorem BI.rr{n m:Nat}{A R:Mx}{k:Nat}{L:Nat->Nat}{last:Int}{c:Nat}{B:Mx}(I:BI n m A R k L last c B):RR m k L (fun t j=>redx B k L j t) last where
 nz:=I.nz
 Lm:=fun t ht=>Nat.lt_of_lt_of_le (I.Lc t ht) I.cm
 Li:=I.Li
 ld:=fun t ht s hs=>I.red_lead hs ht
 az:=fun t ht j hj=>I.red_ahead ht hj k t ht (Nat.le_refl _) (by omega)
theorem Ex.ker{n m:Nat}{A B:Mx}(h:Ex n A B)(x:Nat->Int):Ker n m A x↔Ker n m B x:=by
 induction h with
 | refl=>exact Iff.rfl
 | @step B r s hr hs hrs _ ih=>
  rw [ih]
  have neg:sumN m (fun j=> - B r j*x j) = - sumN m (fun j=>B r j*x j):=by
   have:=sum_mul (-1) (n:=m) (f:=fun j=>B r j*x j);rw [show (- sumN m (fun j=>B r j*x j)) = -1*sumN m (fun j=>B r j*x j) by omega, <-this];exact sum_congr fun j _=>by rw [Int.neg_mul,Int.neg_mul,Int.one_mul]
  constructor
  . intro k i hi
    by_cases e1:i=s
    . subst e1;rw [exch_s];show sumN m (fun j=> - B r j*x j)=0;rw [neg,k r hr];rfl
    . by_cases e2:i=r
      . subst e2;rw [exch_r hrs];exact k s hs
      . rw [exch_ne e2 e1];exact k i hi
  . intro k i hi
    by_cases e1:i=s
    . subst e1;have:=k r hr;rw [exch_r hrs] at this;exact this
    . by_cases e2:i=r
      . subst e2;have h1:=k s hs;rw [exch_s] at h1
        have h2:sumN m (fun j=> - B i j*x j)=0:=h1;rw [neg] at h2;omega
      . have:=k i hi;rw [exch_ne e2 e1] at this;exact this
theorem sum_mul_right(a:Int){n:Nat}{f:Nat->Int}:sumN n (fun i=>f i*a)=sumN n f*a:=by
 rw [Int.mul_comm, <-sum_mul];exact sum_congr fun i _=>Int.mul_comm _ _
theorem BI.ker{n m:Nat}{A R:Mx}{k:Nat}{L:Nat->Nat}{last:Int}{B:Mx}(I:BI n m A R k L last m B)(x:Nat->Int):Ker n m A x↔Ker k m (fun t j=>redx B k L j t) x:=by
 rw [I.ex.ker (m:=m)]
 constructor
 . intro h t ht;show sumN m (fun j=>redx B k L j t*x j)=0
   have e:sumN m (fun j=>redx B k L j t*x j)=sumN m (fun j=>sumN k (fun r=>cof k (fun r t=>B r (L t)) r t*(B r j*x j))):=sum_congr fun j _=>by
    unfold redx crx;rw [<-sum_mul_right];exact sum_congr fun r _=>Int.mul_assoc _ _ _
   rw [e,sum_comm];refine sum_zero fun r hr=> ?_;rw [sum_mul,h r (Nat.lt_of_lt_of_le hr I.kn),Int.mul_zero]
 . intro h
   have top:∀p,p<k->sumN m (fun j=>B p j*x j)=0:=fun p hp=>by
    have e:last*sumN m (fun j=>B p j*x j)=0:=by
     rw [<-sum_mul]
     have e1:sumN m (fun j=>last*(B p j*x j))=sumN m (fun j=>sumN k (fun t=>B p (L t)*(redx B k L j t*x j))):=sum_congr fun j _=>by
      have c:=cramer k (fun r t=>B r (L t)) (fun r=>B r j) hp;have e2:last=det k (fun r t=>B r (L t)):=I.ld;rw [<-e2] at c
      rw [<-Int.mul_assoc];show last*B p j*x j=_;rw [<-c, <-sum_mul_right];exact sum_congr fun t _=>Int.mul_assoc _ _ _
     rw [e1,sum_comm];refine sum_zero fun t ht=> ?_;rw [sum_mul,show sumN m (fun j=>redx B k L j t*x j)=0 from h t ht,Int.mul_zero]
    rcases Int.mul_eq_zero.mp e with e | e
    . exact absurd e I.nz
    . exact e
   intro i hi;rcases Nat.lt_or_ge i k with h1 | h1
   . exact top i h1
   . obtain ⟨μ,hμ,q,hq⟩:=I.bot i h1 hi
     have e:μ*sumN m (fun j=>B i j*x j)=0:=by
      rw [<-sum_mul]
      have e1:sumN m (fun j=>μ*(B i j*x j))=sumN m (fun j=> -1*sumN k (fun p=>q p*(B p j*x j))):=sum_congr fun j hj=>by
       have e2:=hq j hj;rw [I.zero i h1 hi j hj,Int.mul_zero] at e2
       rcases Int.mul_eq_zero.mp e2.symm with e3 | e3
       . exact absurd e3 I.nz
       . have e4:μ*B i j = -1*sumN k (fun p=>q p*B p j):=by omega
         rw [<-Int.mul_assoc,e4,Int.mul_assoc, <-sum_mul_right];congr 1
         exact sum_congr fun p _=>Int.mul_assoc _ _ _
      rw [e1,sum_mul,sum_comm,sum_zero fun p hp=> ?_]
      . rfl
      . rw [sum_mul,top p hp,Int.mul_zero]
     rcases Int.mul_eq_zero.mp e with e | e
     . exact absurd e hμ
     . exact e
end Ba
namespace Ba
theorem sum_sub{n:Nat}{f g:Nat->Int}(h:sumN n (fun i=>f i - g i)=0):sumN n f=sumN n g:=by
 have e:=sum_lin 1 (-1) (n:=n) (f:=f) (g:=g);have e2:sumN n (fun i=>1*f i + -1*g i)=sumN n (fun i=>f i - g i):=sum_congr fun i _=>by omega
 rw [e2,h] at e
 omega
theorem Ex.comb{n:Nat}{A B:Mx}(h:Ex n A B):∀q:Nat->Int,∃q':Nat->Int,∀j,sumN n (fun i=>q i*B i j)=sumN n (fun i=>q' i*A i j):=by
 induction h with
 | refl=>exact fun q=>⟨q,fun _=>rfl⟩
 | @step B r s hr hs hrs _ ih=>
  intro q;obtain ⟨q',h⟩:=ih fun i=>if i=s then q r else if i=r then - q s else q i
  refine ⟨q',fun j=>Eq.trans ?_ (h j)⟩;refine sum_sub ?_;rw [sum_pair hr hs hrs]
  . rw [exch_r hrs,exch_s];simp only [hrs,if_false,if_true];rw [Int.mul_neg,Int.neg_mul];omega
  . intro i _ h1 h2;rw [exch_ne h1 h2];simp only [h1,h2,if_false];omega
theorem sum_ext0{n k:Nat}{f:Nat->Int}(h:k<=n):sumN n (fun i=>if i<k then f i else 0)=sumN k f:=by
 induction n with
 | zero => have : k = 0 := by omega
           subst this;rfl
 | succ n ih=>
  by_cases e:k=n+1
  . subst e;exact sum_congr fun i hi=>if_pos hi
  . show sumN n _+(if n<k then f n else 0)=_;rw [ih (by omega),if_neg (by omega),Int.add_zero]
theorem BI.never {n m : Nat} {A R : Mx} {k : Nat} {L : Nat -> Nat} {last : Int} {B : Mx} (I : BI n (m + 1) A R k L last (m + 1) B) {s : Nat} (hs : s < k) (hm : L s = m) :
 ∃q:Nat->Int,(∀j,j<m->sumN n (fun i=>q i*A i j)=0)/\sumN n (fun i=>q i*A i m)≠0:=by
 obtain ⟨q,h⟩:=I.ex.comb fun r=>if r<k then cof k (fun r t=>B r (L t)) r s else 0
 have e:∀j,sumN n (fun i=>q i*A i j)=redx B k L j s:=fun j=>by
  rw [<-h j];unfold redx crx;rw [<-sum_ext0 I.kn];refine sum_congr fun i _=> ?_
  by_cases hi:i<k
  . rw [if_pos hi,if_pos hi]
  . rw [if_neg hi,if_neg hi,Int.zero_mul]
 refine ⟨q,fun j hj=>(e j).trans (I.rr.az s hs j (by omega)),?_⟩;rw [e m];have:=I.rr.ld s hs s hs;rw [if_pos rfl,hm] at this
 show redx B k L m s≠0;rw [show redx B k L m s=last from this];exact I.nz
theorem BI.found {n m : Nat} {A R : Mx} {k : Nat} {L : Nat -> Nat} {last : Int} {B : Mx} (I : BI n (m + 1) A R k L last (m + 1) B) (hn : ∀ t, t < k -> L t ≠ m) {X : Nat -> Int} (h1 : ∀ t, t < k -> X (L t) = redx B k L m t) (h0 : ∀ j, j < m -> (∀ t, t < k -> L t ≠ j) -> X j = 0) :
 ∀i,i<n->sumN m (fun j=>A i j*X j)=last*A i m:=by
 intro i hi;have h:=(I.ker _).2 (I.rr.ker_kv (j:=m) (by omega) hn) i hi;have h:sumN m (fun j=>A i j*kv k L (fun t j=>redx B k L j t) last m j)+A i m*kv k L (fun t j=>redx B k L j t) last m m=0:=h;rw [kv_j] at h
 have e:sumN m (fun j=>A i j*kv k L (fun t j=>redx B k L j t) last m j) = -1*sumN m (fun j=>A i j*X j):=by
  rw [<-sum_mul];refine sum_congr fun j hj=> ?_
  have:kv k L (fun t j=>redx B k L j t) last m j = - X j:=by
   by_cases hx:∃t,t<k/\L t=j
   . obtain ⟨t,ht,rfl⟩:=hx;rw [I.rr.kv_L ht (hn t ht),h1 t ht]
   . have hx:∀t,t<k->L t≠j:=fun t ht e=>hx ⟨t,ht,e⟩;rw [kv_else (by omega) hx,h0 j hj hx];rfl
  rw [this,Int.mul_neg,Int.neg_mul,Int.one_mul]
 rw [e] at h
 rw [Int.mul_comm last];omega
theorem mul_self_nn(a:Int):0<=a*a:=by rw [<-Int.natAbs_mul_self];exact Int.natCast_nonneg _
theorem sq_zero:∀ {n:Nat} {f:Nat->Int},sumN n (fun i=>f i*f i)=0->∀i,i<n->f i=0:=by
 have nn:∀(n:Nat) (f:Nat->Int),0<=sumN n (fun i=>f i*f i):=fun n f=>by
  induction n with
  | zero=>exact Int.le_refl _
  | succ n ih=>exact Int.add_nonneg ih (mul_self_nn _)
 intro n
 induction n with
 | zero=>exact fun _ i hi=>absurd hi (by omega)
 | succ n ih=>
  intro f h i hi;have h:sumN n (fun i=>f i*f i)+f n*f n=0:=h;have a:=nn n f;have b:=mul_self_nn (f n)
  by_cases e:i=n
  . subst e;have:f i*f i=0:=by omega
    rcases Int.mul_eq_zero.mp this with h | h <;> exact h
  . exact ih (by omega) i (by omega)
def gram(N:Nat)(R:Mx):Mx:=fun i j=>sumN N (fun k=>R k i*R k j)
theorem gram_mul{N m:Nat}{R:Mx}{y:Nat->Int}(i:Nat):sumN m (fun j=>gram N R i j*y j)=sumN N (fun k=>R k i*sumN m (fun j=>R k j*y j)):=by
 have e:sumN m (fun j=>gram N R i j*y j)=sumN m (fun j=>sumN N (fun k=>R k i*(R k j*y j))):=sum_congr fun j _=>by
  unfold gram;rw [<-sum_mul_right];exact sum_congr fun k _=>Int.mul_assoc _ _ _
 rw [e,sum_comm];exact sum_congr fun k _=>sum_mul _
theorem gram_zero{N m:Nat}{R:Mx}{y:Nat->Int}(h:∀i,i<m->sumN m (fun j=>gram N R i j*y j)=0):∀k,k<N->sumN m (fun j=>R k j*y j)=0:=by
 refine sq_zero ?_
 have e:sumN m (fun i=>y i*sumN N (fun k=>R k i*sumN m (fun j=>R k j*y j)))=sumN N (fun k=>sumN m (fun j=>R k j*y j)*sumN m (fun j=>R k j*y j)):=by
  have e1:sumN m (fun i=>y i*sumN N (fun k=>R k i*sumN m (fun j=>R k j*y j)))=sumN m (fun i=>sumN N (fun k=>(R k i*y i)*sumN m (fun j=>R k j*y j))):=sum_congr fun i _=>by
   rw [<-sum_mul];refine sum_congr fun k _=> ?_;rw [<-Int.mul_assoc,Int.mul_comm (y i)]
  rw [e1,sum_comm];exact sum_congr fun k _=>sum_mul_right _
 rw [<-e];refine sum_zero fun i hi=> ?_;rw [<-gram_mul,h i hi,Int.mul_zero]
theorem gram_sym{N:Nat}{R:Mx}(i j:Nat):gram N R i j=gram N R j i:=sum_congr fun k _=>Int.mul_comm _ _
end Ba
namespace Tr
def E:List Int->Nat->Int
 | [],0=>1
 | [],_+1=>0
 | _::_,0=>1
 | s::l,k+1=>E l (k+1)+(s - 1)*E l k
def S:List Int->Nat->Int
 | [],_=>1
 | _::_,0=>1
 | s::l,u+1=>S l (u+1)+(s - 1)*S l u
theorem sum_range(f:Nat->Int):∀n,((List.range (n+1)).map f).sum=((List.range n).map f).sum+f n:=by
 intro n;rw [List.range_succ,List.map_append,List.sum_append];simp
def cnt:List Int->Nat->Nat
 | [],_=>0
 | _::l,m=>cnt l (m / 2)+m % 2
def shr:List Int->Nat->Int
 | [],_=>1
 | s::l,m=>(if m % 2=1 then s - 1 else 1)*shr l (m / 2)
def rst:List Int->Nat->Nat
 | [],m=>m
 | _::l,m=>rst l (m / 2)
def one(l:List Int)(u m:Nat):Int:=if rst l m=0/\cnt l m<=u then shr l m else 0
def sumN(f:Nat->Int):Nat->Int
 | 0=>0
 | n+1=>sumN f n+f n
def dg:List Nat->Nat->List Nat
 | [],_=> []
 | c::r,x=>x % c::dg r (x / c)
def prodN:List Nat->Nat
 | []=>1
 | c::r=>c*prodN r
theorem prodN_app:∀a b,prodN (a++b)=prodN a*prodN b
 | [],b=>by simp [prodN]
 | c::a,b=>by simp only [List.cons_append,prodN,prodN_app a b,Nat.mul_assoc]
theorem dg_len:∀r x,(dg r x).length=r.length
 | [],_=>rfl
 | c::r,x=>by simp [dg,dg_len r]
def tri(L:List Nat)(x:Nat):List Nat:=(dg L.reverse x).reverse
theorem tri_snoc(L:List Nat)(c x:Nat):tri (L ++ [c]) x=tri L (x / c) ++ [x % c]:=by
 unfold tri;rw [List.reverse_append];simp [dg]
theorem tri_len(L:List Nat)(x:Nat):(tri L x).length=L.length:=by simp [tri,dg_len]
def allT(L:List Nat):List (List Nat):=(List.range (prodN L)).map (tri L)
theorem range_mul{α:Type}(f:Nat->Nat->α)(c:Nat)(hc:0<c):∀m,(List.range (m*c)).map (fun x=>f (x / c) (x % c))=(List.range m).flatMap fun q=>(List.range c).map (f q)
 | 0=>by simp
 | m+1=>by
  rw [Nat.succ_mul,List.range_add,List.map_append,range_mul f c hc m,List.range_succ,List.flatMap_append,List.map_map];congr 1
  simp only [List.flatMap_cons,List.flatMap_nil,List.append_nil];refine List.map_congr_left fun x hx=> ?_;have hx:=List.mem_range.mp hx;show f ((m*c+x) / c) ((m*c+x) % c)=f m x;rw [Nat.mul_comm m c,Nat.mul_add_div hc,Nat.mul_add_mod,Nat.mod_eq_of_lt hx,Nat.div_eq_of_lt hx,Nat.add_zero]
theorem allT_snoc(L:List Nat)(c:Nat)(hc:0<c):allT (L ++ [c])=(allT L).flatMap fun t=>(List.range c).map fun s=>t ++ [s]:=by
 unfold allT
 have e:(List.range (prodN (L ++ [c]))).map (tri (L ++ [c]))=(List.range (prodN L*c)).map (fun x=>(fun q s=>tri L q ++ [s]) (x / c) (x % c)):=by
  rw [prodN_app];simp only [prodN,Nat.mul_one];exact List.map_congr_left fun x _=>tri_snoc L c x
 rw [e,range_mul (fun q s=>tri L q ++ [s]) c hc,List.flatMap_map]
theorem prodN_pos:∀r:List Nat,(∀c ∈ r,0<c)->0<prodN r
 | [],_=>by decide
 | c::r,h=>Nat.mul_pos (h c (by simp)) (prodN_pos r fun d hd=>h d (by simp [hd]))
end Tr
namespace Tr
theorem sum_mulL{α:Type}(c:Int)(f:α->Int):∀xs:List α,(xs.map fun x=>c*f x).sum=c*(xs.map f).sum
 | []=>by simp
 | x::xs=>by simp only [List.map_cons,List.sum_cons,sum_mulL c f xs];grind
theorem sum_mulR{α:Type}(c:Int)(f:α->Int)(xs:List α):(xs.map fun x=>f x*c).sum=(xs.map f).sum*c:=by
 rw [Int.mul_comm, <-sum_mulL];congr 2
 funext x;exact Int.mul_comm _ _
def con(k s:Nat):Int:=if s<k then 1 else if s=k then -(k:Int) else 0
theorem sum_ones:∀n:Nat,((List.range n).map fun _=>(1:Int)).sum=n
 | 0=>rfl
 | n+1=>by rw [sum_range,sum_ones n];omega
def valAt:List Nat->List Nat->List Nat->Int
 | t0::e,k::u,x=>con k (x.getD t0 0)*valAt e u x
 | _,_,_=>1
def Fits(L:List Nat):List Nat->List Nat->Prop
 | t::e,k::u=>1<=k/\k<L.getD t 0/\Fits L e u
 | [],[]=>True
 | _,_=>False
theorem dg_lt:∀ {r:List Nat} {x i:Nat},(∀c ∈ r,0<c)->i<r.length->(dg r x).getD i 0<r.getD i 0
 | [],_,_,_,h=>by cases h
 | c::r,x,0,hp,_=>by
  show x % c<c
  exact Nat.mod_lt _ (hp c (by simp))
 | c::r,x,i+1,hp,h=>by
  show (dg r (x / c)).getD i 0<r.getD i 0;exact dg_lt (fun d hd=>hp d (by simp [hd])) (by simpa using h)
theorem getD_rev{l:List Nat}{i:Nat}(h:i<l.length):l.reverse.getD i 0=l.getD (l.length - 1 - i) 0:=by
 simp only [List.getD];rw [List.getElem?_reverse h]
theorem tri_lt{L:List Nat}{x i:Nat}(hp:∀c ∈ L,0<c)(h:i<L.length):(tri L x).getD i 0<L.getD i 0:=by
 unfold tri;rw [getD_rev (by rw [dg_len];simpa using h),dg_len,List.length_reverse];have:=dg_lt (r:=L.reverse) (x:=x) (i:=L.length - 1 - i) (fun c hc=>hp c (List.mem_reverse.mp hc)) (by simp;omega);rw [getD_rev (by omega)] at this
 have e:L.length - 1 - (L.length - 1 - i)=i:=by omega
 rw [e] at this
 exact this
theorem fits_of{L:List Nat}:∀ {e u:List Nat},e.length=u.length->(∀i,i<e.length->1<=u.getD i 0/\u.getD i 0<L.getD (e.getD i 0) 0)->Fits L e u
 | [],[],_,_=>trivial
 | [],_::_,h,_=>by cases h
 | _::_,[],h,_=>by cases h
 | t::e,k::u,h,g=>⟨(g 0 (by simp)).1,(g 0 (by simp)).2,fits_of (by simpa using h) fun i hi=>g (i+1) (by simpa using hi)⟩
theorem con_abs{k s:Nat}(h:k<=7) : -7<=con k s/\con k s<=7:=by
 unfold con
 split
 . omega
 . split <;> omega
theorem val_abs{x:List Nat}:∀ {e u:List Nat},(∀k ∈ u,k<=7)->(valAt e u x).natAbs<=7 ^ e.length
 | [],_,_=>by simp [valAt]
 | _::e,[],_=>by
  show (1:Int).natAbs<=_
  exact Nat.pow_pos (by decide)
 | t::e,k::u,h=>by
  have ih:=val_abs (x:=x) (e:=e) (u:=u) fun k hk=>h k (by simp [hk]);have hc:=con_abs (s:=x.getD t 0) (h k (by simp));rw [valAt,Int.natAbs_mul,List.length_cons,Nat.pow_succ,Nat.mul_comm];exact Nat.mul_le_mul ih (by omega)
end Tr
namespace K75
noncomputable section
open PySem L2 Tf Dm
def top (i : Nat) : Stmt := PySem.Challenge.pw_trialfield_k75_whole_single_things_of_ev.main.body.getD i (.Pass ⟨0, 0, 0, 0⟩)
structure Bl (mg:Str->Option Value):Prop where
 abs:mg "abs" = none
 enumerate:mg "enumerate" = none
 int:mg "int" = none
 len:mg "len" = none
 list:mg "list" = none
 min:mg "min" = none
 range:mg "range" = none
 reversed:mg "reversed" = none
 sum:mg "sum" = none
 tuple:mg "tuple" = none
 zip:mg "zip" = none
abbrev s_q23:Stmt:=top 1
theorem sc_q23:FnScope ["one", "other", "rest"] ["one", "other"] (defScope s_q23):=⟨rfl,rfl,rfl,by decide +kernel,rfl,by decide +kernel,by decide +kernel⟩
abbrev s_q21:Stmt:=top 2
theorem sc_q21:FnScope ["top", "bottom", "divisor"] ["top", "bottom"] (defScope s_q21):=⟨rfl,rfl,rfl,by decide +kernel,rfl,by decide +kernel,by decide +kernel⟩
abbrev s_q25:Stmt:=top 3
theorem sc_q25:FnScope ["one", "other"] ["one", "other"] (defScope s_q25):=⟨rfl,rfl,rfl,by decide +kernel,rfl,by decide +kernel,by decide +kernel⟩
abbrev s_q14:Stmt:=top 8
theorem sc_q14:FnScope ["row", "lead_row", "column", "last", "lead", "factor"] ["row", "lead_row", "column", "last"] (defScope s_q14):=⟨rfl,rfl,rfl,by decide +kernel,rfl,by decide +kernel,by decide +kernel⟩
abbrev s_q17:Stmt:=top 9
theorem sc_q17:FnScope ["row", "bottom", "number"] ["row"] (defScope s_q17):=⟨rfl,rfl,rfl,by decide +kernel,rfl,by decide +kernel,by decide +kernel⟩
abbrev s_q41:Stmt:=top 10
theorem sc_q41:FnScope ["row", "bottom"] ["row"] (defScope s_q41):=⟨rfl,rfl,rfl,by decide +kernel,rfl,by decide +kernel,by decide +kernel⟩
abbrev s_q33:Stmt:=top 11
theorem sc_q33:FnScope ["table"] ["table"] (defScope s_q33):=⟨rfl,rfl,rfl,by decide +kernel,rfl,by decide +kernel,by decide +kernel⟩
abbrev s_q22:Stmt:=top 12
theorem sc_q22:FnScope ["numbers", "bottom"] ["numbers", "bottom"] (defScope s_q22):=⟨rfl,rfl,rfl,by decide +kernel,rfl,by decide +kernel,by decide +kernel⟩
abbrev s_q24:Stmt:=top 13
theorem sc_q24:FnScope ["table"] ["table"] (defScope s_q24):=⟨rfl,rfl,rfl,by decide +kernel,rfl,by decide +kernel,by decide +kernel⟩
abbrev s_q29:Stmt:=top 14
theorem sc_q29:FnScope ["table", "column", "width", "stairs", "numbers", "found", "lead", "number"] ["table", "column"] (defScope s_q29):=⟨rfl,rfl,rfl,by decide +kernel,rfl,by decide +kernel,by decide +kernel⟩
abbrev s_q42:Stmt:=top 15
theorem sc_q42:FnScope ["table", "column", "laid"] ["table", "column"] (defScope s_q42):=⟨rfl,rfl,rfl,by decide +kernel,rfl,by decide +kernel,by decide +kernel⟩
abbrev s_q30:Stmt:=top 16
theorem sc_q30:FnScope ["table", "column", "found"] ["table", "column"] (defScope s_q30):=⟨rfl,rfl,rfl,by decide +kernel,rfl,by decide +kernel,by decide +kernel⟩
abbrev s_q34:Stmt:=top 18
theorem sc_q34:FnScope ["one", "other"] ["one", "other"] (defScope s_q34):=⟨rfl,rfl,rfl,by decide +kernel,rfl,by decide +kernel,by decide +kernel⟩
abbrev s_q13:Stmt:=top 19
theorem sc_q13:FnScope ["numbers"] ["numbers"] (defScope s_q13):=⟨rfl,rfl,rfl,by decide +kernel,rfl,by decide +kernel,by decide +kernel⟩
abbrev s_q15:Stmt:=top 20
theorem sc_q15:FnScope ["rows", "columns"] ["rows"] (defScope s_q15):=⟨rfl,rfl,rfl,by decide +kernel,rfl,by decide +kernel,by decide +kernel⟩
abbrev s_q35:Stmt:=top 21
theorem sc_q35:FnScope ["rows", "fractions", "bottom", "whole"] ["rows", "fractions"] (defScope s_q35):=⟨rfl,rfl,rfl,by decide +kernel,rfl,by decide +kernel,by decide +kernel⟩
abbrev s_q37:Stmt:=top 22
theorem sc_q37:FnScope ["rows", "combination", "answer"] ["rows", "combination"] (defScope s_q37):=⟨rfl,rfl,rfl,by decide +kernel,rfl,by decide +kernel,by decide +kernel⟩
abbrev s_q31:Stmt:=top 23
theorem sc_q31:FnScope ["weights", "bottom", "whole"] ["weights"] (defScope s_q31):=⟨rfl,rfl,rfl,by decide +kernel,rfl,by decide +kernel,by decide +kernel⟩
abbrev s_q28:Stmt:=top 25
theorem sc_q28:FnScope ["numbers", "product", "number"] ["numbers"] (defScope s_q28):=⟨rfl,rfl,rfl,by decide +kernel,rfl,by decide +kernel,by decide +kernel⟩
abbrev s_q38:Stmt:=top 26
theorem sc_q38:FnScope ["levels", "place", "steps", "count"] ["levels", "place"] (defScope s_q38):=⟨rfl,rfl,rfl,by decide +kernel,rfl,by decide +kernel,by decide +kernel⟩
abbrev s_q12:Stmt:=top 27
theorem sc_q12:FnScope ["levels"] ["levels"] (defScope s_q12):=⟨rfl,rfl,rfl,by decide +kernel,rfl,by decide +kernel,by decide +kernel⟩
abbrev s_q26:Stmt:=top 29
theorem sc_q26:FnScope ["p", "squares", "rows", "row"] ["p"] (defScope s_q26):=⟨rfl,rfl,rfl,by decide +kernel,rfl,by decide +kernel,by decide +kernel⟩
abbrev s_q39:Stmt:=top 30
theorem sc_q39:FnScope ["row"] ["row"] (defScope s_q39):=⟨rfl,rfl,rfl,by decide +kernel,rfl,by decide +kernel,by decide +kernel⟩
abbrev s_q27:Stmt:=top 31
theorem sc_q27:FnScope ["table"] ["table"] (defScope s_q27):=⟨rfl,rfl,rfl,by decide +kernel,rfl,by decide +kernel,by decide +kernel⟩
abbrev s_q18:Stmt:=top 33
theorem sc_q18:FnScope ["number", "step"] ["number", "step"] (defScope s_q18):=⟨rfl,rfl,rfl,by decide +kernel,rfl,by decide +kernel,by decide +kernel⟩
abbrev s_q19:Stmt:=top 34
theorem sc_q19:FnScope ["levels", "effect", "counted"] ["levels", "effect"] (defScope s_q19):=⟨rfl,rfl,rfl,by decide +kernel,rfl,by decide +kernel,by decide +kernel⟩
abbrev s_q16:Stmt:=top 35
theorem sc_q16:FnScope ["levels", "model", "columns", "effect"] ["levels", "model"] (defScope s_q16):=⟨rfl,rfl,rfl,by decide +kernel,rfl,by decide +kernel,by decide +kernel⟩
abbrev s_q40:Stmt:=top 36
theorem sc_q40:FnScope ["column", "trial", "value", "thing", "number"] ["column", "trial"] (defScope s_q40):=⟨rfl,rfl,rfl,by decide +kernel,rfl,by decide +kernel,by decide +kernel⟩
abbrev s_q36:Stmt:=top 37
theorem sc_q36:FnScope ["levels", "plan", "model", "columns"] ["levels", "plan", "model"] (defScope s_q36):=⟨rfl,rfl,rfl,by decide +kernel,rfl,by decide +kernel,by decide +kernel⟩
abbrev s_fit:Stmt:=top 39
theorem sc_fit:FnScope ["rows", "results", "sums", "worths", "fitted", "left"] ["rows", "results"] (defScope s_fit):=⟨rfl,rfl,rfl,by decide +kernel,rfl,by decide +kernel,by decide +kernel⟩
abbrev s_q20:Stmt:=top 40
theorem sc_q20:FnScope ["levels", "plan", "model", "results"] ["levels", "plan", "model", "results"] (defScope s_q20):=⟨rfl,rfl,rfl,by decide +kernel,rfl,by decide +kernel,by decide +kernel⟩
abbrev s_q32:Stmt:=top 41
theorem sc_q32:FnScope ["levels", "plan", "model", "results", "apart", "ahead", "whole", "place", "effect", "reached"] ["levels", "plan", "model", "results"] (defScope s_q32):=⟨rfl,rfl,rfl,by decide +kernel,rfl,by decide +kernel,by decide +kernel⟩
abbrev s_q7:Stmt:=top 43
theorem sc_q7:FnScope ["_law_cell", "_law_k", "_law_one"] ["_law_cell", "_law_k"] (defScope s_q7):=⟨rfl,rfl,rfl,by decide +kernel,rfl,by decide +kernel,by decide +kernel⟩
abbrev s_q6:Stmt:=top 44
theorem sc_q6:FnScope ["_law_top", "_law_bottom", "_law_one", "_law_other"] ["_law_top", "_law_bottom"] (defScope s_q6):=⟨rfl,rfl,rfl,by decide +kernel,rfl,by decide +kernel,by decide +kernel⟩
abbrev s_q5:Stmt:=top 45
theorem sc_q5:FnScope ["_law_cell", "_law_told", "_law_k"] ["_law_cell"] (defScope s_q5):=⟨rfl,rfl,rfl,by decide +kernel,rfl,by decide +kernel,by decide +kernel⟩
abbrev s_q11:Stmt:=top 46
theorem sc_q11:FnScope ["_law_cell", "_law_start", "_law_many", "_law_told", "_law_left", "_law_k"] ["_law_cell", "_law_start", "_law_many"] (defScope s_q11):=⟨rfl,rfl,rfl,by decide +kernel,rfl,by decide +kernel,by decide +kernel⟩
abbrev s_q8:Stmt:=top 47
theorem sc_q8:FnScope ["_law_cell", "_law_table", "_law_many", "_law_signs_here", "_law_rows", "_law_i", "_law_told", "_law_row"] ["_law_cell", "_law_table"] (defScope s_q8):=⟨rfl,rfl,rfl,by decide +kernel,rfl,by decide +kernel,by decide +kernel⟩
abbrev s_q9:Stmt:=top 48
theorem sc_q9:FnScope ["_law_cell", "_law_many", "_law_told", "_law_left", "_law_k", "_law_number"] ["_law_cell", "_law_many"] (defScope s_q9):=⟨rfl,rfl,rfl,by decide +kernel,rfl,by decide +kernel,by decide +kernel⟩
abbrev s_q10:Stmt:=top 49
theorem sc_q10:FnScope ["_law_cell", "_law_table", "_law_things", "_law_plan", "_law_levels", "_law_model", "_law_rows", "_law_many", "_law_results_here", "_law_due", "_law_j", "_law_told", "_law_one"] ["_law_cell", "_law_table"] (defScope s_q10):=⟨rfl,rfl,rfl,by decide +kernel,rfl,by decide +kernel,by decide +kernel⟩
abbrev s_law:Stmt:=top 50
theorem sc_law:FnScope ["_law_script", "_law_cell", "_law_table"] ["_law_script"] (defScope s_law):=⟨rfl,rfl,rfl,by decide +kernel,rfl,by decide +kernel,by decide +kernel⟩
abbrev s_q0:Stmt:=inClass (top 7) 0
theorem sc_q0:FnScope ["self", "rows", "column"] ["self", "rows"] (defScope s_q0):=⟨rfl,rfl,rfl,by decide +kernel,rfl,by decide +kernel,by decide +kernel⟩
abbrev s_q4:Stmt:=inClass (top 7) 1
theorem sc_q4:FnScope ["self", "column", "top", "place", "lead_row", "beneath"] ["self", "column"] (defScope s_q4):=⟨rfl,rfl,rfl,by decide +kernel,rfl,by decide +kernel,by decide +kernel⟩
abbrev s_q2:Stmt:=inClass (top 7) 2
theorem sc_q2:FnScope ["self", "top", "column", "place"] ["self", "top", "column"] (defScope s_q2):=⟨rfl,rfl,rfl,by decide +kernel,rfl,by decide +kernel,by decide +kernel⟩
abbrev s_q1:Stmt:=inClass (top 7) 3
theorem sc_q1:FnScope ["self", "top", "place", "lowered"] ["self", "top", "place"] (defScope s_q1):=⟨rfl,rfl,rfl,by decide +kernel,rfl,by decide +kernel,by decide +kernel⟩
abbrev s_q3:Stmt:=inClass (top 7) 4
theorem sc_q3:FnScope ["self", "column", "count", "numbers", "place", "row", "known"] ["self", "column"] (defScope s_q3):=⟨rfl,rfl,rfl,by decide +kernel,rfl,by decide +kernel,by decide +kernel⟩
def c_NOUGHT:PyData:= .tuple [.int 0, .int 1]
def c_UNIT:PyData:= .tuple [.int 1, .int 1]
section
variable {P:Program} {w:World} {K:W.Frag} {mg:Str->Option Value} {base:Heap} {f:Addr} {fd:FuncData} {C_S:Addr}
def b_q23 : En -> Option Out :=
 (mSeq (mWhile (mTest (mBin dne (mPk 1) (mK (.int 0)))) (mSeq (mAsg 2 (mBin dMod (mPk 0) (mPk 1)))
 (mSeq (mAsg 0 (mVar 1))
 (mFrz 2 (mAsg 1 (mVar 2))))))
 (mRet (mCallP dAbs (mConsP (mPk 0) mNilP))))
def m_q23:List PyData->Option Sl:=runD 3 b_q23 2
theorem ok_q23 (B:Bl mg) (F:Fun K "greatest_divisor" "greatest_divisor" s_q23 f fd):FnOk P w K mg base CX0 1 f fd ["one", "other"] (spD K m_q23):=by
 have sc:=sc_q23
 exact fnD F sc_q23 rfl rfl fun cdv A outer s H E hr=>
  (dss_cons (ds_while PassesOwn.never (dt_ne hr.units (dp_var 1) (DE.dp de_int)) (dss_cons (ds_set 2 (de_mod (dp_var 0) (dp_var 1)) sc.nd)
  (dss_cons (ds_set 0 (de_var 1) sc.nd)
  (dss_one (ds_frz 2 (ds_set 1 (de_var 2) sc.nd))))))
  (dss_one (ds_ret (de_blt call_abs cd_abs bt_abs B.abs (dq_cons (dp_var 0) dq_nil)))))
def b_q21 : En -> Option Out :=
 (mSeq (mAsg 2 (mCall m_q23 (mCons (mVar 0) (mCons (mVar 1) mNil))))
 (mSeq (mIf (mTest (mBin dLt (mPk 1) (mK (.int 0)))) (mAsg 2 (mUn (iun fun i=> -i) (mPk 2))) mNext)
 (mRet (mTup (mCons (mBin dFdiv (mPk 0) (mPk 2)) (mCons (mBin dFdiv (mPk 1) (mPk 2)) mNil))))))
def m_q21:List PyData->Option Sl:=runD 3 b_q21 2
theorem ok_q21 (B:Bl mg) (D_q23:Def P w K mg base 1 "greatest_divisor" ["one", "other"] (spD K m_q23)) (F:Fun K "fraction" "fraction" s_q21 f fd):FnOk P w K mg base CX0 2 f fd ["top", "bottom"] (spD K m_q21):=by
 have sc:=sc_q21
 exact fnD F sc_q21 rfl rfl fun cdv A outer s H E hr=>
  (dss_cons (ds_set 2 (de_call D_q23 hr (da_cons (de_var 0) (da_cons (de_var 1) da_nil))) sc.nd)
  (dss_cons (ds_if (dt_lt (dp_var 1) (DE.dp de_int)) (dss_one (ds_set 2 (de_neg (dp_var 2)) sc.nd)) dss_nil)
  (dss_one (ds_ret (de_tup (da_cons (de_fdiv (dp_var 0) (dp_var 2)) (da_cons (de_fdiv (dp_var 1) (dp_var 2)) da_nil)))))))
def b_q25 : En -> Option Out :=
 (mRet (mCall m_q21 (mCons (mBin dSub (mBin dRep (mBin dix (mPk 0) (mK (.int 0))) (mBin dix (mPk 1) (mK (.int 1)))) (mBin dRep (mBin dix (mPk 1) (mK (.int 0))) (mBin dix (mPk 0) (mK (.int 1))))) (mCons (mBin dRep (mBin dix (mPk 0) (mK (.int 1))) (mBin dix (mPk 1) (mK (.int 1)))) mNil))))
def m_q25:List PyData->Option Sl:=runD 2 b_q25 2
theorem ok_q25 (B:Bl mg) (D_q21:Def P w K mg base 2 "fraction" ["top", "bottom"] (spD K m_q21)) (F:Fun K "minus" "minus" s_q25 f fd):FnOk P w K mg base CX0 3 f fd ["one", "other"] (spD K m_q25):=by
 have sc:=sc_q25
 exact fnD F sc_q25 rfl rfl fun cdv A outer s H E hr=>
  (dss_one (ds_ret (de_call D_q21 hr (da_cons (de_sub (DE.dp (de_mul (DE.dp (de_ix (dp_var 0) (DE.dp de_int))) (DE.dp (de_ix (dp_var 1) (DE.dp de_int))))) (DE.dp (de_mul (DE.dp (de_ix (dp_var 1) (DE.dp de_int))) (DE.dp (de_ix (dp_var 0) (DE.dp de_int)))))) (da_cons (de_mul (DE.dp (de_ix (dp_var 0) (DE.dp de_int))) (DE.dp (de_ix (dp_var 1) (DE.dp de_int)))) da_nil)))))
def b_q14 : En -> Option Out :=
 (mSeq (mAsg 4 (mBin dix (mPk 1) (mPk 2)))
 (mSeq (mAsg 5 (mBin dix (mPk 0) (mPk 2)))
 (mRet (mLC (subE [some 4,some 5,some 3,none,none]) (mZip (mCons (mVar 0) (mCons (mVar 1) mNil))) (gTupD [(gVar 3),(gVar 4)]) mYes (mBin dFdiv (mBin dSub (mBin dRep (mPk 0) (mPk 3)) (mBin dRep (mPk 1) (mPk 4))) (mPk 2))))))
def m_q14:List PyData->Option Sl:=runD 6 b_q14 4
theorem ok_q14 (B:Bl mg) (F:Fun K "cleared_row" "cleared_row" s_q14 f fd):FnOk P w K mg base CX0 1 f fd ["row", "lead_row", "column", "last"] (spD K m_q14):=by
 have sc:=sc_q14
 exact fnD F sc_q14 rfl rfl fun cdv A outer s H E hr=>
  (dss_cons (ds_set 4 (de_ix (dp_var 1) (dp_var 2)) sc.nd)
  (dss_cons (ds_set 5 (de_ix (dp_var 0) (dp_var 2)) sc.nd)
  (dss_one (ds_ret (de_lc (N':= ["lead", "factor", "last", "number", "above"]) (R':=PR K) cx_scope1 cx_names1 [some 4,some 5,some 3,none,none] (subE [some 4,some 5,some 3,none,none]) pr_sub (di_zip B.zip (da_cons (de_var 0) (da_cons (de_var 1) da_nil))) (fun _=>(dgk_tup (dgks_cons (dgk_name 3 (show List.Nodup (α:=Str) ["lead", "factor", "last", "number", "above"] by decide +kernel)) (dgks_cons (dgk_name 4 (show List.Nodup (α:=Str) ["lead", "factor", "last", "number", "above"] by decide +kernel)) dgks_nil)))) (fun _=>dts_nil) (fun _=>(de_fdiv (DE.dp (de_sub (DE.dp (de_mul (dp_var 0) (dp_var 3))) (DE.dp (de_mul (dp_var 1) (dp_var 4))))) (dp_var 2))))))))
def b_q17 : En -> Option Out :=
 (mSeq (mAsg 1 (mK (.int 1)))
 (mSeq (mFor (mItems (mVar 0)) (gVar 2) (mFrz 1 (mAsg 1 (mBin dRep (mBin dFdiv (mPk 1) (mCall m_q23 (mCons (mVar 1) (mCons (mBin dix (mPk 2) (mK (.int 1))) mNil)))) (mBin dix (mPk 2) (mK (.int 1)))))))
 (mRet (mPk 1))))
def m_q17:List PyData->Option Sl:=runD 3 b_q17 1
theorem ok_q17 (B:Bl mg) (D_q23:Def P w K mg base 1 "greatest_divisor" ["one", "other"] (spD K m_q23)) (F:Fun K "common_bottom" "common_bottom" s_q17 f fd):FnOk P w K mg base CX0 2 f fd ["row"] (spD K m_q17):=by
 have sc:=sc_q17
 exact fnD F sc_q17 rfl rfl fun cdv A outer s H E hr=>
  (dss_cons (ds_set 1 de_int sc.nd)
  (dss_cons (ds_for PassesOwn.never (di_list (de_var 0)) (dg_name 2 sc.nd) (dss_one (ds_frz 1 (ds_set 1 (de_mul (DE.dp (de_fdiv (dp_var 1) (DE.dp (de_call D_q23 hr (da_cons (de_var 1) (da_cons (de_ix (dp_var 2) (DE.dp de_int)) da_nil)))))) (DE.dp (de_ix (dp_var 2) (DE.dp de_int)))) sc.nd))))
  (dss_one (ds_retV 1))))
def b_q41 : En -> Option Out :=
 (mSeq (mAsg 1 (mCall m_q17 (mCons (mVar 0) mNil)))
 (mRet (mLC (subE [some 1,none]) (mItems (mVar 0)) (gVar 1) mYes (mBin dRep (mBin dix (mPk 1) (mK (.int 0))) (mBin dFdiv (mPk 0) (mBin dix (mPk 1) (mK (.int 1))))))))
def m_q41:List PyData->Option Sl:=runD 2 b_q41 1
theorem ok_q41 (B:Bl mg) (D_q17:Def P w K mg base 2 "common_bottom" ["row"] (spD K m_q17)) (F:Fun K "whole_row" "whole_row" s_q41 f fd):FnOk P w K mg base CX0 3 f fd ["row"] (spD K m_q41):=by
 have sc:=sc_q41
 exact fnD F sc_q41 rfl rfl fun cdv A outer s H E hr=>
  (dss_cons (ds_set 1 (de_call D_q17 hr (da_cons (de_var 0) da_nil)) sc.nd)
  (dss_one (ds_ret (de_lc (N':= ["bottom", "number"]) (R':=PR K) cx_scope1 cx_names1 [some 1,none] (subE [some 1,none]) pr_sub (di_list (de_var 0)) (fun _=>(dgk_name 1 (show List.Nodup (α:=Str) ["bottom", "number"] by decide +kernel))) (fun _=>dts_nil) (fun _=>(de_mul (DE.dp (de_ix (dp_var 1) (DE.dp de_int))) (DE.dp (de_fdiv (dp_var 0) (DE.dp (de_ix (dp_var 1) (DE.dp de_int)))))))))))
def b_q2 : En -> Option Out :=
 (mSeq (mFor (mRng2 (mConsP (mPk 1) (mConsP (mCallP dLen (mConsP (mPk 4) mNilP)) mNilP))) (gVar 3) (mIf (mTest (mBin dne (mBin dix (mBin dix (mPk 4) (mPk 3)) (mPk 2)) (mK (.int 0)))) (mRet (mPk 3)) mNext))
 (mRet (mK .none)))
def m_q2:En->List PyData->Option (En×PyData):=runM 4 3 3 b_q2
theorem ok_q2 (B:Bl mg) (K_S:Klass K C_S ["rows", "leads", "last"]) (F:Fun K "place_of_lead" "Stairs.place_of_lead" s_q2 f fd):FnOk P w K mg base CX0 1 f fd ["self", "top", "column"] (spM K C_S ["rows", "leads", "last"] m_q2):=by
 have sc:=sc_q2
 exact fnM F sc_q2 rfl rfl rfl fun cdv A outer s H E p hr=>
  (dss_cons (ds_for PassesOwn.never (di_range2 B.range (dq_cons (dp_var 1) (dq_cons (DE.dp (de_blt call_len_seq cd_len bt_len B.len (dq_cons (dp_fld 0 K_S) dq_nil))) dq_nil))) (dg_name 3 sc.nd) (dss_one (ds_if (dt_ne hr.units (DE.dp (de_ix (DE.dp (de_ix (dp_fld 0 K_S) (dp_var 3))) (dp_var 2))) (DE.dp de_int)) (dss_one (ds_retV 3)) dss_nil)))
  (dss_one (ds_ret de_none)))
def b_q1 : En -> Option Out :=
 (mSeq (mIf (mTest (mBin deq (mPk 2) (mPk 1))) mRetN mNext)
 (mSeq (mAsg 3 (mLC (subE [none]) (mItems (mBin dix (mPk 4) (mPk 1))) (gVar 0) mYes (mUn (iun fun i=> -i) (mPk 0))))
 (mSeq (mSet 4 (mPk 1) (mBin dix (mPk 4) (mPk 2)))
 (mFrz 3 (mSet 4 (mPk 2) (mVar 3))))))
def m_q1:En->List PyData->Option (En×PyData):=runM 4 3 3 b_q1
theorem ok_q1 (B:Bl mg) (K_S:Klass K C_S ["rows", "leads", "last"]) (F:Fun K "exchange" "Stairs.exchange" s_q1 f fd):FnOk P w K mg base CX0 1 f fd ["self", "top", "place"] (spM K C_S ["rows", "leads", "last"] m_q1):=by
 have sc:=sc_q1
 exact fnM F sc_q1 rfl rfl rfl fun cdv A outer s H E p hr=>
  (dss_cons (ds_if (dt_eq hr.units (dp_var 2) (dp_var 1)) (dss_one ds_retN) dss_nil)
  (dss_cons (ds_setC (N':= ["number"]) (R':=PR K) cx_scope1 cx_names1 3 [none] (subE [none]) fr_sub0 sc.nd (di_list (de_ix (dp_fld 0 K_S) (dp_var 1))) (fun _=>(dgk_name 0 (show List.Nodup (α:=Str) ["number"] by decide +kernel))) (fun _=>dts_nil) (fun _=>(de_neg (dp_var 0))))
  (dss_cons (ds_setF 0 K_S (de_ix (dp_fld 0 K_S) (dp_var 2)) (dp_var 1))
  (dss_one (ds_frz 3 (ds_setF 0 K_S (de_var 3) (dp_var 2)))))))
def b_q4 : En -> Option Out :=
 (mSeq (mAsg 2 (mCallP dLen (mConsP (mPk 7) mNilP)))
 (mSeq (mFrz 2 (mMeth 6 m_q2 (mCons (mVar 2) (mCons (mVar 1) mNil)) fun ρ d=>some (.nx (ρ.set 3 (some (.val d))))))
 (mSeq (mIf (mTest (mBin disN (mPk 3) (mK .none))) mRetN mNext)
 (mSeq (mFrz 2 (mFrz 3 (mMeth 6 m_q1 (mCons (mVar 2) (mCons (mVar 3) mNil)) fun ρ _=>some (.nx ρ))))
 (mSeq (mAsg 4 (mBin dix (mPk 6) (mPk 2)))
 (mSeq (mFrz 4 (mAsg 5 (mLC (subF [some 4,some 1,some 0,none] 6) (mItems (mSl (mPk 6) (mPart (mBin dAdd (mPk 2) (mK (.int 1)))) mNoPart)) (gVar 3) mYes (mCall m_q14 (mCons (mVar 3) (mCons (mVar 0) (mCons (mVar 1) (mCons (mVar 6) mNil))))))))
 (mSeq (mAsg 6 (mBin dAdd (mSl (mPk 6) mNoPart (mPart (mBin dAdd (mPk 2) (mK (.int 1))))) (mPk 5)))
 (mSeq (mApp 7 (mVar 1))
 (mAsg 8 (mBin dix (mPk 4) (mPk 1)))))))))))
def m_q4:En->List PyData->Option (En×PyData):=runM 6 2 3 b_q4
theorem ok_q4 (B:Bl mg) (D_q2:MDef P w K mg base 1 C_S "place_of_lead" ["self", "top", "column"] (spM K C_S ["rows", "leads", "last"] m_q2)) (D_q1:MDef P w K mg base 1 C_S "exchange" ["self", "top", "place"] (spM K C_S ["rows", "leads", "last"] m_q1)) (D_q14:Def P w K mg base 1 "cleared_row" ["row", "lead_row", "column", "last"] (spD K m_q14)) (K_S:Klass K C_S ["rows", "leads", "last"]) (F:Fun K "step_down" "Stairs.step_down" s_q4 f fd):FnOk P w K mg base CX0 2 f fd ["self", "column"] (spM K C_S ["rows", "leads", "last"] m_q4):=by
 have sc:=sc_q4
 exact fnM F sc_q4 rfl rfl rfl fun cdv A outer s H E p hr=>
  (dss_cons (ds_set 2 (de_blt call_len_seq cd_len bt_len B.len (dq_cons (dp_fld 1 K_S) dq_nil)) sc.nd)
  (dss_cons (ds_frz 2 (ds_methA 3 D_q2 K_S hr (da_cons (de_var 2) (da_cons (de_var 1) da_nil)) sc.nd))
  (dss_cons (ds_if (dt_isN (dp_var 3) (DE.dp de_none)) (dss_one ds_retN) dss_nil)
  (dss_cons (ds_frz 2 (ds_frz 3 (ds_methE D_q1 K_S hr (da_cons (de_var 2) (da_cons (de_var 3) da_nil)))))
  (dss_cons (ds_set 4 (de_ix (dp_fld 0 K_S) (dp_var 2)) sc.nd)
  (dss_cons (ds_frz 4 (ds_setC (N':= ["lead_row", "column", "self", "row"]) (R':=FR K ⟨C_S,["rows", "leads", "last"],2,4,p⟩) cx_scope1 cx_names1 5 [some 4,some 1,some 0,none] (subF [some 4,some 1,some 0,none] 6) fr_sub sc.nd (di_list (de_sl (dp_fld 0 K_S) (do_some (DE.dp (de_add (dp_var 2) (DE.dp de_int)))) do_none)) (fun _=>(dgk_name 3 (show List.Nodup (α:=Str) ["lead_row", "column", "self", "row"] by decide +kernel))) (fun _=>dts_nil) (fun _=>(de_call D_q14 hr (da_cons (de_var 3) (da_cons (de_var 0) (da_cons (de_var 1) (da_cons (de_fld 2 K_S) da_nil))))))))
  (dss_cons (ds_fld 0 K_S (de_add (DE.dp (de_sl (dp_fld 0 K_S) do_none (do_some (DE.dp (de_add (dp_var 2) (DE.dp de_int)))))) (dp_var 5)))
  (dss_cons (ds_appF 1 K_S (de_var 1))
  (dss_one (ds_fld 2 K_S (de_ix (dp_var 4) (dp_var 1))))))))))))
def b_q0 : En -> Option Out :=
 (mSeq (mAsg 3 (mCallP dList (mConsP (mPk 1) mNilP)))
 (mSeq (mAsg 4 (mLst mNil))
 (mSeq (mAsg 5 (mK (.int 1)))
 (mFor (mRng1 (mConsP (mCallP dLen (mConsP (mBin dix (mPk 1) (mK (.int 0))) mNilP)) mNilP)) (gVar 2) (mMeth 3 m_q4 (mCons (mVar 2) mNil) fun ρ _=>some (.nx ρ))))))
def m_q0:En->List PyData->Option (En×PyData):=runM 3 2 3 b_q0
theorem ok_q0 (B:Bl mg) (D_q4:MDef P w K mg base 2 C_S "step_down" ["self", "column"] (spM K C_S ["rows", "leads", "last"] m_q4)) (K_S:Klass K C_S ["rows", "leads", "last"]) (F:Fun K "__init__" "Stairs.__init__" s_q0 f fd):FnOk P w K mg base CX0 3 f fd ["self", "rows"] (spM K C_S ["rows", "leads", "last"] m_q0):=by
 have sc:=sc_q0
 exact fnM F sc_q0 rfl rfl rfl fun cdv A outer s H E p hr=>
  (dss_cons (ds_fld 0 K_S (de_ty call_list_of cd_list bt_list B.list (dq_cons (dp_var 1) dq_nil)))
  (dss_cons (ds_fld 1 K_S (de_lst da_nil))
  (dss_cons (ds_fld 2 K_S de_int)
  (dss_one (ds_for PassesOwn.never (di_range1 B.range (dq_cons (DE.dp (de_blt call_len_seq cd_len bt_len B.len (dq_cons (DE.dp (de_ix (dp_var 1) (DE.dp de_int))) dq_nil))) dq_nil)) (dg_name 2 sc.nd) (dss_one (ds_methE D_q4 K_S hr (da_cons (de_var 2) da_nil))))))))
def m_q33:List PyData->Option En:=runO 1 1 (mMake 3 m_q0 (mCons (mLC (subE [none]) (mItems (mVar 0)) (gVar 0) mYes (mCall m_q41 (mCons (mVar 0) mNil))) mNil))
theorem ok_q33 (B:Bl mg) (D_q41:Def P w K mg base 3 "whole_row" ["row"] (spD K m_q41)) (D_q0:KDef P w K mg base 3 C_S "Stairs" ["self", "rows"] (spM K C_S ["rows", "leads", "last"] m_q0)) (K_S:Klass K C_S ["rows", "leads", "last"]) (F:Fun K "stairs_of" "stairs_of" s_q33 f fd):FnOk P w K mg base CX0 5 f fd ["table"] (spO K C_S ["rows", "leads", "last"] m_q33):=by
 have sc:=sc_q33
 exact fnO F sc_q33 rfl rfl rfl fun cdv A outer s H E hr=>
  (db_make D_q0 hr (da_cons (de_lc (N':= ["row"]) (R':=PR K) cx_scope1 cx_names1 [none] (subE [none]) pr_sub (di_list (de_var 0)) (fun _=>(dgk_name 0 (show List.Nodup (α:=Str) ["row"] by decide +kernel))) (fun _=>dts_nil) (fun _=>(de_call D_q41 hr (da_cons (de_var 0) da_nil)))) da_nil))
def b_q22 : En -> Option Out :=
 (mRet (mLC (subE [some 1,none]) (mItems (mVar 0)) (gVar 1) mYes (mCall m_q21 (mCons (mVar 1) (mCons (mVar 0) mNil)))))
def m_q22:List PyData->Option Sl:=runD 2 b_q22 2
theorem ok_q22 (B:Bl mg) (D_q21:Def P w K mg base 2 "fraction" ["top", "bottom"] (spD K m_q21)) (F:Fun K "fractions_over" "fractions_over" s_q22 f fd):FnOk P w K mg base CX0 3 f fd ["numbers", "bottom"] (spD K m_q22):=by
 have sc:=sc_q22
 exact fnD F sc_q22 rfl rfl fun cdv A outer s H E hr=>
  (dss_one (ds_ret (de_lc (N':= ["bottom", "number"]) (R':=PR K) cx_scope1 cx_names1 [some 1,none] (subE [some 1,none]) pr_sub (di_list (de_var 0)) (fun _=>(dgk_name 1 (show List.Nodup (α:=Str) ["bottom", "number"] by decide +kernel))) (fun _=>dts_nil) (fun _=>(de_call D_q21 hr (da_cons (de_var 1) (da_cons (de_var 0) da_nil)))))))
def b_q24 : En -> Option Out :=
 (mRet (mLC (subE [some 0,none]) (mRng1 (mConsP (mCallP dLen (mConsP (mBin dix (mPk 0) (mK (.int 0))) mNilP)) mNilP)) (gVar 1) mYes (mLC (subE [some 1,none]) (mItems (mVar 0)) (gVar 1) mYes (mBin dix (mPk 1) (mPk 0)))))
def m_q24:List PyData->Option Sl:=runD 1 b_q24 1
theorem ok_q24 (B:Bl mg) (F:Fun K "laid_over" "laid_over" s_q24 f fd):FnOk P w K mg base CX0 1 f fd ["table"] (spD K m_q24):=by
 have sc:=sc_q24
 exact fnD F sc_q24 rfl rfl fun cdv A outer s H E hr=>
  (dss_one (ds_ret (de_lc (N':= ["table", "k"]) (R':=PR K) cx_scope1 cx_names1 [some 0,none] (subE [some 0,none]) pr_sub (di_range1 B.range (dq_cons (DE.dp (de_blt call_len_seq cd_len bt_len B.len (dq_cons (DE.dp (de_ix (dp_var 0) (DE.dp de_int))) dq_nil))) dq_nil)) (fun _=>(dgk_name 1 (show List.Nodup (α:=Str) ["table", "k"] by decide +kernel))) (fun _=>dts_nil) (fun _=>(de_lc (N':= ["k", "row"]) (R':=PR K) cxC_scope cxC_names [some 1,none] (subE [some 1,none]) pr_sub (di_list (de_var 0)) (fun _=>(dgk_name 1 (show List.Nodup (α:=Str) ["k", "row"] by decide +kernel))) (fun _=>dts_nil) (fun _=>(de_ix (dp_var 1) (dp_var 0))))))))
def b_q3 : En -> Option Out :=
 (mSeq (mAsg 2 (mCallP dLen (mConsP (mPk 8) mNilP)))
 (mSeq (mAsg 3 (mBin dRep (mLst (mCons (mK (.int 0)) mNil)) (mPk 2)))
 (mSeq (mFor (mRngD (mConsP (mBin dSub (mPk 2) (mK (.int 1))) (mConsP (mUn (iun fun i=> -i) (mK (.int 1))) (mConsP (mUn (iun fun i=> -i) (mK (.int 1))) mNilP)))) (gVar 4) (mSeq (mAsg 5 (mBin dix (mPk 7) (mPk 4)))
 (mSeq (mAsg 6 (mCallP dSum (mConsP (mLC (subF [some 5,some 0,some 3,none] 7) (mRng2 (mConsP (mBin dAdd (mPk 4) (mK (.int 1))) (mConsP (mPk 2) mNilP))) (gVar 3) mYes (mBin dRep (mBin dix (mPk 0) (mBin dix (mPk 5) (mPk 3))) (mBin dix (mPk 2) (mPk 3)))) mNilP)))
 (mSet 3 (mPk 4) (mBin dFdiv (mBin dSub (mBin dRep (mPk 9) (mBin dix (mPk 5) (mPk 1))) (mPk 6)) (mBin dix (mPk 5) (mBin dix (mPk 8) (mPk 4))))))))
 (mRet (mPk 3)))))
def m_q3:List PyData->List PyData->Option Sl:=runR 7 2 3 b_q3
theorem ok_q3 (B:Bl mg) (K_S:Klass K C_S ["rows", "leads", "last"]) (F:Fun K "reduced_column" "Stairs.reduced_column" s_q3 f fd):FnOk P w K mg base CX0 1 f fd ["self", "column"] (spR K C_S ["rows", "leads", "last"] m_q3):=by
 have sc:=sc_q3
 exact fnR F sc_q3 rfl rfl rfl fun cdv A outer s H E p hr=>
  (dss_cons (ds_set 2 (de_blt call_len_seq cd_len bt_len B.len (dq_cons (dp_fldR 1 K_S) dq_nil)) sc.nd)
  (dss_cons (ds_set 3 (de_mul (DE.dp (de_lst (da_cons de_int da_nil))) (dp_var 2)) sc.nd)
  (dss_cons (ds_for PassesOwn.never (di_rangeD B.range (dq_cons (DE.dp (de_sub (dp_var 2) (DE.dp de_int))) (dq_cons (DE.dp (de_neg (DE.dp de_int))) (dq_cons (DE.dp (de_neg (DE.dp de_int))) dq_nil)))) (dg_name 4 sc.nd) (dss_cons (ds_set 5 (de_ix (dp_fldR 0 K_S) (dp_var 4)) sc.nd)
  (dss_cons (ds_set 6 (de_blt (call_sum rfl) cd_sum bt_sum B.sum (dq_cons (DE.dp (de_lc (N':= ["row", "self", "numbers", "k"]) (R':=FO K ⟨C_S,["rows", "leads", "last"],1,4,p⟩) cx_scope1 cx_names1 [some 5,some 0,some 3,none] (subF [some 5,some 0,some 3,none] 7) fo_sub (di_range2 B.range (dq_cons (DE.dp (de_add (dp_var 4) (DE.dp de_int))) (dq_cons (dp_var 2) dq_nil))) (fun _=>(dgk_name 3 (show List.Nodup (α:=Str) ["row", "self", "numbers", "k"] by decide +kernel))) (fun _=>dts_nil) (fun _=>(de_mul (DE.dp (de_ix (dp_var 0) (DE.dp (de_ix (dp_fldR 1 K_S) (dp_var 3))))) (DE.dp (de_ix (dp_var 2) (dp_var 3))))))) dq_nil)) sc.nd)
  (dss_one (ds_setI 3 (de_fdiv (DE.dp (de_sub (DE.dp (de_mul (dp_fldR 2 K_S) (DE.dp (de_ix (dp_var 5) (dp_var 1))))) (dp_var 6))) (DE.dp (de_ix (dp_var 5) (DE.dp (de_ix (dp_fldR 1 K_S) (dp_var 4)))))) (dp_var 4))))))
  (dss_one (ds_retV 3)))))
def b_q29 : En -> Option Out :=
 (mSeq (mAsg 2 (mCallP dLen (mConsP (mBin dix (mPk 0) (mK (.int 0))) mNilP)))
 (mObj 8 3 (mCallO m_q33 (mCons (mLC (subE [none,none]) (mZip (mCons (mVar 0) (mCons (mVar 1) mNil))) (gTupD [(gVar 0),(gVar 1)]) mYes (mBin dAdd (mPk 0) (mLst (mCons (mVar 1) mNil)))) mNil))
 (mSeq (mIf (mTest (mBin (dInD false) (mPk 2) (mPk 9))) (mRet (mK .none)) mNext)
 (mSeq (mFrz 2 (mAsg 4 (mCall m_q22 (mCons (mMethR 8 m_q3 (mCons (mVar 2) mNil)) (mCons (mVar 10) mNil)))))
 (mSeq (mAsg 5 (mBin dRep (mLst (mCons (mK c_NOUGHT) mNil)) (mPk 2)))
 (mSeq (mFrz 9 (mFrz 4 (mFor (mZip (mCons (mVar 9) (mCons (mVar 4) mNil))) (gTupD [(gVar 6),(gVar 7)]) (mSet 5 (mPk 6) (mVar 7)))))
 (mRet (mPk 5))))))))
def m_q29:List PyData->Option Sl:=runD 8 b_q29 2
theorem ok_q29 (B:Bl mg) (D_q33:Def P w K mg base 5 "stairs_of" ["table"] (spO K C_S ["rows", "leads", "last"] m_q33)) (D_q22:Def P w K mg base 3 "fractions_over" ["numbers", "bottom"] (spD K m_q22)) (D_q3:MDef P w K mg base 1 C_S "reduced_column" ["self", "column"] (spR K C_S ["rows", "leads", "last"] m_q3)) (C_NOUGHT:GlobC K mg "NOUGHT" c_NOUGHT) (K_S:Klass K C_S ["rows", "leads", "last"]) (F:Fun K "solution" "solution" s_q29 f fd):FnOk P w K mg base CX0 6 f fd ["table", "column"] (spD K m_q29):=by
 have sc:=sc_q29
 exact fnD F sc_q29 rfl rfl fun cdv A outer s H E hr=>
  (dss_cons (ds_set 2 (de_blt call_len_seq cd_len bt_len B.len (dq_cons (DE.dp (de_ix (dp_var 0) (DE.dp de_int))) dq_nil)) sc.nd)
  (dss_obj 3 8 (db_call D_q33 hr (da_cons (de_lc (N':= ["row", "number"]) (R':=PR K) cx_scope1 cx_names1 [none,none] (subE [none,none]) pr_sub (di_zip B.zip (da_cons (de_var 0) (da_cons (de_var 1) da_nil))) (fun _=>(dgk_tup (dgks_cons (dgk_name 0 (show List.Nodup (α:=Str) ["row", "number"] by decide +kernel)) (dgks_cons (dgk_name 1 (show List.Nodup (α:=Str) ["row", "number"] by decide +kernel)) dgks_nil)))) (fun _=>dts_nil) (fun _=>(de_add (dp_var 0) (DE.dp (de_lst (da_cons (de_var 1) da_nil)))))) da_nil)) (fun p=>
  (dss_cons (ds_if (dt_inD hr.units (dp_var 2) (dp_fld 1 K_S)) (dss_one (ds_ret de_none)) dss_nil)
  (dss_cons (ds_frz 2 (ds_set 4 (de_call D_q22 hr (da_cons (de_methR D_q3 K_S hr (da_cons (de_var 2) da_nil)) (da_cons (de_fld 2 K_S) da_nil))) sc.nd))
  (dss_cons (ds_set 5 (de_mul (DE.dp (de_lst (da_cons (de_globC C_NOUGHT) da_nil))) (dp_var 2)) sc.nd)
  (dss_cons (ds_frzF 9 (ds_frz 4 (ds_for PassesOwn.never (di_zip B.zip (da_cons (de_fld 1 K_S) (da_cons (de_var 4) da_nil))) (dg_tup (dgs_cons (dg_name 6 sc.nd) (dgs_cons (dg_name 7 sc.nd) dgs_nil))) (dss_one (ds_setI 5 (de_var 7) (dp_var 6))))))
  (dss_one (ds_retV 5))))))) sc.nd))
def b_q42 : En -> Option Out :=
 (mSeq (mAsg 2 (mCall m_q24 (mCons (mVar 0) mNil)))
 (mRet (mCall m_q29 (mCons (mBin dAdd (mPk 2) (mLst (mCons (mCallP dList (mConsP (mPk 1) mNilP)) mNil))) (mCons (mBin dAdd (mBin dRep (mLst (mCons (mK c_NOUGHT) mNil)) (mCallP dLen (mConsP (mPk 2) mNilP))) (mLst (mCons (mK c_UNIT) mNil))) mNil)))))
def m_q42:List PyData->Option Sl:=runD 3 b_q42 2
theorem ok_q42 (B:Bl mg) (D_q24:Def P w K mg base 1 "laid_over" ["table"] (spD K m_q24)) (D_q29:Def P w K mg base 6 "solution" ["table", "column"] (spD K m_q29)) (C_NOUGHT:GlobC K mg "NOUGHT" c_NOUGHT) (C_UNIT:GlobC K mg "UNIT" c_UNIT) (F:Fun K "witness" "witness" s_q42 f fd):FnOk P w K mg base CX0 7 f fd ["table", "column"] (spD K m_q42):=by
 have sc:=sc_q42
 exact fnD F sc_q42 rfl rfl fun cdv A outer s H E hr=>
  (dss_cons (ds_set 2 (de_call D_q24 hr (da_cons (de_var 0) da_nil)) sc.nd)
  (dss_one (ds_ret (de_call D_q29 hr (da_cons (de_add (dp_var 2) (DE.dp (de_lst (da_cons (de_ty call_list_of cd_list bt_list B.list (dq_cons (dp_var 1) dq_nil)) da_nil)))) (da_cons (de_add (DE.dp (de_mul (DE.dp (de_lst (da_cons (de_globC C_NOUGHT) da_nil))) (DE.dp (de_blt call_len_seq cd_len bt_len B.len (dq_cons (dp_var 2) dq_nil))))) (DE.dp (de_lst (da_cons (de_globC C_UNIT) da_nil)))) da_nil))))))
def b_q30 : En -> Option Out :=
 (mSeq (mAsg 2 (mCall m_q29 (mCons (mVar 0) (mCons (mVar 1) mNil))))
 (mSeq (mIf (mTest (mBin disN (mPk 2) (mK .none))) (mRet (mTup (mCons (mK (.str "never")) (mCons (mCall m_q42 (mCons (mVar 0) (mCons (mVar 1) mNil))) mNil)))) mNext)
 (mFrz 2 (mRet (mTup (mCons (mK (.str "found")) (mCons (mVar 2) mNil)))))))
def m_q30:List PyData->Option Sl:=runD 3 b_q30 2
theorem ok_q30 (B:Bl mg) (D_q29:Def P w K mg base 6 "solution" ["table", "column"] (spD K m_q29)) (D_q42:Def P w K mg base 7 "witness" ["table", "column"] (spD K m_q42)) (F:Fun K "solved" "solved" s_q30 f fd):FnOk P w K mg base CX0 8 f fd ["table", "column"] (spD K m_q30):=by
 have sc:=sc_q30
 exact fnD F sc_q30 rfl rfl fun cdv A outer s H E hr=>
  (dss_cons (ds_set 2 (de_call D_q29 hr (da_cons (de_var 0) (da_cons (de_var 1) da_nil))) sc.nd)
  (dss_cons (ds_if (dt_isN (dp_var 2) (DE.dp de_none)) (dss_one (ds_ret (de_tup (da_cons de_str (da_cons (de_call D_q42 hr (da_cons (de_var 0) (da_cons (de_var 1) da_nil))) da_nil))))) dss_nil)
  (dss_one (ds_frz 2 (ds_ret (de_tup (da_cons de_str (da_cons (de_var 2) da_nil))))))))
def b_q34 : En -> Option Out :=
 (mRet (mCallP dSum (mConsP (mLC (subE [none,none]) (mZip (mCons (mVar 0) (mCons (mVar 1) mNil))) (gTupD [(gVar 0),(gVar 1)]) mYes (mBin dRep (mPk 0) (mPk 1))) mNilP)))
def m_q34:List PyData->Option Sl:=runD 2 b_q34 2
theorem ok_q34 (B:Bl mg) (F:Fun K "sum_of_products" "sum_of_products" s_q34 f fd):FnOk P w K mg base CX0 1 f fd ["one", "other"] (spD K m_q34):=by
 have sc:=sc_q34
 exact fnD F sc_q34 rfl rfl fun cdv A outer s H E hr=>
  (dss_one (ds_ret (de_blt (call_sum rfl) cd_sum bt_sum B.sum (dq_cons (DE.dp (de_lc (N':= ["a", "b"]) (R':=PR K) cx_scope1 cx_names1 [none,none] (subE [none,none]) pr_sub (di_zip B.zip (da_cons (de_var 0) (da_cons (de_var 1) da_nil))) (fun _=>(dgk_tup (dgks_cons (dgk_name 0 (show List.Nodup (α:=Str) ["a", "b"] by decide +kernel)) (dgks_cons (dgk_name 1 (show List.Nodup (α:=Str) ["a", "b"] by decide +kernel)) dgks_nil)))) (fun _=>dts_nil) (fun _=>(de_mul (dp_var 0) (dp_var 1))))) dq_nil))))
def b_q13 : En -> Option Out :=
 (mRet (mLC (subE [none]) (mItems (mVar 0)) (gVar 0) mYes (mTup (mCons (mVar 0) (mCons (mK (.int 1)) mNil)))))
def m_q13:List PyData->Option Sl:=runD 1 b_q13 1
theorem ok_q13 (B:Bl mg) (F:Fun K "as_fractions" "as_fractions" s_q13 f fd):FnOk P w K mg base CX0 1 f fd ["numbers"] (spD K m_q13):=by
 have sc:=sc_q13
 exact fnD F sc_q13 rfl rfl fun cdv A outer s H E hr=>
  (dss_one (ds_ret (de_lc (N':= ["number"]) (R':=PR K) cx_scope1 cx_names1 [none] (subE [none]) pr_sub (di_list (de_var 0)) (fun _=>(dgk_name 0 (show List.Nodup (α:=Str) ["number"] by decide +kernel))) (fun _=>dts_nil) (fun _=>(de_tup (da_cons (de_var 0) (da_cons de_int da_nil)))))))
def b_q15 : En -> Option Out :=
 (mSeq (mAsg 1 (mCall m_q24 (mCons (mVar 0) mNil)))
 (mFrz 1 (mRet (mLC (subE [some 1,none]) (mItems (mVar 1)) (gVar 1) mYes (mCall m_q13 (mCons (mLC (subE [some 1,none]) (mItems (mVar 0)) (gVar 1) mYes (mCall m_q34 (mCons (mVar 0) (mCons (mVar 1) mNil)))) mNil))))))
def m_q15:List PyData->Option Sl:=runD 2 b_q15 1
theorem ok_q15 (B:Bl mg) (D_q24:Def P w K mg base 1 "laid_over" ["table"] (spD K m_q24)) (D_q13:Def P w K mg base 1 "as_fractions" ["numbers"] (spD K m_q13)) (D_q34:Def P w K mg base 1 "sum_of_products" ["one", "other"] (spD K m_q34)) (F:Fun K "column_products" "column_products" s_q15 f fd):FnOk P w K mg base CX0 2 f fd ["rows"] (spD K m_q15):=by
 have sc:=sc_q15
 exact fnD F sc_q15 rfl rfl fun cdv A outer s H E hr=>
  (dss_cons (ds_set 1 (de_call D_q24 hr (da_cons (de_var 0) da_nil)) sc.nd)
  (dss_one (ds_frz 1 (ds_ret (de_lc (N':= ["columns", "one"]) (R':=PR K) cx_scope1 cx_names1 [some 1,none] (subE [some 1,none]) pr_sub (di_list (de_var 1)) (fun _=>(dgk_name 1 (show List.Nodup (α:=Str) ["columns", "one"] by decide +kernel))) (fun _=>dts_nil) (fun _=>(de_call D_q13 hr (da_cons (de_lc (N':= ["one", "other"]) (R':=PR K) cxC_scope cxC_names [some 1,none] (subE [some 1,none]) pr_sub (di_list (de_var 0)) (fun _=>(dgk_name 1 (show List.Nodup (α:=Str) ["one", "other"] by decide +kernel))) (fun _=>dts_nil) (fun _=>(de_call D_q34 hr (da_cons (de_var 0) (da_cons (de_var 1) da_nil))))) da_nil))))))))
def b_q35 : En -> Option Out :=
 (mSeq (mAsg 2 (mCall m_q17 (mCons (mVar 1) mNil)))
 (mSeq (mAsg 3 (mCall m_q41 (mCons (mVar 1) mNil)))
 (mFrz 3 (mFrz 2 (mRet (mCall m_q22 (mCons (mLC (subE [some 3,none]) (mItems (mVar 0)) (gVar 1) mYes (mCall m_q34 (mCons (mVar 1) (mCons (mVar 0) mNil)))) (mCons (mVar 2) mNil))))))))
def m_q35:List PyData->Option Sl:=runD 4 b_q35 2
theorem ok_q35 (B:Bl mg) (D_q17:Def P w K mg base 2 "common_bottom" ["row"] (spD K m_q17)) (D_q41:Def P w K mg base 3 "whole_row" ["row"] (spD K m_q41)) (D_q22:Def P w K mg base 3 "fractions_over" ["numbers", "bottom"] (spD K m_q22)) (D_q34:Def P w K mg base 1 "sum_of_products" ["one", "other"] (spD K m_q34)) (F:Fun K "sums_with" "sums_with" s_q35 f fd):FnOk P w K mg base CX0 4 f fd ["rows", "fractions"] (spD K m_q35):=by
 have sc:=sc_q35
 exact fnD F sc_q35 rfl rfl fun cdv A outer s H E hr=>
  (dss_cons (ds_set 2 (de_call D_q17 hr (da_cons (de_var 1) da_nil)) sc.nd)
  (dss_cons (ds_set 3 (de_call D_q41 hr (da_cons (de_var 1) da_nil)) sc.nd)
  (dss_one (ds_frz 3 (ds_frz 2 (ds_ret (de_call D_q22 hr (da_cons (de_lc (N':= ["whole", "row"]) (R':=PR K) cx_scope1 cx_names1 [some 3,none] (subE [some 3,none]) pr_sub (di_list (de_var 0)) (fun _=>(dgk_name 1 (show List.Nodup (α:=Str) ["whole", "row"] by decide +kernel))) (fun _=>dts_nil) (fun _=>(de_call D_q34 hr (da_cons (de_var 1) (da_cons (de_var 0) da_nil))))) (da_cons (de_var 2) da_nil)))))))))
def b_q37 : En -> Option Out :=
 (mSeq (mAsg 2 (mCall m_q30 (mCons (mCall m_q15 (mCons (mVar 0) mNil)) (mCons (mCall m_q13 (mCons (mVar 1) mNil)) mNil))))
 (mSeq (mIf (mTest (mBin deq (mBin dix (mPk 2) (mK (.int 0))) (mK (.str "found")))) (mRet (mTup (mCons (mK (.str "told")) (mCons (mCall m_q35 (mCons (mVar 0) (mCons (mBin dix (mPk 2) (mK (.int 1))) mNil))) mNil)))) mNext)
 (mRet (mTup (mCons (mK (.str "hidden")) (mCons (mBin dix (mPk 2) (mK (.int 1))) (mCons (mBin dRep (mLst (mCons (mK c_NOUGHT) mNil)) (mCallP dLen (mConsP (mPk 1) mNilP))) mNil)))))))
def m_q37:List PyData->Option Sl:=runD 3 b_q37 2
theorem ok_q37 (B:Bl mg) (D_q30:Def P w K mg base 8 "solved" ["table", "column"] (spD K m_q30)) (D_q13:Def P w K mg base 1 "as_fractions" ["numbers"] (spD K m_q13)) (D_q15:Def P w K mg base 2 "column_products" ["rows"] (spD K m_q15)) (D_q35:Def P w K mg base 4 "sums_with" ["rows", "fractions"] (spD K m_q35)) (C_NOUGHT:GlobC K mg "NOUGHT" c_NOUGHT) (F:Fun K "telling" "telling" s_q37 f fd):FnOk P w K mg base CX0 9 f fd ["rows", "combination"] (spD K m_q37):=by
 have sc:=sc_q37
 exact fnD F sc_q37 rfl rfl fun cdv A outer s H E hr=>
  (dss_cons (ds_set 2 (de_call D_q30 hr (da_cons (de_call D_q15 hr (da_cons (de_var 0) da_nil)) (da_cons (de_call D_q13 hr (da_cons (de_var 1) da_nil)) da_nil))) sc.nd)
  (dss_cons (ds_if (dt_eq hr.units (DE.dp (de_ix (dp_var 2) (DE.dp de_int))) (DE.dp de_str)) (dss_one (ds_ret (de_tup (da_cons de_str (da_cons (de_call D_q35 hr (da_cons (de_var 0) (da_cons (de_ix (dp_var 2) (DE.dp de_int)) da_nil))) da_nil))))) dss_nil)
  (dss_one (ds_ret (de_tup (da_cons de_str (da_cons (de_ix (dp_var 2) (DE.dp de_int)) (da_cons (de_mul (DE.dp (de_lst (da_cons (de_globC C_NOUGHT) da_nil))) (DE.dp (de_blt call_len_seq cd_len bt_len B.len (dq_cons (dp_var 1) dq_nil)))) da_nil))))))))
def b_q31 : En -> Option Out :=
 (mSeq (mAsg 1 (mCall m_q17 (mCons (mVar 0) mNil)))
 (mSeq (mAsg 2 (mCall m_q41 (mCons (mVar 0) mNil)))
 (mFrz 2 (mRet (mCall m_q21 (mCons (mCall m_q34 (mCons (mVar 2) (mCons (mVar 2) mNil))) (mCons (mBin dRep (mPk 1) (mPk 1)) mNil)))))))
def m_q31:List PyData->Option Sl:=runD 3 b_q31 1
theorem ok_q31 (B:Bl mg) (D_q17:Def P w K mg base 2 "common_bottom" ["row"] (spD K m_q17)) (D_q41:Def P w K mg base 3 "whole_row" ["row"] (spD K m_q41)) (D_q21:Def P w K mg base 2 "fraction" ["top", "bottom"] (spD K m_q21)) (D_q34:Def P w K mg base 1 "sum_of_products" ["one", "other"] (spD K m_q34)) (F:Fun K "spread" "spread" s_q31 f fd):FnOk P w K mg base CX0 4 f fd ["weights"] (spD K m_q31):=by
 have sc:=sc_q31
 exact fnD F sc_q31 rfl rfl fun cdv A outer s H E hr=>
  (dss_cons (ds_set 1 (de_call D_q17 hr (da_cons (de_var 0) da_nil)) sc.nd)
  (dss_cons (ds_set 2 (de_call D_q41 hr (da_cons (de_var 0) da_nil)) sc.nd)
  (dss_one (ds_frz 2 (ds_ret (de_call D_q21 hr (da_cons (de_call D_q34 hr (da_cons (de_var 2) (da_cons (de_var 2) da_nil))) (da_cons (de_mul (dp_var 1) (dp_var 1)) da_nil))))))))
def b_q28 : En -> Option Out :=
 (mSeq (mAsg 1 (mK (.int 1)))
 (mSeq (mFor (mItemsS (mVar 0)) (gVar 2) (mAsg 1 (mBin dRep (mPk 1) (mPk 2))))
 (mRet (mPk 1))))
def m_q28:List PyData->Option Sl:=runD 3 b_q28 1
theorem ok_q28 (B:Bl mg) (F:Fun K "product_of" "product_of" s_q28 f fd):FnOk P w K mg base CX0 1 f fd ["numbers"] (spD K m_q28):=by
 have sc:=sc_q28
 exact fnD F sc_q28 rfl rfl fun cdv A outer s H E hr=>
  (dss_cons (ds_set 1 de_int sc.nd)
  (dss_cons (ds_for PassesOwn.never (di_seq (de_var 0)) (dg_name 2 sc.nd) (dss_one (ds_set 1 (de_mul (dp_var 1) (dp_var 2)) sc.nd)))
  (dss_one (ds_retV 1))))
def b_q38 : En -> Option Out :=
 (mSeq (mAsg 2 (mLst mNil))
 (mSeq (mFor (mRevI (mCons (mVar 0) mNil)) (gVar 3) (mSeq (mApp 2 (mBin dMod (mPk 1) (mPk 3)))
 (mAsg 1 (mBin dFdiv (mPk 1) (mPk 3)))))
 (mRet (mCallP dTupRev (mConsP (mPk 2) mNilP)))))
def m_q38:List PyData->Option Sl:=runD 4 b_q38 2
theorem ok_q38 (B:Bl mg) (F:Fun K "trial_at" "trial_at" s_q38 f fd):FnOk P w K mg base CX0 1 f fd ["levels", "place"] (spD K m_q38):=by
 have sc:=sc_q38
 exact fnD F sc_q38 rfl rfl fun cdv A outer s H E hr=>
  (dss_cons (ds_set 2 (de_lst da_nil) sc.nd)
  (dss_cons (ds_for PassesOwn.never (di_rev B.reversed (da_cons (de_var 0) da_nil)) (dg_name 3 sc.nd) (dss_cons (ds_app 2 (de_mod (dp_var 1) (dp_var 3)))
  (dss_one (ds_set 1 (de_fdiv (dp_var 1) (dp_var 3)) sc.nd))))
  (dss_one (ds_ret (de_tupRev B.reversed B.tuple (dq_cons (dp_var 2) dq_nil))))))
def b_q12 : En -> Option Out :=
 (mRet (mLC (subE [some 0,none]) (mRng1 (mConsP (mCall m_q28 (mCons (mVar 0) mNil)) mNilP)) (gVar 1) mYes (mCall m_q38 (mCons (mVar 0) (mCons (mVar 1) mNil)))))
def m_q12:List PyData->Option Sl:=runD 1 b_q12 1
theorem ok_q12 (B:Bl mg) (D_q28:Def P w K mg base 1 "product_of" ["numbers"] (spD K m_q28)) (D_q38:Def P w K mg base 1 "trial_at" ["levels", "place"] (spD K m_q38)) (F:Fun K "all_trials" "all_trials" s_q12 f fd):FnOk P w K mg base CX0 2 f fd ["levels"] (spD K m_q12):=by
 have sc:=sc_q12
 exact fnD F sc_q12 rfl rfl fun cdv A outer s H E hr=>
  (dss_one (ds_ret (de_lc (N':= ["levels", "place"]) (R':=PR K) cx_scope1 cx_names1 [some 0,none] (subE [some 0,none]) pr_sub (di_range1 B.range (dq_cons (DE.dp (de_call D_q28 hr (da_cons (de_var 0) da_nil))) dq_nil)) (fun _=>(dgk_name 1 (show List.Nodup (α:=Str) ["levels", "place"] by decide +kernel))) (fun _=>dts_nil) (fun _=>(de_call D_q38 hr (da_cons (de_var 0) (da_cons (de_var 1) da_nil)))))))
def b_q26 : En -> Option Out :=
 (mSeq (mAsg 1 (mLC (subE [some 0,none]) (mRng1 (mConsP (mPk 0) mNilP)) (gVar 1) mYes (mBin dMod (mBin dRep (mPk 1) (mPk 1)) (mPk 0))))
 (mSeq (mAsg 2 (mLst (mCons (mBin dRep (mLst (mCons (mK (.int 1)) mNil)) (mBin dAdd (mPk 0) (mK (.int 1)))) mNil)))
 (mSeq (mFor (mRng1 (mConsP (mPk 0) mNilP)) (gVar 3) (mApp 2 (mBin dAdd (mLst (mCons (mUn (iun fun i=> -i) (mK (.int 1))) mNil)) (mLC (subE [some 3,some 0,some 1,none]) (mRng1 (mConsP (mPk 0) mNilP)) (gVar 3) mYes (mIfE (mTest (mBin (dInD false) (mBin dMod (mBin dSub (mPk 3) (mPk 0)) (mPk 1)) (mPk 2))) (mK (.int 1)) (mUn (iun fun i=> -i) (mK (.int 1))))))))
 (mRet (mPk 2)))))
def m_q26:List PyData->Option Sl:=runD 4 b_q26 1
theorem ok_q26 (B:Bl mg) (F:Fun K "of_prime" "of_prime" s_q26 f fd):FnOk P w K mg base CX0 1 f fd ["p"] (spD K m_q26):=by
 have sc:=sc_q26
 exact fnD F sc_q26 rfl rfl fun cdv A outer s H E hr=>
  (dss_cons (ds_set 1 (de_lc (N':= ["p", "k"]) (R':=PR K) cx_scope1 cx_names1 [some 0,none] (subE [some 0,none]) pr_sub (di_range1 B.range (dq_cons (dp_var 0) dq_nil)) (fun _=>(dgk_name 1 (show List.Nodup (α:=Str) ["p", "k"] by decide +kernel))) (fun _=>dts_nil) (fun _=>(de_mod (DE.dp (de_mul (dp_var 1) (dp_var 1))) (dp_var 0)))) sc.nd)
  (dss_cons (ds_set 2 (de_lst (da_cons (de_mul (DE.dp (de_lst (da_cons de_int da_nil))) (DE.dp (de_add (dp_var 0) (DE.dp de_int)))) da_nil)) sc.nd)
  (dss_cons (ds_for PassesOwn.never (di_range1 B.range (dq_cons (dp_var 0) dq_nil)) (dg_name 3 sc.nd) (dss_one (ds_app 2 (de_add (DE.dp (de_lst (da_cons (de_neg (DE.dp de_int)) da_nil))) (DE.dp (de_lc (N':= ["row", "p", "squares", "column"]) (R':=PR K) cx_scope1 cx_names1 [some 3,some 0,some 1,none] (subE [some 3,some 0,some 1,none]) pr_sub (di_range1 B.range (dq_cons (dp_var 0) dq_nil)) (fun _=>(dgk_name 3 (show List.Nodup (α:=Str) ["row", "p", "squares", "column"] by decide +kernel))) (fun _=>dts_nil) (fun _=>(de_ifE (dt_inD hr.units (DE.dp (de_mod (DE.dp (de_sub (dp_var 3) (dp_var 0))) (dp_var 1))) (dp_var 2)) de_int (de_neg (DE.dp de_int))))))))))
  (dss_one (ds_retV 2)))))
def b_q39 : En -> Option Out :=
 (mRet (mCallP dTuple (mConsP (mLC (subE [some 0,none]) (mItemsS (mSl (mPk 0) (mPart (mK (.int 1))) mNoPart)) (gVar 1) mYes (mIfE (mTest (mBin deq (mPk 1) (mBin dix (mPk 0) (mK (.int 0))))) (mK (.int 0)) (mK (.int 1)))) mNilP)))
def m_q39:List PyData->Option Sl:=runD 1 b_q39 1
theorem ok_q39 (B:Bl mg) (F:Fun K "trial_of" "trial_of" s_q39 f fd):FnOk P w K mg base CX0 1 f fd ["row"] (spD K m_q39):=by
 have sc:=sc_q39
 exact fnD F sc_q39 rfl rfl fun cdv A outer s H E hr=>
  (dss_one (ds_ret (de_ty call_tuple_of cd_tuple bt_tuple B.tuple (dq_cons (DE.dp (de_lc (N':= ["row", "number"]) (R':=PR K) cx_scope1 cx_names1 [some 0,none] (subE [some 0,none]) pr_sub (di_seq (de_sl (dp_var 0) (do_some (DE.dp de_int)) do_none)) (fun _=>(dgk_name 1 (show List.Nodup (α:=Str) ["row", "number"] by decide +kernel))) (fun _=>dts_nil) (fun _=>(de_ifE (dt_eq hr.units (dp_var 1) (DE.dp (de_ix (dp_var 0) (DE.dp de_int)))) de_int de_int)))) dq_nil))))
def b_q27 : En -> Option Out :=
 (mRet (mLC (subE [none]) (mItemsS (mVar 0)) (gVar 0) mYes (mCall m_q39 (mCons (mVar 0) mNil))))
def m_q27:List PyData->Option Sl:=runD 1 b_q27 1
theorem ok_q27 (B:Bl mg) (D_q39:Def P w K mg base 1 "trial_of" ["row"] (spD K m_q39)) (F:Fun K "plan_of" "plan_of" s_q27 f fd):FnOk P w K mg base CX0 2 f fd ["table"] (spD K m_q27):=by
 have sc:=sc_q27
 exact fnD F sc_q27 rfl rfl fun cdv A outer s H E hr=>
  (dss_one (ds_ret (de_lc (N':= ["row"]) (R':=PR K) cx_scope1 cx_names1 [none] (subE [none]) pr_sub (di_seq (de_var 0)) (fun _=>(dgk_name 0 (show List.Nodup (α:=Str) ["row"] by decide +kernel))) (fun _=>dts_nil) (fun _=>(de_call D_q39 hr (da_cons (de_var 0) da_nil))))))
def b_q18 : En -> Option Out :=
 (mSeq (mIf (mTest (mBin dLt (mPk 1) (mPk 0))) (mRet (mK (.int 1))) mNext)
 (mSeq (mIf (mTest (mBin deq (mPk 1) (mPk 0))) (mRet (mUn (iun fun i=> -i) (mPk 0))) mNext)
 (mRet (mK (.int 0)))))
def m_q18:List PyData->Option Sl:=runD 2 b_q18 2
theorem ok_q18 (B:Bl mg) (F:Fun K "contrast" "contrast" s_q18 f fd):FnOk P w K mg base CX0 1 f fd ["number", "step"] (spD K m_q18):=by
 have sc:=sc_q18
 exact fnD F sc_q18 rfl rfl fun cdv A outer s H E hr=>
  (dss_cons (ds_if (dt_lt (dp_var 1) (dp_var 0)) (dss_one (ds_ret de_int)) dss_nil)
  (dss_cons (ds_if (dt_eq hr.units (dp_var 1) (dp_var 0)) (dss_one (ds_ret (de_neg (dp_var 0)))) dss_nil)
  (dss_one (ds_ret de_int))))
def b_q19 : En -> Option Out :=
 (mSeq (mAsg 2 (mCall m_q12 (mCons (mLC (subE [some 0,none]) (mItemsS (mVar 1)) (gVar 1) mYes (mBin dSub (mBin dix (mPk 0) (mPk 1)) (mK (.int 1)))) mNil)))
 (mFrz 2 (mRet (mLC (subE [some 1,none]) (mItemsS (mVar 2)) (gVar 1) mYes (mTup (mCons (mVar 0) (mCons (mCallP dTuple (mConsP (mLC (subE [none]) (mItemsS (mVar 1)) (gVar 0) mYes (mBin dAdd (mPk 0) (mK (.int 1)))) mNilP)) mNil)))))))
def m_q19:List PyData->Option Sl:=runD 3 b_q19 2
theorem ok_q19 (B:Bl mg) (D_q12:Def P w K mg base 2 "all_trials" ["levels"] (spD K m_q12)) (F:Fun K "effect_columns" "effect_columns" s_q19 f fd):FnOk P w K mg base CX0 3 f fd ["levels", "effect"] (spD K m_q19):=by
 have sc:=sc_q19
 exact fnD F sc_q19 rfl rfl fun cdv A outer s H E hr=>
  (dss_cons (ds_set 2 (de_call D_q12 hr (da_cons (de_lc (N':= ["levels", "thing"]) (R':=PR K) cx_scope1 cx_names1 [some 0,none] (subE [some 0,none]) pr_sub (di_seq (de_var 1)) (fun _=>(dgk_name 1 (show List.Nodup (α:=Str) ["levels", "thing"] by decide +kernel))) (fun _=>dts_nil) (fun _=>(de_sub (DE.dp (de_ix (dp_var 0) (dp_var 1))) (DE.dp de_int)))) da_nil)) sc.nd)
  (dss_one (ds_frz 2 (ds_ret (de_lc (N':= ["effect", "places"]) (R':=PR K) cx_scope1 cx_names1 [some 1,none] (subE [some 1,none]) pr_sub (di_seq (de_var 2)) (fun _=>(dgk_name 1 (show List.Nodup (α:=Str) ["effect", "places"] by decide +kernel))) (fun _=>dts_nil) (fun _=>(de_tup (da_cons (de_var 0) (da_cons (de_ty call_tuple_of cd_tuple bt_tuple B.tuple (dq_cons (DE.dp (de_lc (N':= ["place"]) (R':=PR K) cxC_scope cxC_names [none] (subE [none]) pr_sub (di_seq (de_var 1)) (fun _=>(dgk_name 0 (show List.Nodup (α:=Str) ["place"] by decide +kernel))) (fun _=>dts_nil) (fun _=>(de_add (dp_var 0) (DE.dp de_int))))) dq_nil)) da_nil)))))))))
def b_q16 : En -> Option Out :=
 (mSeq (mAsg 2 (mLst mNil))
 (mSeq (mFor (mItemsS (mVar 1)) (gVar 3) (mExt 2 (mCall m_q19 (mCons (mVar 0) (mCons (mVar 3) mNil)))))
 (mRet (mPk 2))))
def m_q16:List PyData->Option Sl:=runD 4 b_q16 2
theorem ok_q16 (B:Bl mg) (D_q19:Def P w K mg base 3 "effect_columns" ["levels", "effect"] (spD K m_q19)) (F:Fun K "columns_of" "columns_of" s_q16 f fd):FnOk P w K mg base CX0 4 f fd ["levels", "model"] (spD K m_q16):=by
 have sc:=sc_q16
 exact fnD F sc_q16 rfl rfl fun cdv A outer s H E hr=>
  (dss_cons (ds_set 2 (de_lst da_nil) sc.nd)
  (dss_cons (ds_for PassesOwn.never (di_seq (de_var 1)) (dg_name 3 sc.nd) (dss_one (ds_ext 2 (de_call D_q19 hr (da_cons (de_var 0) (da_cons (de_var 3) da_nil))))))
  (dss_one (ds_retV 2))))
def b_q40 : En -> Option Out :=
 (mSeq (mAsg 2 (mK (.int 1)))
 (mSeq (mFor (mZipS (mCons (mBin dix (mPk 0) (mK (.int 0))) (mCons (mBin dix (mPk 0) (mK (.int 1))) mNil))) (gTupD [(gVar 3),(gVar 4)]) (mAsg 2 (mBin dRep (mPk 2) (mCall m_q18 (mCons (mVar 4) (mCons (mBin dix (mPk 1) (mPk 3)) mNil))))))
 (mRet (mPk 2))))
def m_q40:List PyData->Option Sl:=runD 5 b_q40 2
theorem ok_q40 (B:Bl mg) (D_q18:Def P w K mg base 1 "contrast" ["number", "step"] (spD K m_q18)) (F:Fun K "value_at" "value_at" s_q40 f fd):FnOk P w K mg base CX0 2 f fd ["column", "trial"] (spD K m_q40):=by
 have sc:=sc_q40
 exact fnD F sc_q40 rfl rfl fun cdv A outer s H E hr=>
  (dss_cons (ds_set 2 de_int sc.nd)
  (dss_cons (ds_for PassesOwn.never (di_zipS B.zip (da_cons (de_ix (dp_var 0) (DE.dp de_int)) (da_cons (de_ix (dp_var 0) (DE.dp de_int)) da_nil))) (dg_tup (dgs_cons (dg_name 3 sc.nd) (dgs_cons (dg_name 4 sc.nd) dgs_nil))) (dss_one (ds_set 2 (de_mul (dp_var 2) (DE.dp (de_call D_q18 hr (da_cons (de_var 4) (da_cons (de_ix (dp_var 1) (dp_var 3)) da_nil))))) sc.nd)))
  (dss_one (ds_retV 2))))
def b_q36 : En -> Option Out :=
 (mSeq (mAsg 3 (mCall m_q16 (mCons (mVar 0) (mCons (mVar 2) mNil))))
 (mFrz 3 (mRet (mLC (subE [some 3,none]) (mItemsS (mVar 1)) (gVar 1) mYes (mLC (subE [some 1,none]) (mItemsS (mVar 0)) (gVar 1) mYes (mCall m_q40 (mCons (mVar 1) (mCons (mVar 0) mNil))))))))
def m_q36:List PyData->Option Sl:=runD 4 b_q36 3
theorem ok_q36 (B:Bl mg) (D_q16:Def P w K mg base 4 "columns_of" ["levels", "model"] (spD K m_q16)) (D_q40:Def P w K mg base 2 "value_at" ["column", "trial"] (spD K m_q40)) (F:Fun K "table_of" "table_of" s_q36 f fd):FnOk P w K mg base CX0 5 f fd ["levels", "plan", "model"] (spD K m_q36):=by
 have sc:=sc_q36
 exact fnD F sc_q36 rfl rfl fun cdv A outer s H E hr=>
  (dss_cons (ds_set 3 (de_call D_q16 hr (da_cons (de_var 0) (da_cons (de_var 2) da_nil))) sc.nd)
  (dss_one (ds_frz 3 (ds_ret (de_lc (N':= ["columns", "trial"]) (R':=PR K) cx_scope1 cx_names1 [some 3,none] (subE [some 3,none]) pr_sub (di_seq (de_var 1)) (fun _=>(dgk_name 1 (show List.Nodup (α:=Str) ["columns", "trial"] by decide +kernel))) (fun _=>dts_nil) (fun _=>(de_lc (N':= ["trial", "column"]) (R':=PR K) cxC_scope cxC_names [some 1,none] (subE [some 1,none]) pr_sub (di_seq (de_var 0)) (fun _=>(dgk_name 1 (show List.Nodup (α:=Str) ["trial", "column"] by decide +kernel))) (fun _=>dts_nil) (fun _=>(de_call D_q40 hr (da_cons (de_var 1) (da_cons (de_var 0) da_nil)))))))))))
def b_fit : En -> Option Out :=
 (mSeq (mAsg 2 (mLC (subE [some 1,none]) (mItems (mCall m_q24 (mCons (mVar 0) mNil))) (gVar 1) mYes (mCall m_q34 (mCons (mVar 1) (mCons (mVar 0) mNil)))))
 (mSeq (mFrz 2 (mAsg 3 (mBin dix (mCall m_q30 (mCons (mCall m_q15 (mCons (mVar 0) mNil)) (mCons (mCall m_q13 (mCons (mVar 2) mNil)) mNil))) (mK (.int 1)))))
 (mSeq (mFrz 3 (mAsg 4 (mCall m_q35 (mCons (mVar 0) (mCons (mVar 3) mNil)))))
 (mSeq (mFrz 4 (mAsg 5 (mLC (subE [none,none]) (mZip (mCons (mCall m_q13 (mCons (mVar 1) mNil)) (mCons (mVar 4) mNil))) (gTupD [(gVar 0),(gVar 1)]) mYes (mCall m_q25 (mCons (mVar 0) (mCons (mVar 1) mNil))))))
 (mFrz 3 (mFrz 5 (mFrz 4 (mRet (mTup (mCons (mVar 3) (mCons (mVar 4) (mCons (mVar 5) mNil))))))))))))
def m_fit:List PyData->Option Sl:=runD 6 b_fit 2
theorem ok_fit (B:Bl mg) (D_q24:Def P w K mg base 1 "laid_over" ["table"] (spD K m_q24)) (D_q34:Def P w K mg base 1 "sum_of_products" ["one", "other"] (spD K m_q34)) (D_q30:Def P w K mg base 8 "solved" ["table", "column"] (spD K m_q30)) (D_q13:Def P w K mg base 1 "as_fractions" ["numbers"] (spD K m_q13)) (D_q15:Def P w K mg base 2 "column_products" ["rows"] (spD K m_q15)) (D_q35:Def P w K mg base 4 "sums_with" ["rows", "fractions"] (spD K m_q35)) (D_q25:Def P w K mg base 3 "minus" ["one", "other"] (spD K m_q25)) (F:Fun K "fit" "fit" s_fit f fd):FnOk P w K mg base CX0 9 f fd ["rows", "results"] (spD K m_fit):=by
 have sc:=sc_fit
 exact fnD F sc_fit rfl rfl fun cdv A outer s H E hr=>
  (dss_cons (ds_setC (N':= ["results", "column"]) (R':=PR K) cx_scope1 cx_names1 2 [some 1,none] (subE [some 1,none]) pr_sub sc.nd (di_list (de_call D_q24 hr (da_cons (de_var 0) da_nil))) (fun _=>(dgk_name 1 (show List.Nodup (α:=Str) ["results", "column"] by decide +kernel))) (fun _=>dts_nil) (fun _=>(de_call D_q34 hr (da_cons (de_var 1) (da_cons (de_var 0) da_nil)))))
  (dss_cons (ds_frz 2 (ds_set 3 (de_ix (DE.dp (de_call D_q30 hr (da_cons (de_call D_q15 hr (da_cons (de_var 0) da_nil)) (da_cons (de_call D_q13 hr (da_cons (de_var 2) da_nil)) da_nil)))) (DE.dp de_int)) sc.nd))
  (dss_cons (ds_frz 3 (ds_set 4 (de_call D_q35 hr (da_cons (de_var 0) (da_cons (de_var 3) da_nil))) sc.nd))
  (dss_cons (ds_frz 4 (ds_setC (N':= ["result", "number"]) (R':=PR K) cx_scope1 cx_names1 5 [none,none] (subE [none,none]) pr_sub sc.nd (di_zip B.zip (da_cons (de_call D_q13 hr (da_cons (de_var 1) da_nil)) (da_cons (de_var 4) da_nil))) (fun _=>(dgk_tup (dgks_cons (dgk_name 0 (show List.Nodup (α:=Str) ["result", "number"] by decide +kernel)) (dgks_cons (dgk_name 1 (show List.Nodup (α:=Str) ["result", "number"] by decide +kernel)) dgks_nil)))) (fun _=>dts_nil) (fun _=>(de_call D_q25 hr (da_cons (de_var 0) (da_cons (de_var 1) da_nil))))))
  (dss_one (ds_frz 3 (ds_frz 5 (ds_frz 4 (ds_ret (de_tup (da_cons (de_var 3) (da_cons (de_var 4) (da_cons (de_var 5) da_nil)))))))))))))
def b_q20 : En -> Option Out :=
 (mRet (mCall m_q31 (mCons (mBin dix (mCall m_fit (mCons (mCall m_q36 (mCons (mVar 0) (mCons (mVar 1) (mCons (mVar 2) mNil)))) (mCons (mVar 3) mNil))) (mK (.int 1))) mNil)))
def m_q20:List PyData->Option Sl:=runD 4 b_q20 4
theorem ok_q20 (B:Bl mg) (D_q31:Def P w K mg base 4 "spread" ["weights"] (spD K m_q31)) (D_fit:Def P w K mg base 9 "fit" ["rows", "results"] (spD K m_fit)) (D_q36:Def P w K mg base 5 "table_of" ["levels", "plan", "model"] (spD K m_q36)) (F:Fun K "fitted_square" "fitted_square" s_q20 f fd):FnOk P w K mg base CX0 10 f fd ["levels", "plan", "model", "results"] (spD K m_q20):=by
 have sc:=sc_q20
 exact fnD F sc_q20 rfl rfl fun cdv A outer s H E hr=>
  (dss_one (ds_ret (de_call D_q31 hr (da_cons (de_ix (DE.dp (de_call D_fit hr (da_cons (de_call D_q36 hr (da_cons (de_var 0) (da_cons (de_var 1) (da_cons (de_var 2) da_nil)))) (da_cons (de_var 3) da_nil)))) (DE.dp de_int)) da_nil))))
def b_q32 : En -> Option Out :=
 (mSeq (mAsg 4 (mLst mNil))
 (mSeq (mAsg 5 (mK c_NOUGHT))
 (mSeq (mFor (mEnum (mCons (mVar 2) mNil)) (gTupD [(gVar 7),(gVar 8)]) (mSeq (mAsg 9 (mCall m_q20 (mCons (mVar 0) (mCons (mVar 1) (mCons (mSl (mPk 2) mNoPart (mPart (mBin dAdd (mPk 7) (mK (.int 1))))) (mCons (mVar 3) mNil))))))
 (mSeq (mFrz 9 (mApp 4 (mTup (mCons (mVar 8) (mCons (mCall m_q25 (mCons (mVar 9) (mCons (mVar 5) mNil))) mNil)))))
 (mFrz 9 (mAsg 5 (mVar 9))))))
 (mSeq (mAsg 6 (mTup (mCons (mCall m_q34 (mCons (mVar 3) (mCons (mVar 3) mNil))) (mCons (mK (.int 1)) mNil))))
 (mRet (mBin dAdd (mPk 4) (mLst (mCons (mTup (mCons (mK (.str "left")) (mCons (mCall m_q25 (mCons (mVar 6) (mCons (mVar 5) mNil))) mNil))) mNil))))))))
def m_q32:List PyData->Option Sl:=runD 10 b_q32 4
theorem ok_q32 (B:Bl mg) (D_q20:Def P w K mg base 10 "fitted_square" ["levels", "plan", "model", "results"] (spD K m_q20)) (D_q25:Def P w K mg base 3 "minus" ["one", "other"] (spD K m_q25)) (D_q34:Def P w K mg base 1 "sum_of_products" ["one", "other"] (spD K m_q34)) (C_NOUGHT:GlobC K mg "NOUGHT" c_NOUGHT) (F:Fun K "squares" "squares" s_q32 f fd):FnOk P w K mg base CX0 11 f fd ["levels", "plan", "model", "results"] (spD K m_q32):=by
 have sc:=sc_q32
 exact fnD F sc_q32 rfl rfl fun cdv A outer s H E hr=>
  (dss_cons (ds_set 4 (de_lst da_nil) sc.nd)
  (dss_cons (ds_set 5 (de_globC C_NOUGHT) sc.nd)
  (dss_cons (ds_for PassesOwn.never (di_enum B.enumerate (da_cons (de_var 2) da_nil)) (dg_tup (dgs_cons (dg_name 7 sc.nd) (dgs_cons (dg_name 8 sc.nd) dgs_nil))) (dss_cons (ds_set 9 (de_call D_q20 hr (da_cons (de_var 0) (da_cons (de_var 1) (da_cons (de_sl (dp_var 2) do_none (do_some (DE.dp (de_add (dp_var 7) (DE.dp de_int))))) (da_cons (de_var 3) da_nil))))) sc.nd)
  (dss_cons (ds_frz 9 (ds_app 4 (de_tup (da_cons (de_var 8) (da_cons (de_call D_q25 hr (da_cons (de_var 9) (da_cons (de_var 5) da_nil))) da_nil)))))
  (dss_one (ds_frz 9 (ds_set 5 (de_var 9) sc.nd))))))
  (dss_cons (ds_set 6 (de_tup (da_cons (de_call D_q34 hr (da_cons (de_var 3) (da_cons (de_var 3) da_nil))) (da_cons de_int da_nil))) sc.nd)
  (dss_one (ds_ret (de_add (dp_var 4) (DE.dp (de_lst (da_cons (de_tup (da_cons de_str (da_cons (de_call D_q25 hr (da_cons (de_var 6) (da_cons (de_var 5) da_nil))) da_nil))) da_nil))))))))))
def b_q7 : En -> Option Out :=
 (mSeq (mAsg 2 (mBin dMod (mBin dRep (mBin dAdd (mBin dAdd (mBin dMod (mPk 0) (mK (.int 2147483647))) (mBin dRep (mBin dRep (mK (.int 40503)) (mPk 1)) (mPk 1))) (mBin dRep (mK (.int 17)) (mPk 1))) (mK (.int 48271))) (mK (.int 2147483647))))
 (mRet (mBin dMod (mBin dRep (mPk 2) (mBin dAdd (mBin dAdd (mBin dMod (mPk 2) (mK (.int 65537))) (mBin dRep (mK (.int 3)) (mPk 1))) (mK (.int 1)))) (mK (.int 2147483629)))))
def m_q7:List PyData->Option Sl:=runD 3 b_q7 2
theorem ok_q7 (B:Bl mg) (F:Fun K "_law_mixed" "_law_mixed" s_q7 f fd):FnOk P w K mg base CX0 1 f fd ["_law_cell", "_law_k"] (spD K m_q7):=by
 have sc:=sc_q7
 exact fnD F sc_q7 rfl rfl fun cdv A outer s H E hr=>
  (dss_cons (ds_set 2 (de_mod (DE.dp (de_mul (DE.dp (de_add (DE.dp (de_add (DE.dp (de_mod (dp_var 0) (DE.dp de_int))) (DE.dp (de_mul (DE.dp (de_mul (DE.dp de_int) (dp_var 1))) (dp_var 1))))) (DE.dp (de_mul (DE.dp de_int) (dp_var 1))))) (DE.dp de_int))) (DE.dp de_int)) sc.nd)
  (dss_one (ds_ret (de_mod (DE.dp (de_mul (dp_var 2) (DE.dp (de_add (DE.dp (de_add (DE.dp (de_mod (dp_var 2) (DE.dp de_int))) (DE.dp (de_mul (DE.dp de_int) (dp_var 1))))) (DE.dp de_int))))) (DE.dp de_int)))))
def b_q6 : En -> Option Out :=
 (mSeq (mPar 2 3 (mCons (mVar 0) (mCons (mVar 1) mNil)))
 (mSeq (mWhile (mTest (mBin dne (mPk 3) (mK (.int 0)))) (mPar 2 3 (mCons (mVar 3) (mCons (mBin dMod (mPk 2) (mPk 3)) mNil))))
 (mSeq (mIf (mTest (mBin dLt (mBin dRep (mPk 2) (mPk 1)) (mK (.int 0)))) (mAsg 2 (mBin dSub (mK (.int 0)) (mPk 2))) mNext)
 (mRet (mTup (mCons (mBin dFdiv (mPk 0) (mPk 2)) (mCons (mBin dFdiv (mPk 1) (mPk 2)) mNil)))))))
def m_q6:List PyData->Option Sl:=runD 4 b_q6 2
theorem ok_q6 (B:Bl mg) (F:Fun K "_law_fraction" "_law_fraction" s_q6 f fd):FnOk P w K mg base CX0 1 f fd ["_law_top", "_law_bottom"] (spD K m_q6):=by
 have sc:=sc_q6
 exact fnD F sc_q6 rfl rfl fun cdv A outer s H E hr=>
  (dss_cons (ds_par 2 3 (da_cons (de_var 0) (da_cons (de_var 1) da_nil)) sc.nd)
  (dss_cons (ds_while PassesOwn.never (dt_ne hr.units (dp_var 3) (DE.dp de_int)) (dss_one (ds_par 2 3 (da_cons (de_var 3) (da_cons (de_mod (dp_var 2) (dp_var 3)) da_nil)) sc.nd)))
  (dss_cons (ds_if (dt_lt (DE.dp (de_mul (dp_var 2) (dp_var 1))) (DE.dp de_int)) (dss_one (ds_set 2 (de_sub (DE.dp de_int) (dp_var 2)) sc.nd)) dss_nil)
  (dss_one (ds_ret (de_tup (da_cons (de_fdiv (dp_var 0) (dp_var 2)) (da_cons (de_fdiv (dp_var 1) (dp_var 2)) da_nil))))))))
def b_q5 : En -> Option Out :=
 (mSeq (mAsg 1 (mLst (mCons (mLst (mCons (mK (.int 1)) mNil)) mNil)))
 (mSeq (mFor (mRng1 (mConsP (mBin dMod (mPk 0) (mK (.int 4))) mNilP)) (gVar 2) (mFrz 1 (mAsg 1 (mBin dAdd (mLC (subE [none]) (mItemsS (mVar 1)) (gVar 0) mYes (mBin dAdd (mPk 0) (mPk 0))) (mLC (subE [none]) (mItemsS (mVar 1)) (gVar 0) mYes (mBin dAdd (mPk 0) (mLC (subE [none]) (mItemsS (mVar 0)) (gVar 0) mYes (mBin dSub (mK (.int 0)) (mPk 0)))))))))
 (mRet (mPk 1))))
def m_q5:List PyData->Option Sl:=runD 3 b_q5 1
theorem ok_q5 (B:Bl mg) (F:Fun K "_law_base" "_law_base" s_q5 f fd):FnOk P w K mg base CX0 1 f fd ["_law_cell"] (spD K m_q5):=by
 have sc:=sc_q5
 exact fnD F sc_q5 rfl rfl fun cdv A outer s H E hr=>
  (dss_cons (ds_set 1 (de_lst (da_cons (de_lst (da_cons de_int da_nil)) da_nil)) sc.nd)
  (dss_cons (ds_for PassesOwn.never (di_range1 B.range (dq_cons (DE.dp (de_mod (dp_var 0) (DE.dp de_int))) dq_nil)) (dg_name 2 sc.nd) (dss_one (ds_frz 1 (ds_set 1 (de_add (DE.dp (de_lc (N':= ["_law_row"]) (R':=PR K) cx_scope1 cx_names1 [none] (subE [none]) pr_sub (di_seq (de_var 1)) (fun _=>(dgk_name 0 (show List.Nodup (α:=Str) ["_law_row"] by decide +kernel))) (fun _=>dts_nil) (fun _=>(de_add (dp_var 0) (dp_var 0))))) (DE.dp (de_lc (N':= ["_law_row"]) (R':=PR K) cx_scope1 cx_names1 [none] (subE [none]) pr_sub (di_seq (de_var 1)) (fun _=>(dgk_name 0 (show List.Nodup (α:=Str) ["_law_row"] by decide +kernel))) (fun _=>dts_nil) (fun _=>(de_add (dp_var 0) (DE.dp (de_lc (N':= ["_law_one"]) (R':=PR K) cxC_scope cxC_names [none] (subE [none]) pr_sub (di_seq (de_var 0)) (fun _=>(dgk_name 0 (show List.Nodup (α:=Str) ["_law_one"] by decide +kernel))) (fun _=>dts_nil) (fun _=>(de_sub (DE.dp de_int) (dp_var 0)))))))))) sc.nd))))
  (dss_one (ds_retV 1))))
def b_q11 : En -> Option Out :=
 (mSeq (mAsg 3 (mLst mNil))
 (mSeq (mAsg 4 (mBin dFdiv (mPk 0) (mK (.int 2))))
 (mSeq (mFor (mRng1 (mConsP (mPk 1) mNilP)) (gVar 5) (mAsg 4 (mBin dFdiv (mPk 4) (mK (.int 2)))))
 (mSeq (mFor (mRng1 (mConsP (mPk 2) mNilP)) (gVar 5) (mSeq (mApp 3 (mBin dSub (mK (.int 1)) (mBin dRep (mK (.int 2)) (mBin dix (mLst (mCons (mBin dMod (mCall m_q7 (mCons (mVar 0) (mCons (mBin dAdd (mBin dAdd (mK (.int 320)) (mPk 1)) (mPk 5)) mNil))) (mK (.int 2))) (mCons (mBin dMod (mPk 4) (mK (.int 2))) mNil))) (mBin dMod (mPk 0) (mK (.int 2)))))))
 (mAsg 4 (mBin dFdiv (mPk 4) (mK (.int 2))))))
 (mRet (mPk 3))))))
def m_q11:List PyData->Option Sl:=runD 6 b_q11 3
theorem ok_q11 (B:Bl mg) (D_q7:Def P w K mg base 1 "_law_mixed" ["_law_cell", "_law_k"] (spD K m_q7)) (F:Fun K "_law_signs" "_law_signs" s_q11 f fd):FnOk P w K mg base CX0 2 f fd ["_law_cell", "_law_start", "_law_many"] (spD K m_q11):=by
 have sc:=sc_q11
 exact fnD F sc_q11 rfl rfl fun cdv A outer s H E hr=>
  (dss_cons (ds_set 3 (de_lst da_nil) sc.nd)
  (dss_cons (ds_set 4 (de_fdiv (dp_var 0) (DE.dp de_int)) sc.nd)
  (dss_cons (ds_for PassesOwn.never (di_range1 B.range (dq_cons (dp_var 1) dq_nil)) (dg_name 5 sc.nd) (dss_one (ds_set 4 (de_fdiv (dp_var 4) (DE.dp de_int)) sc.nd)))
  (dss_cons (ds_for PassesOwn.never (di_range1 B.range (dq_cons (dp_var 2) dq_nil)) (dg_name 5 sc.nd) (dss_cons (ds_app 3 (de_sub (DE.dp de_int) (DE.dp (de_mul (DE.dp de_int) (DE.dp (de_ix (DE.dp (de_lst (da_cons (de_mod (DE.dp (de_call D_q7 hr (da_cons (de_var 0) (da_cons (de_add (DE.dp (de_add (DE.dp de_int) (dp_var 1))) (dp_var 5)) da_nil)))) (DE.dp de_int)) (da_cons (de_mod (dp_var 4) (DE.dp de_int)) da_nil)))) (DE.dp (de_mod (dp_var 0) (DE.dp de_int)))))))))
  (dss_one (ds_set 4 (de_fdiv (dp_var 4) (DE.dp de_int)) sc.nd))))
  (dss_one (ds_retV 3))))))
def b_q8 : En -> Option Out :=
 (mSeq (mAsg 2 (mCallP dLen (mConsP (mPk 1) mNilP)))
 (mSeq (mFrz 2 (mAsg 3 (mCall m_q11 (mCons (mVar 0) (mCons (mK (.int 0)) (mCons (mVar 2) mNil))))))
 (mSeq (mAsg 4 (mLst mNil))
 (mSeq (mFor (mRng1 (mConsP (mPk 2) mNilP)) (gVar 5) (mApp 4 (mLC (subE [some 3,some 5,none]) (mItemsS (mBin dix (mPk 1) (mBin dMod (mBin dAdd (mBin dRep (mK (.int 7)) (mPk 5)) (mBin dFdiv (mPk 0) (mK (.int 3)))) (mPk 2)))) (gVar 2) mYes (mBin dRep (mPk 2) (mBin dix (mPk 0) (mPk 1))))))
 (mSeq (mFrz 2 (mAsg 3 (mCall m_q11 (mCons (mVar 0) (mCons (mVar 2) (mCons (mVar 2) mNil))))))
 (mSeq (mAsg 6 (mLst mNil))
 (mSeq (mForN 4 (gVar 7) (mApp 6 (mLC (subE [some 7,some 0,some 2,some 3,none]) (mRng1 (mConsP (mPk 2) mNilP)) (gVar 4) mYes (mBin dRep (mBin dix (mPk 0) (mBin dMod (mBin dAdd (mBin dRep (mK (.int 11)) (mPk 4)) (mBin dFdiv (mPk 1) (mK (.int 7)))) (mPk 2))) (mBin dix (mPk 3) (mPk 4))))))
 (mRet (mPk 6)))))))))
def m_q8:List PyData->Option Sl:=runD 8 b_q8 2
theorem ok_q8 (B:Bl mg) (D_q11:Def P w K mg base 2 "_law_signs" ["_law_cell", "_law_start", "_law_many"] (spD K m_q11)) (F:Fun K "_law_mixed_up" "_law_mixed_up" s_q8 f fd):FnOk P w K mg base CX0 3 f fd ["_law_cell", "_law_table"] (spD K m_q8):=by
 have sc:=sc_q8
 exact fnD F sc_q8 rfl rfl fun cdv A outer s H E hr=>
  (dss_cons (ds_set 2 (de_blt call_len_seq cd_len bt_len B.len (dq_cons (dp_var 1) dq_nil)) sc.nd)
  (dss_cons (ds_frz 2 (ds_set 3 (de_call D_q11 hr (da_cons (de_var 0) (da_cons de_int (da_cons (de_var 2) da_nil)))) sc.nd))
  (dss_cons (ds_set 4 (de_lst da_nil) sc.nd)
  (dss_cons (ds_for PassesOwn.never (di_range1 B.range (dq_cons (dp_var 2) dq_nil)) (dg_name 5 sc.nd) (dss_one (ds_app 4 (de_lc (N':= ["_law_signs_here", "_law_i", "_law_one"]) (R':=PR K) cx_scope1 cx_names1 [some 3,some 5,none] (subE [some 3,some 5,none]) pr_sub (di_seq (de_ix (dp_var 1) (DE.dp (de_mod (DE.dp (de_add (DE.dp (de_mul (DE.dp de_int) (dp_var 5))) (DE.dp (de_fdiv (dp_var 0) (DE.dp de_int))))) (dp_var 2))))) (fun _=>(dgk_name 2 (show List.Nodup (α:=Str) ["_law_signs_here", "_law_i", "_law_one"] by decide +kernel))) (fun _=>dts_nil) (fun _=>(de_mul (dp_var 2) (DE.dp (de_ix (dp_var 0) (dp_var 1)))))))))
  (dss_cons (ds_frz 2 (ds_set 3 (de_call D_q11 hr (da_cons (de_var 0) (da_cons (de_var 2) (da_cons (de_var 2) da_nil)))) sc.nd))
  (dss_cons (ds_set 6 (de_lst da_nil) sc.nd)
  (dss_cons (ds_forN 4 rfl PassesOwn.never (fun _ _=>(dg_name 7 sc.nd)) (fun _ _=>(dss_one (ds_app 6 (de_lc (N':= ["_law_row", "_law_cell", "_law_many", "_law_signs_here", "_law_j"]) (R':=PR K) cx_scope1 cx_names1 [some 7,some 0,some 2,some 3,none] (subE [some 7,some 0,some 2,some 3,none]) pin_sub (di_range1 B.range (dq_cons (dp_var 2) dq_nil)) (fun _=>(dgk_name 4 (show List.Nodup (α:=Str) ["_law_row", "_law_cell", "_law_many", "_law_signs_here", "_law_j"] by decide +kernel))) (fun _=>dts_nil) (fun _=>(de_mul (DE.dp (de_ix (dp_var 0) (DE.dp (de_mod (DE.dp (de_add (DE.dp (de_mul (DE.dp de_int) (dp_var 4))) (DE.dp (de_fdiv (dp_var 1) (DE.dp de_int))))) (dp_var 2))))) (DE.dp (de_ix (dp_var 3) (dp_var 4))))))))))
  (dss_one (ds_retV 6)))))))))
def b_q9 : En -> Option Out :=
 (mSeq (mAsg 2 (mLst mNil))
 (mSeq (mAsg 3 (mBin dFdiv (mPk 0) (mK (.int 2))))
 (mSeq (mFor (mRng1 (mConsP (mPk 1) mNilP)) (gVar 4) (mSeq (mAsg 5 (mCall m_q7 (mCons (mVar 0) (mCons (mBin dAdd (mK (.int 300)) (mPk 4)) mNil))))
 (mSeq (mApp 2 (mBin dSub (mBin dMod (mBin dFdiv (mPk 5) (mK (.int 7))) (mK (.int 41))) (mK (.int 20))))
 (mSeq (mIf (mTest (mBin deq (mBin dMod (mPk 5) (mK (.int 7))) (mK (.int 0)))) (mSet 2 (mPk 4) (mBin dSub (mBin dMod (mBin dRep (mPk 5) (mPk 5)) (mBin dRep (mK (.int 2)) (mBin dPow (mK (.int 10)) (mK (.int 12))))) (mBin dPow (mK (.int 10)) (mK (.int 12))))) mNext)
 (mIf (mTest (mBin deq (mBin dMod (mPk 0) (mK (.int 2))) (mK (.int 1)))) (mSeq (mSet 2 (mPk 4) (mBin dSub (mBin dMod (mPk 3) (mK (.int 41))) (mK (.int 20))))
 (mAsg 3 (mBin dFdiv (mPk 3) (mK (.int 41))))) mNext)))))
 (mRet (mPk 2)))))
def m_q9:List PyData->Option Sl:=runD 6 b_q9 2
theorem ok_q9 (B:Bl mg) (D_q7:Def P w K mg base 1 "_law_mixed" ["_law_cell", "_law_k"] (spD K m_q7)) (F:Fun K "_law_results" "_law_results" s_q9 f fd):FnOk P w K mg base CX0 2 f fd ["_law_cell", "_law_many"] (spD K m_q9):=by
 have sc:=sc_q9
 exact fnD F sc_q9 rfl rfl fun cdv A outer s H E hr=>
  (dss_cons (ds_set 2 (de_lst da_nil) sc.nd)
  (dss_cons (ds_set 3 (de_fdiv (dp_var 0) (DE.dp de_int)) sc.nd)
  (dss_cons (ds_for PassesOwn.never (di_range1 B.range (dq_cons (dp_var 1) dq_nil)) (dg_name 4 sc.nd) (dss_cons (ds_set 5 (de_call D_q7 hr (da_cons (de_var 0) (da_cons (de_add (DE.dp de_int) (dp_var 4)) da_nil))) sc.nd)
  (dss_cons (ds_app 2 (de_sub (DE.dp (de_mod (DE.dp (de_fdiv (dp_var 5) (DE.dp de_int))) (DE.dp de_int))) (DE.dp de_int)))
  (dss_cons (ds_if (dt_eq hr.units (DE.dp (de_mod (dp_var 5) (DE.dp de_int))) (DE.dp de_int)) (dss_one (ds_setI 2 (de_sub (DE.dp (de_mod (DE.dp (de_mul (dp_var 5) (dp_var 5))) (DE.dp (de_mul (DE.dp de_int) (DE.dp (de_pow (DE.dp de_int) (DE.dp de_int))))))) (DE.dp (de_pow (DE.dp de_int) (DE.dp de_int)))) (dp_var 4))) dss_nil)
  (dss_one (ds_if (dt_eq hr.units (DE.dp (de_mod (dp_var 0) (DE.dp de_int))) (DE.dp de_int)) (dss_cons (ds_setI 2 (de_sub (DE.dp (de_mod (dp_var 3) (DE.dp de_int))) (DE.dp de_int)) (dp_var 4))
  (dss_one (ds_set 3 (de_fdiv (dp_var 3) (DE.dp de_int)) sc.nd))) dss_nil))))))
  (dss_one (ds_retV 2)))))
def b_q10 : En -> Option Out :=
 (mSeq (mAsg 2 (mCallP dMin (mConsP (mBin dSub (mCallP dLen (mConsP (mPk 1) mNilP)) (mK (.int 1))) (mConsP (mBin dAdd (mK (.int 1)) (mBin dMod (mPk 0) (mK (.int 4)))) mNilP))))
 (mSeq (mAsg 3 (mLC (subE [some 2,none]) (mItemsS (mCall m_q27 (mCons (mVar 1) mNil))) (gVar 1) mYes (mSlW (mPk 1) mNoPart (mPart (mPk 0)))))
 (mSeq (mAsg 4 (mLC (subE [none]) (mRng1 (mConsP (mPk 2) mNilP)) (gVar 0) mYes (mK (.int 2))))
 (mSeq (mAsg 5 (mBin dAdd (mLst (mCons (mTup mNil) mNil)) (mLC (subE [none]) (mRng1 (mConsP (mPk 2) mNilP)) (gVar 0) mYes (mTup (mCons (mVar 0) mNil)))))
 (mSeq (mIf (mTest (mBin deq (mBin dMod (mBin dFdiv (mPk 0) (mK (.int 7))) (mK (.int 2))) (mK (.int 1)))) (mAsg 5 (mRvs (mPk 5) (mUn (iun fun i=> -i) (mK (.int 1))))) mNext)
 (mSeq (mFrz 3 (mFrz 5 (mFrz 4 (mAsg 6 (mCall m_q36 (mCons (mVar 4) (mCons (mVar 3) (mCons (mVar 5) mNil))))))))
 (mSeq (mAsg 7 (mCallP dLen (mConsP (mPk 3) mNilP)))
 (mSeq (mFrz 7 (mAsg 8 (mCall m_q9 (mCons (mBin dFdiv (mPk 0) (mK (.int 3))) (mCons (mVar 7) mNil)))))
 (mSeq (mAsg 9 (mLst mNil))
 (mSeq (mFor (mRng1 (mConsP (mCallP dLen (mConsP (mPk 5) mNilP)) mNilP)) (gVar 10) (mSeq (mFrz 6 (mAsg 11 (mCall m_q37 (mCons (mVar 6) (mCons (mLC (subE [some 10,none]) (mRng1 (mConsP (mCallP dLen (mConsP (mPk 5) mNilP)) mNilP)) (gVar 1) mYes (mCallP dInt (mConsP (mBin deq (mPk 1) (mPk 0)) mNilP))) mNil)))))
 (mSeq (mFrz 6 (mFrz 7 (mIf (mOr (mTest (mBin dne (mPk 11) (mTup (mCons (mK (.str "told")) (mCons (mLC (subE [some 10,some 7,none]) (mItemsS (mVar 6)) (gVar 2) mYes (mCall m_q6 (mCons (mBin dix (mPk 2) (mPk 0)) (mCons (mVar 1) mNil)))) mNil))))) (mTest (mBin dne (mCall m_q31 (mCons (mBin dix (mPk 11) (mK (.int 1))) mNil)) (mTup (mCons (mK (.int 1)) (mCons (mVar 7) mNil)))))) (mRet (mK (.bool false))) mNext)))
 (mSeq (mFrz 6 (mFrz 8 (mAsg 12 (mCallP dSum (mConsP (mLC (subE [some 10,none,none]) (mZipS (mCons (mVar 6) (mCons (mVar 8) mNil))) (gTupD [(gVar 1),(gVar 2)]) mYes (mBin dRep (mBin dix (mPk 1) (mPk 0)) (mPk 2))) mNilP)))))
 (mFrz 7 (mApp 9 (mTup (mCons (mBin dix (mPk 5) (mPk 10)) (mCons (mCall m_q6 (mCons (mBin dRep (mPk 12) (mPk 12)) (mCons (mVar 7) mNil))) mNil)))))))))
 (mFrz 8 (mFrz 3 (mFrz 5 (mFrz 4 (mRet (mBin deq (mSl (mCall m_q32 (mCons (mVar 4) (mCons (mVar 3) (mCons (mVar 5) (mCons (mVar 8) mNil))))) mNoPart (mPart (mCallP dLen (mConsP (mPk 5) mNilP)))) (mPk 9)))))))))))))))))
def m_q10:List PyData->Option Sl:=runD 13 b_q10 2
theorem ok_q10 (B:Bl mg) (D_q27:Def P w K mg base 2 "plan_of" ["table"] (spD K m_q27)) (D_q36:Def P w K mg base 5 "table_of" ["levels", "plan", "model"] (spD K m_q36)) (D_q9:Def P w K mg base 2 "_law_results" ["_law_cell", "_law_many"] (spD K m_q9)) (D_q37:Def P w K mg base 9 "telling" ["rows", "combination"] (spD K m_q37)) (D_q31:Def P w K mg base 4 "spread" ["weights"] (spD K m_q31)) (D_q6:Def P w K mg base 1 "_law_fraction" ["_law_top", "_law_bottom"] (spD K m_q6)) (D_q32:Def P w K mg base 11 "squares" ["levels", "plan", "model", "results"] (spD K m_q32)) (F:Fun K "_law_right" "_law_right" s_q10 f fd):FnOk P w K mg base CX0 12 f fd ["_law_cell", "_law_table"] (spD K m_q10):=by
 have sc:=sc_q10
 exact fnD F sc_q10 rfl rfl fun cdv A outer s H E hr=>
  (dss_cons (ds_set 2 (de_blt (call_min2 rfl) cd_min bt_min B.min (dq_cons (DE.dp (de_sub (DE.dp (de_blt call_len_seq cd_len bt_len B.len (dq_cons (dp_var 1) dq_nil))) (DE.dp de_int))) (dq_cons (DE.dp (de_add (DE.dp de_int) (DE.dp (de_mod (dp_var 0) (DE.dp de_int))))) dq_nil))) sc.nd)
  (dss_cons (ds_setC (N':= ["_law_things", "_law_trial"]) (R':=PR K) cx_scope1 cx_names1 3 [some 2,none] (subE [some 2,none]) pr_sub sc.nd (di_seq (de_call D_q27 hr (da_cons (de_var 1) da_nil))) (fun _=>(dgk_name 1 (show List.Nodup (α:=Str) ["_law_things", "_law_trial"] by decide +kernel))) (fun _=>dts_nil) (fun _=>(de_slW (dp_var 1) do_none (do_some (dp_var 0)))))
  (dss_cons (ds_setC (N':= ["_law_k"]) (R':=PR K) cx_scope1 cx_names1 4 [none] (subE [none]) pr_sub sc.nd (di_range1 B.range (dq_cons (dp_var 2) dq_nil)) (fun _=>(dgk_name 0 (show List.Nodup (α:=Str) ["_law_k"] by decide +kernel))) (fun _=>dts_nil) (fun _=>de_int))
  (dss_cons (ds_set 5 (de_add (DE.dp (de_lst (da_cons (de_tup da_nil) da_nil))) (DE.dp (de_lc (N':= ["_law_k"]) (R':=PR K) cx_scope1 cx_names1 [none] (subE [none]) pr_sub (di_range1 B.range (dq_cons (dp_var 2) dq_nil)) (fun _=>(dgk_name 0 (show List.Nodup (α:=Str) ["_law_k"] by decide +kernel))) (fun _=>dts_nil) (fun _=>(de_tup (da_cons (de_var 0) da_nil)))))) sc.nd)
  (dss_cons (ds_if (dt_eq hr.units (DE.dp (de_mod (DE.dp (de_fdiv (dp_var 0) (DE.dp de_int))) (DE.dp de_int))) (DE.dp de_int)) (dss_one (ds_set 5 (de_rvs (dp_var 5) (DE.dp (de_neg (DE.dp de_int)))) sc.nd)) dss_nil)
  (dss_cons (ds_frz 3 (ds_frz 5 (ds_frz 4 (ds_set 6 (de_call D_q36 hr (da_cons (de_var 4) (da_cons (de_var 3) (da_cons (de_var 5) da_nil)))) sc.nd))))
  (dss_cons (ds_set 7 (de_blt call_len_seq cd_len bt_len B.len (dq_cons (dp_var 3) dq_nil)) sc.nd)
  (dss_cons (ds_frz 7 (ds_set 8 (de_call D_q9 hr (da_cons (de_fdiv (dp_var 0) (DE.dp de_int)) (da_cons (de_var 7) da_nil))) sc.nd))
  (dss_cons (ds_set 9 (de_lst da_nil) sc.nd)
  (dss_cons (ds_for PassesOwn.never (di_range1 B.range (dq_cons (DE.dp (de_blt call_len_seq cd_len bt_len B.len (dq_cons (dp_var 5) dq_nil))) dq_nil)) (dg_name 10 sc.nd) (dss_cons (ds_frz 6 (ds_set 11 (de_call D_q37 hr (da_cons (de_var 6) (da_cons (de_lc (N':= ["_law_j", "_law_k"]) (R':=PR K) cx_scope1 cx_names1 [some 10,none] (subE [some 10,none]) pr_sub (di_range1 B.range (dq_cons (DE.dp (de_blt call_len_seq cd_len bt_len B.len (dq_cons (dp_var 5) dq_nil))) dq_nil)) (fun _=>(dgk_name 1 (show List.Nodup (α:=Str) ["_law_j", "_law_k"] by decide +kernel))) (fun _=>dts_nil) (fun _=>(de_ty call_int1 cd_int bt_int B.int (dq_cons (DE.dp (de_eq hr.units (dp_var 1) (dp_var 0))) dq_nil)))) da_nil))) sc.nd))
  (dss_cons (ds_frz 6 (ds_frz 7 (ds_if (dt_w (dw_or (dt_ne hr.units (dp_var 11) (DE.dp (de_tup (da_cons de_str (da_cons (de_lc (N':= ["_law_j", "_law_many", "_law_row"]) (R':=PR K) cx_scope1 cx_names1 [some 10,some 7,none] (subE [some 10,some 7,none]) pr_sub (di_seq (de_var 6)) (fun _=>(dgk_name 2 (show List.Nodup (α:=Str) ["_law_j", "_law_many", "_law_row"] by decide +kernel))) (fun _=>dts_nil) (fun _=>(de_call D_q6 hr (da_cons (de_ix (dp_var 2) (dp_var 0)) (da_cons (de_var 1) da_nil))))) da_nil))))) (dw_or1 (dt_ne hr.units (DE.dp (de_call D_q31 hr (da_cons (de_ix (dp_var 11) (DE.dp de_int)) da_nil))) (DE.dp (de_tup (da_cons de_int (da_cons (de_var 7) da_nil)))))))) (dss_one (ds_ret de_bool)) dss_nil)))
  (dss_cons (ds_frz 6 (ds_frz 8 (ds_set 12 (de_blt (call_sum rfl) cd_sum bt_sum B.sum (dq_cons (DE.dp (de_lc (N':= ["_law_j", "_law_row", "_law_y"]) (R':=PR K) cx_scope1 cx_names1 [some 10,none,none] (subE [some 10,none,none]) pr_sub (di_zipS B.zip (da_cons (de_var 6) (da_cons (de_var 8) da_nil))) (fun _=>(dgk_tup (dgks_cons (dgk_name 1 (show List.Nodup (α:=Str) ["_law_j", "_law_row", "_law_y"] by decide +kernel)) (dgks_cons (dgk_name 2 (show List.Nodup (α:=Str) ["_law_j", "_law_row", "_law_y"] by decide +kernel)) dgks_nil)))) (fun _=>dts_nil) (fun _=>(de_mul (DE.dp (de_ix (dp_var 1) (dp_var 0))) (dp_var 2))))) dq_nil)) sc.nd)))
  (dss_one (ds_frz 7 (ds_app 9 (de_tup (da_cons (de_ix (dp_var 5) (dp_var 10)) (da_cons (de_call D_q6 hr (da_cons (de_mul (dp_var 12) (dp_var 12)) (da_cons (de_var 7) da_nil))) da_nil))))))))))
  (dss_one (ds_frz 8 (ds_frz 3 (ds_frz 5 (ds_frz 4 (ds_ret (de_eq hr.units (DE.dp (de_sl (DE.dp (de_call D_q32 hr (da_cons (de_var 4) (da_cons (de_var 3) (da_cons (de_var 5) (da_cons (de_var 8) da_nil)))))) do_none (do_some (DE.dp (de_blt call_len_seq cd_len bt_len B.len (dq_cons (dp_var 5) dq_nil)))))) (dp_var 9))))))))))))))))))
def b_law : En -> Option Out :=
 (mSeq (mFor (mItemsS (mBin dAdd (mSl (mPk 0) mNoPart (mPart (mK (.int 5)))) (mLst (mCons (mK (.int 0)) mNil)))) (gVar 1) (mSeq (mAsg 2 (mCall m_q5 (mCons (mBin dAdd (mK (.int 2)) (mBin dMod (mBin dFdiv (mPk 1) (mK (.int 2))) (mK (.int 2)))) mNil)))
 (mSeq (mIf (mTest (mBin deq (mBin dMod (mPk 1) (mK (.int 3))) (mK (.int 0)))) (mAsg 2 (mCall m_q26 (mCons (mBin dix (mLst (mCons (mK (.int 3)) (mCons (mK (.int 7)) mNil))) (mBin dMod (mBin dFdiv (mPk 1) (mK (.int 3))) (mK (.int 2)))) mNil))) mNext)
 (mFrz 2 (mIf (mNot (mTest (mCall m_q10 (mCons (mBin dFdiv (mPk 1) (mK (.int 5))) (mCons (mCall m_q8 (mCons (mBin dFdiv (mPk 1) (mK (.int 6))) (mCons (mVar 2) mNil))) mNil))))) (mRet (mK (.bool false))) mNext)))))
 (mRet (mK (.bool true))))
def m_law:List PyData->Option Sl:=runD 3 b_law 1
theorem ok_law (B:Bl mg) (D_q5:Def P w K mg base 1 "_law_base" ["_law_cell"] (spD K m_q5)) (D_q26:Def P w K mg base 1 "of_prime" ["p"] (spD K m_q26)) (D_q10:Def P w K mg base 12 "_law_right" ["_law_cell", "_law_table"] (spD K m_q10)) (D_q8:Def P w K mg base 3 "_law_mixed_up" ["_law_cell", "_law_table"] (spD K m_q8)) (F:Fun K "law" "law" s_law f fd):FnOk P w K mg base CX0 13 f fd ["_law_script"] (spD K m_law):=by
 have sc:=sc_law
 exact fnD F sc_law rfl rfl fun cdv A outer s H E hr=>
  (dss_cons (ds_for PassesOwn.never (di_seq (de_add (DE.dp (de_sl (dp_var 0) do_none (do_some (DE.dp de_int)))) (DE.dp (de_lst (da_cons de_int da_nil))))) (dg_name 1 sc.nd) (dss_cons (ds_set 2 (de_call D_q5 hr (da_cons (de_add (DE.dp de_int) (DE.dp (de_mod (DE.dp (de_fdiv (dp_var 1) (DE.dp de_int))) (DE.dp de_int)))) da_nil)) sc.nd)
  (dss_cons (ds_if (dt_eq hr.units (DE.dp (de_mod (dp_var 1) (DE.dp de_int))) (DE.dp de_int)) (dss_one (ds_set 2 (de_call D_q26 hr (da_cons (de_ix (DE.dp (de_lst (da_cons de_int (da_cons de_int da_nil)))) (DE.dp (de_mod (DE.dp (de_fdiv (dp_var 1) (DE.dp de_int))) (DE.dp de_int)))) da_nil)) sc.nd)) dss_nil)
  (dss_one (ds_frz 2 (ds_if (dt_not (dt_val (DE.dp (de_call D_q10 hr (da_cons (de_fdiv (dp_var 1) (DE.dp de_int)) (da_cons (de_call D_q8 hr (da_cons (de_fdiv (dp_var 1) (DE.dp de_int)) (da_cons (de_var 2) da_nil))) da_nil)))))) (dss_one (ds_ret de_bool)) dss_nil))))))
  (dss_one (ds_ret de_bool)))
end
local macro_rules | `(tactic| walk_at "ev") => `(tactic| simp only [mSeq, mIf, mTest, mBin, mUn, mK, mPk, mVar, mAsg, mRet, mRetN, mCall, mCons, mNil, mCallP, mConsP, mNilP, mTup, mLst, mOr, mAnd, mNot, mNotV, mAndV, mOrV, mIfE, mNext, mBrk, mCt, mDrop, mApp, mSet, mFrz, frz1, mPar, mAsgT, gVar, gTupD, gsAll, mItems, mItemsT, mSl, mPart, mNoPart, mDat, Sl.dat, mYes, mIsi, tyD, isiD, iop, icmp, iun, dAddI, dSub, dAdd, dLt, dLe, dGt, dGe, deq, dne, disN, disNN, isNone, dix, dLen, dAbs, dList, dTuple, dInt, dSl, Option.bind_some, Option.map_some, Option.join_some, Option.some.injEq, List.getElem?_cons_zero, List.getElem?_cons_succ, List.set_cons_zero, List.set_cons_succ, List.length_cons, List.length_nil, eqD_int, List.cons_append, List.nil_append, List.append_nil, List.map_cons, List.map_nil, if_true, if_false, Bool.false_eq_true, reduceIte, reduceCtorEq, Bool.not_true, Bool.not_false, decide_true, decide_false])
theorem run_gd(a b:Int):m_q23 [.int a, .int b]=some (.val (.int (Int.gcd a b))):=by
 refine runD_rt (ρ:= [some (.val (.int a)),some (.val (.int b)),none]) rfl rfl ?_;unfold b_q23
 obtain ⟨ρ',h1,⟨x,y,r,rfl,hg⟩,h3⟩:=while_inv (c:=mTest (mBin dne (mPk 1) (mK (.int 0)))) (b:=(mSeq (mAsg 2 (mBin dMod (mPk 0) (mPk 1))) (mSeq (mAsg 0 (mVar 1)) (mFrz 2 (mAsg 1 (mVar 2))))))
  (ρ:= [some (.val (.int a)),some (.val (.int b)),none]) (fun ρ=>∃x y r,ρ = [some (.val (.int x)),some (.val (.int y)),r]/\Int.gcd x y=Int.gcd a b)
  (fun ρ=>match ρ with | [_,some (.val (.int y)),_]=>y.natAbs | _=>0) ⟨a,b,none,rfl,rfl⟩ (by
   rintro ρ ⟨x,y,r,rfl,hg⟩
   by_cases hy:y=0
   . left
     walk_at "ev"
     simp [hy]
   . right;refine ⟨by walk_at "ev";simp [hy],_,by walk_at "ev";rw [modS hy];walk_at "ev";rfl,⟨_,_,_,rfl,(gcd_fmod x y).trans hg⟩,fmod_lt hy⟩)
 refine rts_seq h1 (rts_ret ?_)
 have hy:y=0:=by
  revert h3
  walk_at "ev"
  simp
 subst hy
 walk_at "ev"
 congr 3
 rw [<-hg,Int.gcd_zero_right]
 split <;> omega
theorem run_frac{a b:Int}(hb:b≠0)(hB:Bt 9000 b):m_q21 [.int a, .int b]=some (.val (encF (fr a b))):=by
 refine runD_rt (ρ:= [some (.val (.int a)),some (.val (.int b)),none]) rfl rfl ?_;unfold b_q21;have hs:=sg_ne (a:=a) hb;have hS:=sg_bt (a:=a) hb hB;refine rts_seq (asg_to (call_to (by walk_at "ev") (run_gd a b))) ?_;refine rts_seq (ρ':= [some (.val (.int a)),some (.val (.int b)),some (.val (.int (sg a b)))]) ?_ ?_
 . walk_at "ev"
   unfold sg
   by_cases h:b<0 <;> simp [h]
 . refine rts_ret ?_
   walk_at "ev"
   rw [divS ⟨hs,hS⟩,divS ⟨hs,hS⟩]
   walk_at "ev"
   rfl
open Ba in
def rowD(m:Nat)(r:Nat->Int):PyData:= .list ((List.range m).map fun j=> .int (r j))
def matD(n m:Nat)(R:Ba.Mx):List PyData:=(List.range n).map fun i=>rowD m (R i)
def ldD(k:Nat)(L:Nat->Nat):List PyData:=(List.range k).map fun t=> .int (L t)
def flds(n m:Nat)(R:Ba.Mx)(k:Nat)(L:Nat->Nat)(last:Int):En:= [some (.own (matD n m R)),some (.own (ldD k L)),some (.val (.int last))]
theorem atI_range{α:Type}{f:Nat->α}{n i:Nat}(h:i<n):atI ((List.range n).map f) (i:Int)=some (f i):=L2.atI_nat (by rw [List.getElem?_map,List.getElem?_range h];rfl)
theorem atI_mat{n m i:Nat}{R:Ba.Mx}(h:i<n):atI (matD n m R) (i:Int)=some (rowD m (R i)):=atI_range h
theorem len_mat{n m:Nat}{R:Ba.Mx}:(matD n m R).length=n:=by simp [matD]
theorem len_ld{k:Nat}{L:Nat->Nat}:(ldD k L).length=k:=by simp [ldD]
theorem set_range{α:Type}{f:Nat->α}{n k:Nat}{x:α}:((List.range n).map f).set k x=(List.range n).map fun i=>if i=k then x else f i:=by
 refine List.ext_getElem? fun i=> ?_;rw [List.getElem?_set,List.getElem?_map,List.getElem?_map]
 by_cases hi:i<n
 . rw [List.getElem?_range hi]
   by_cases e:k=i
   . subst e;simp [hi]
   . simp [e,Ne.symm e]
 . rw [List.getElem?_eq_none (l:=List.range n) (by simpa using hi)]
   split
   . rename_i e;subst e;simp [hi]
   . rfl
theorem mat_set{n m k:Nat}{R:Ba.Mx}{r:Nat->Int}:(matD n m R).set k (rowD m r)=matD n m (Ba.setR R k r):=by
 unfold matD;rw [set_range];refine List.map_congr_left fun i _=> ?_;unfold Ba.setR
 split <;> rfl
def stP(n m k c:Nat)(R:Ba.Mx)(L:Nat->Nat)(last:Int)(z:Option Sl):En:= [none,some (.val (.int k)),some (.val (.int c)),z,some (.own (matD n m R)),some (.own (ldD k L)),some (.val (.int last))]
theorem place_rg{n m k c:Nat}{R:Ba.Mx}{L:Nat->Nat}{last:Int}(hk:k<=n)(hn:n<=1000):mRng2 (mConsP (mPk 1) (mConsP (mCallP dLen (mConsP (mPk 4) mNilP)) mNilP)) (stP n m k c R L last none)=some (rngD k (n - k)):=by
 refine rng2_to ?_ (by omega) hn;unfold stP
 walk_at "ev"
 rw [len_mat]
theorem place_test{n m k c i:Nat}{R:Ba.Mx}{L:Nat->Nat}{last:Int}(hi:i<n)(hc:c<m):(mTest (mBin dne (mBin dix (mBin dix (mPk 4) (mPk 3)) (mPk 2)) (mK (.int 0)))) (stP n m k c R L last (some (.val (.int (i:Int)))))=some (!decide (R i c=0)):=by
 unfold stP
 walk_at "ev"
 rw [atI_mat hi];simp only [rowD,Option.map_some,Option.bind_some,Sl.dat,atI_range hc,eqD_int]
theorem run_place {n m k c : Nat} {R : Ba.Mx} {L : Nat -> Nat} {last : Int} (hk : k <= n) (hc : c < m) (hn : n <= 1000) :
 (∃p,k<=p/\p<n/\R p c≠0/\m_q2 (flds n m R k L last) [.int k, .int c]=some (flds n m R k L last, .int p)) \/
 ((∀i,k<=i->i<n->R i c=0)/\m_q2 (flds n m R k L last) [.int k, .int c]=some (flds n m R k L last, .none)):=by
 have key:=forM_find (fg:=gVar 3) (gb:=mIf (mTest (mBin dne (mBin dix (mBin dix (mPk 4) (mPk 3)) (mPk 2)) (mK (.int 0)))) (mRet (mPk 3)) mNext) (lo:=k) (n:=n - k) (ρ:=stP n m k c R L last none)
  (fun i ρ=>(∃z,ρ=stP n m k c R L last z)/\∀t,t<i->R (k+t) c=0) (fun o=>∃p z,k<=p/\p<n/\R p c≠0/\o = .rt (.val (.int (p:Nat))) (stP n m k c R L last z)) ⟨⟨none,rfl⟩,fun t h=>absurd h (by omega)⟩ (by
   rintro i ρ hi ⟨⟨z,rfl⟩,hz⟩;refine ⟨stP n m k c R L last (some (.val (.int ((k:Int)+(i:Nat))))),rfl,?_⟩;have e:(k:Int)+(i:Nat)=((k+i:Nat):Int):=by omega
   rw [e];have test:=place_test (k:=k) (i:=k+i) (R:=R) (L:=L) (last:=last) (show k+i<n by omega) hc
   by_cases h:R (k+i) c=0
   . left;refine ⟨stP n m k c R L last (some (.val (.int ((k+i:Nat):Int)))),if_to (b:=false) (by rw [test];simp [h]) (by rfl),⟨_,rfl⟩,fun t ht=> ?_⟩
     by_cases e2:t=i
     . subst e2;exact h
     . exact hz t (by omega)
   . right;exact ⟨.val (.int ((k+i:Nat):Int)),stP n m k c R L last (some (.val (.int ((k+i:Nat):Int)))),if_to (b:=true) (by rw [test];simp [h]) (by rfl),k+i,_,by omega,by omega,h,rfl⟩)
 rcases key with ⟨ρ',h1,⟨z,rfl⟩,h2⟩ | ⟨o,h1,p,z,hp,hpn,hr,rfl⟩
 . right;refine ⟨fun i h3 h4=>by have:=h2 (i - k) (by omega);rwa [show k+(i - k)=i by omega] at this,?_⟩;exact runM_rt (ρ:=stP n m k c R L last none) (ρ':=stP n m k c R L last z) rfl rfl rfl (seq_to (for_to (place_rg hk hn) h1) (ret_to rfl))
 . left;refine ⟨p,hp,hpn,hr,?_⟩;exact runM_rt (ρ:=stP n m k c R L last none) (ρ':=stP n m k c R L last z) rfl rfl rfl (seq_rt (for_to (place_rg hk hn) h1))
theorem dix_mat{n m i:Nat}{R:Ba.Mx}(h:i<n):dix (.own (matD n m R)) (.val (.int (i:Int)))=some (.val (rowD m (R i))):=by
 show (atI (matD n m R) (i:Int)).map Sl.val=_;rw [atI_mat h];rfl
theorem dix_row{m j:Nat}{r:Nat->Int}(h:j<m):dix (.val (rowD m r)) (.val (.int (j:Int)))=some (.val (.int (r j))):=by
 show (atI ((List.range m).map fun j=>PyData.int (r j)) (j:Int)).map Sl.val=_;rw [atI_range h];rfl
theorem ixN_nat{n k:Nat}(h:k<n):ixN n (k:Int)=some k:=by
 unfold ixN;rw [if_pos (by omega),if_pos (by omega)];simp
theorem run_exch {n m k p t : Nat} {R : Ba.Mx} {L : Nat -> Nat} {last : Int} (hk : k < n) (hp : p < n) (hm : m <= 1000) :
 m_q1 (flds n m R t L last) [.int k, .int p]=some (flds n m (if p=k then R else Ba.exch R k p) t L last, .none):=by
 by_cases e:p=k
 . subst e;rw [if_pos rfl];refine runM_rt (ρ:= [none,some (.val (.int (p:Nat))),some (.val (.int (p:Nat))),none,some (.own (matD n m R)),some (.own (ldD t L)),some (.val (.int last))]) (ρ':= [none,some (.val (.int (p:Nat))),some (.val (.int (p:Nat))),none,some (.own (matD n m R)),some (.own (ldD t L)),some (.val (.int last))]) rfl rfl rfl ?_;unfold b_q1;refine seq_rt (if_to (b:=true) ?_ rfl)
   walk_at "ev"
 . rw [if_neg e];refine runM_nx (ρ:= [none,some (.val (.int (k:Nat))),some (.val (.int (p:Nat))),none,some (.own (matD n m R)),some (.own (ldD t L)),some (.val (.int last))]) (ρ':= [none,some (.val (.int (k:Nat))),some (.val (.int (p:Nat))),some (.val (rowD m fun j=> - R k j)),some (.own (matD n m (Ba.exch R k p))),some (.own (ldD t L)),some (.val (.int last))]) rfl rfl rfl ?_;unfold b_q1;refine seq_to (if_to (b:=false) ?_ rfl) ?_
   . walk_at "ev"
     have:¬((p:Int)=(k:Int)):=by omega
     simp [this]
   refine seq_to (asg_to (lc_to (ds:=(List.range m).map fun j=> .int (R k j)) (es:=(List.range m).map fun j=> .int (- R k j)) ?_ ?_ ?_)) ?_
   . simp only [mItems,mBin,mPk,List.getElem?_cons_zero,List.getElem?_cons_succ,Option.join_some,Option.bind_some,dix_mat hk];rfl
   . rw [List.length_map,List.length_range];have:1000<sizeLine:=by decide
     omega
   . refine compM_map fun j _=> ?_;rfl
   refine seq_to (ρ':= [none,some (.val (.int (k:Nat))),some (.val (.int (p:Nat))),some (.own ((List.range m).map fun j=> .int (- R k j))),some (.own (matD n m (Ba.setR R k (R p)))),some (.own (ldD t L)),some (.val (.int last))]) ?_ ?_
   . simp only [mSet,mBin,mPk,List.set_cons_succ,List.set_cons_zero,List.getElem?_cons_zero,List.getElem?_cons_succ,Option.join_some,Option.bind_some,dix_mat hp,len_mat,ixN_nat hk,Option.map_some,Sl.dat,mat_set]
   . simp only [mFrz,frz1,mSet,mVar,mPk,List.set_cons_succ,List.set_cons_zero,List.getElem?_cons_zero,List.getElem?_cons_succ,Option.join_some,Option.bind_some,len_mat,ixN_nat hp,Option.map_some,Sl.dat];show some (Out.nx [none,some (.val (.int (k:Nat))),some (.val (.int (p:Nat))),some (.val (rowD m fun j=> - R k j)),some (.own ((matD n m (Ba.setR R k (R p))).set p (rowD m fun j=> - R k j))),some (.own (ldD t L)),some (.val (.int last))])=_;rw [mat_set];rfl
theorem zip_range{m:Nat}{f g:Nat->PyData}:zipD ((List.range m).map f) ((List.range m).map g)=(List.range m).map fun j=> .tuple [f j,g j]:=by
 unfold zipD;refine List.ext_getElem? fun i=> ?_;rw [List.getElem?_zipWith,List.getElem?_map,List.getElem?_map,List.getElem?_map]
 cases h:(List.range m)[i]? <;> rfl
theorem run_cleared {m c : Nat} {r l : Nat -> Int} {last : Int} (hc : c < m) (hm : m <= 1000) (hr : ∀ j, j < m -> Bt 4000 (r j)) (hl : ∀ j, j < m -> Bt 4000 (l j)) (h0 : last ≠ 0) (hB : Bt 9000 last) :
 m_q14 [rowD m r,rowD m l, .int c, .int last]=some (.own ((List.range m).map fun j=> .int ((l c*r j - r c*l j).fdiv last))):=by
 have M:∀ {i j:Int},Bt 4000 i->Bt 4000 j->CMulA i j:=fun h k=> .inr (cmulC h k rfl);refine runD_rt (ρ:= [some (.val (rowD m r)),some (.val (rowD m l)),some (.val (.int (c:Nat))),some (.val (.int last)),none,none]) rfl rfl ?_;unfold b_q14;refine rts_seq (asg_to (r:= .val (.int (l c))) ?_) ?_
 . simp only [mBin,mPk,List.getElem?_cons_zero,List.getElem?_cons_succ,Option.join_some,Option.bind_some,dix_row hc]
 refine rts_seq (asg_to (r:= .val (.int (r c))) ?_) ?_
 . simp only [mBin,mPk,List.set_cons_succ,List.set_cons_zero,List.getElem?_cons_zero,List.getElem?_cons_succ,Option.join_some,Option.bind_some,dix_row hc]
 refine rts_ret (lc_to (ds:=(List.range m).map fun j=> .tuple [.int (r j), .int (l j)]) ?_ ?_ ?_)
 . rw [<-zip_range];rfl
 . rw [List.length_map,List.length_range];have:1000<sizeLine:=by decide
   omega
 . refine compM_map fun j hj=> ?_;have hj:=List.mem_range.mp hj;show elM _ _ _ [some (.val (.int (l c))),some (.val (.int (r c))),some (.val (.int last)),none,none] _=_;unfold elM
   walk_at "ev"
   rw [mulS (M (hl c hc) (hr j hj)),mulS (M (hr c hc) (hl j hj))]
   walk_at "ev"
   rw [divS ⟨h0,hB⟩]
   walk_at "ev"
theorem cut_from{f:Nat->PyData}{n k:Nat}(h:k<=n):cutD ((List.range n).map f) (some (k:Int)) none=(List.range (n - k)).map fun i=>f (k+i):=by
 unfold cutD;rw [HT.sIx_none,HT.sIx_nat,List.length_map,List.length_range,Nat.min_eq_left h];refine List.ext_getElem? fun i=> ?_;rw [List.getElem?_take,List.getElem?_drop,List.getElem?_map,List.getElem?_map]
 by_cases hi:i<n - k
 . rw [if_pos hi,List.getElem?_range hi,List.getElem?_range (show k+i<n by omega)];rfl
 . rw [if_neg hi,List.getElem?_eq_none (l:=List.range (n - k)) (by simpa using hi)];rfl
theorem cut_upto{f:Nat->PyData}{n k:Nat}(h:k<=n):cutD ((List.range n).map f) none (some (k:Int))=(List.range k).map f:=by
 unfold cutD;rw [HT.sIx_none,HT.sIx_nat,List.length_map,List.length_range,Nat.min_eq_left h,List.drop_zero,Nat.sub_zero];refine List.ext_getElem? fun i=> ?_;rw [List.getElem?_take,List.getElem?_map,List.getElem?_map]
 by_cases hi:i<k
 . rw [if_pos hi,List.getElem?_range hi,List.getElem?_range (show i<n by omega)]
 . rw [if_neg hi,List.getElem?_eq_none (l:=List.range k) (by simpa using hi)];rfl
theorem range_app{f g:Nat->PyData}{n k:Nat}(h:k<=n):(List.range k).map f++(List.range (n - k)).map (fun i=>g (k+i))=(List.range n).map fun i=>if i<k then f i else g i:=by
 refine List.ext_getElem? fun i=> ?_;rw [List.getElem?_map]
 by_cases hi:i<k
 . rw [List.getElem?_append_left (by simpa using hi),List.getElem?_map,List.getElem?_range hi,List.getElem?_range (show i<n by omega)];simp [hi]
 . rw [List.getElem?_append_right (by simpa using hi),List.getElem?_map,List.length_map,List.length_range]
   by_cases h2:i<n
   . rw [List.getElem?_range h2,List.getElem?_range (show i - k<n - k by omega)];simp only [Option.map_some,if_neg hi,show k+(i - k)=i by omega]
   . rw [List.getElem?_eq_none (l:=List.range (n - k)) (by simp;omega),List.getElem?_eq_none (l:=List.range n) (by simp;omega)];rfl
theorem ld_snoc{k c:Nat}{L:Nat->Nat}:ldD k L ++ [.int (c:Int)]=ldD (k+1) (fun t=>if t=k then c else L t):=by
 unfold ldD;rw [List.range_succ,List.map_append];congr 1
 . refine List.map_congr_left fun t ht=> ?_;have:=List.mem_range.mp ht;show _=PyData.int ((if t=k then c else L t:Nat):Int);rw [if_neg (by omega)]
 . simp
theorem bt_of{x:Int}{Y n:Nat}(h:x.natAbs<=(32*Y) ^ n)(hY:(32*Y) ^ n<2 ^ 4000):Bt 4000 x:=Nat.lt_of_le_of_lt h hY
def stepR(R:Ba.Mx)(k c:Nat)(last:Int):Ba.Mx:=fun i j=>if i<k+1 then R i j else (Ba.clr R k c i j).fdiv last
theorem run_step {n m Y k c : Nat} {A R B : Ba.Mx} {L : Nat -> Nat} {last : Int} (I : Ba.BI n m A R k L last c B) (hc : c < m) (hn : n <= 32) (hm : m <= 1000) (hY1 : 1 <= Y) (hY : (32 * Y) ^ n < 2 ^ 4000) (hA : ∀ i, i < n -> ∀ j, j < m -> (A i j).natAbs <= Y) :
 ∃R' k' L' last' B',Ba.BI n m A R' k' L' last' (c+1) B'/\m_q4 (flds n m R k L last) [.int c]=some (flds n m R' k' L' last', .none):=by
 have sl:3000<sizeLine:=by decide
 rcases run_place (L:=L) (last:=last) (R:=R) I.kn hc (show n<=1000 by omega) with ⟨p,hkp,hpn,hR,pl⟩ | ⟨hz,pl⟩
 . have hk:k<n:=by omega
   obtain ⟨R1,hR1,B1,I1,hl⟩:∃R1,R1=(if p=k then R else Ba.exch R k p)/\∃B1,Ba.BI n m A R1 k L last c B1/\R1 k c≠0:=by
    by_cases e:p=k
    . subst e;exact ⟨R,by rw [if_pos rfl],B,I,hR⟩
    . exact ⟨Ba.exch R k p,by rw [if_neg e],_,I.exch (by omega) hpn,by rw [Ba.exch_r (Ne.symm e)];exact hR⟩
   have ex:=run_exch (t:=k) (R:=R) (L:=L) (last:=last) hk hpn hm;rw [<-hR1] at ex
   obtain ⟨bR,bl⟩:=I1.bound hn hY1 hA;have BR:∀i,i<n->∀j,j<m->Bt 4000 (R1 i j):=fun i hi j hj=>bt_of (bR i hi j hj) hY;have Bl:Bt 9000 last:=(bt_of bl hY).mono (by decide)
   have st2:Ba.BI n m A (stepR R1 k c last) (k+1) (fun t=>if t=k then c else L t) (R1 k c) (c+1) B1:=by
    refine I1.step hc hk hl (fun i hi j hj=> ?_) (fun i h1 h2 j hj=> ?_)
    . unfold stepR;rw [if_pos (by omega)]
    . unfold stepR;rw [if_neg (by omega)];have:=(I1.exact hc hk hl h1 h2).2 j hj;rw [this];rw [Int.mul_fdiv_cancel_left _ I1.nz]
   refine ⟨stepR R1 k c last,k+1,fun t=>if t=k then c else L t,R1 k c,B1,st2,?_⟩
   have mat2:(List.range (k+1)).map (fun i=>rowD m (R1 i))++(List.range (n - (k+1))).map (fun i=>rowD m fun j=>(Ba.clr R1 k c (k+1+i) j).fdiv last)=matD n m (stepR R1 k c last):=by
    rw [range_app (g:=fun i=>rowD m fun j=>(Ba.clr R1 k c i j).fdiv last) (show k+1<=n by omega)];unfold matD;refine List.map_congr_left fun i _=> ?_
    by_cases hi:i<k+1
    . rw [if_pos hi];unfold stepR rowD;simp only [if_pos hi]
    . rw [if_neg hi];unfold stepR rowD;simp only [if_neg hi]
   refine runM_nx (ρ:= [none,some (.val (.int (c:Nat))),none,none,none,none,some (.own (matD n m R)),some (.own (ldD k L)),some (.val (.int last))])
    (ρ':= [none,some (.val (.int (c:Nat))),some (.val (.int (k:Nat))),some (.val (.int (p:Nat))),some (.val (rowD m (R1 k))),some (.own ((List.range (n - (k+1))).map fun i=>rowD m fun j=>(Ba.clr R1 k c (k+1+i) j).fdiv last)),some (.own (matD n m (stepR R1 k c last))),some (.own (ldD (k+1) (fun t=>if t=k then c else L t))),some (.val (.int (R1 k c)))]) rfl rfl rfl ?_
   unfold b_q4;refine seq_to (ρ':= [none,some (.val (.int (c:Nat))),some (.val (.int (k:Nat))),none,none,none,some (.own (matD n m R)),some (.own (ldD k L)),some (.val (.int last))]) ?_ ?_
   . walk_at "ev"
     rw [len_ld]
   refine seq_to (ρ':= [none,some (.val (.int (c:Nat))),some (.val (.int (k:Nat))),some (.val (.int (p:Nat))),none,none,some (.own (matD n m R)),some (.own (ldD k L)),some (.val (.int last))]) ?_ ?_
   . show mMeth 6 _ _ _ [none,some (.val (.int (c:Nat))),some (.val (.int (k:Nat))),none,none,none,some (.own (matD n m R)),some (.own (ldD k L)),some (.val (.int last))]=_;unfold mMeth
     walk_at "ev"
     show Option.bind (m_q2 (flds n m R k L last) [.int (k:Nat), .int (c:Nat)]) _=_;rw [pl];rfl
   refine seq_to (if_to (b:=false) (by walk_at "ev") rfl) ?_;refine seq_to (ρ':= [none,some (.val (.int (c:Nat))),some (.val (.int (k:Nat))),some (.val (.int (p:Nat))),none,none,some (.own (matD n m R1)),some (.own (ldD k L)),some (.val (.int last))]) ?_ ?_
   . simp only [mFrz,frz1,List.getElem?_cons_zero,List.getElem?_cons_succ,Option.join_some];unfold mMeth
     walk_at "ev"
     show Option.bind (m_q1 (flds n m R k L last) [.int (k:Nat), .int (p:Nat)]) _=_;rw [ex];rfl
   refine seq_to (asg_to (r:= .val (rowD m (R1 k))) ?_) ?_
   . simp only [mBin,mPk,List.getElem?_cons_zero,List.getElem?_cons_succ,Option.join_some,Option.bind_some,dix_mat hk]
   refine seq_to (ρ':= [none,some (.val (.int (c:Nat))),some (.val (.int (k:Nat))),some (.val (.int (p:Nat))),some (.val (rowD m (R1 k))),some (.own ((List.range (n - (k+1))).map fun i=>rowD m fun j=>(Ba.clr R1 k c (k+1+i) j).fdiv last)),some (.own (matD n m R1)),some (.own (ldD k L)),some (.val (.int last))]) ?_ ?_
   . show mAsg 5 _ [none,some (.val (.int (c:Nat))),some (.val (.int (k:Nat))),some (.val (.int (p:Nat))),some (.val (rowD m (R1 k))),none,some (.own (matD n m R1)),some (.own (ldD k L)),some (.val (.int last))]=_;refine asg_to (lc_to (ds:=(List.range (n - (k+1))).map fun i=>rowD m (R1 (k+1+i))) ?_ ?_ ?_)
     . walk_at "ev"
       rw [show ((k:Int)+1)=((k+1:Nat):Int) from rfl];unfold matD;rw [cut_from (f:=fun i=>rowD m (R1 i)) (by omega)]
     . rw [List.length_map,List.length_range];omega
     . refine compM_map fun i hi=> ?_;have hi:=List.mem_range.mp hi;show elM _ _ _ [some (.val (rowD m (R1 k))),some (.val (.int (c:Nat))),none,none,some (.own (matD n m R1)),some (.own (ldD k L)),some (.val (.int last))] _=_;unfold elM
       walk_at "ev"
       rw [run_cleared hc hm (fun j hj=>BR _ (by omega) j hj) (fun j hj=>BR k hk j hj) I1.nz Bl];rfl
   refine seq_to (asg_to (r:= .own (matD n m (stepR R1 k c last))) ?_) ?_
   . walk_at "ev"
     rw [show ((k:Int)+1)=((k+1:Nat):Int) from rfl];show (if ((cutD (matD n m R1) none (some ((k+1:Nat):Int))).length+_)<=_ then some (Sl.own (cutD (matD n m R1) none (some ((k+1:Nat):Int))++_)) else none)=_;have c2:cutD (matD n m R1) none (some ((k+1:Nat):Int))=(List.range (k+1)).map fun i=>rowD m (R1 i):=cut_upto (by omega);rw [c2,mat2,if_pos];rw [List.length_map,List.length_map,List.length_range,List.length_range];omega
   refine seq_to (ρ':= [none,some (.val (.int (c:Nat))),some (.val (.int (k:Nat))),some (.val (.int (p:Nat))),some (.val (rowD m (R1 k))),some (.own ((List.range (n - (k+1))).map fun i=>rowD m fun j=>(Ba.clr R1 k c (k+1+i) j).fdiv last)),some (.own (matD n m (stepR R1 k c last))),some (.own (ldD (k+1) (fun t=>if t=k then c else L t))),some (.val (.int last))]) ?_ ?_
   . walk_at "ev"
     rw [if_pos (by rw [len_ld];omega),ld_snoc]
   . refine asg_to ?_;simp only [mBin,mPk,List.getElem?_cons_zero,List.getElem?_cons_succ,Option.join_some,Option.bind_some,dix_row hc]
 . refine ⟨R,k,L,last,B,I.none hc hz,?_⟩
   refine runM_rt (ρ:= [none,some (.val (.int (c:Nat))),none,none,none,none,some (.own (matD n m R)),some (.own (ldD k L)),some (.val (.int last))])
    (ρ':= [none,some (.val (.int (c:Nat))),some (.val (.int (k:Nat))),some (.val .none),none,none,some (.own (matD n m R)),some (.own (ldD k L)),some (.val (.int last))]) rfl rfl rfl ?_
   unfold b_q4;refine seq_to (ρ':= [none,some (.val (.int (c:Nat))),some (.val (.int (k:Nat))),none,none,none,some (.own (matD n m R)),some (.own (ldD k L)),some (.val (.int last))]) ?_ ?_
   . walk_at "ev"
     rw [len_ld]
   refine seq_to (ρ':= [none,some (.val (.int (c:Nat))),some (.val (.int (k:Nat))),some (.val .none),none,none,some (.own (matD n m R)),some (.own (ldD k L)),some (.val (.int last))]) ?_ ?_
   . show mMeth 6 _ _ _ [none,some (.val (.int (c:Nat))),some (.val (.int (k:Nat))),none,none,none,some (.own (matD n m R)),some (.own (ldD k L)),some (.val (.int last))]=_;unfold mMeth
     walk_at "ev"
     show Option.bind (m_q2 (flds n m R k L last) [.int (k:Nat), .int (c:Nat)]) _=_;rw [pl];rfl
   exact seq_rt (if_to (b:=true) (by walk_at "ev") rfl)
theorem run_init {n m Y : Nat} {A : Ba.Mx} (h1 : 1 <= n) (hn : n <= 32) (hm : m <= 1000) (hY1 : 1 <= Y) (hY : (32 * Y) ^ n < 2 ^ 4000) (hA : ∀ i, i < n -> ∀ j, j < m -> (A i j).natAbs <= Y) :
 ∃R k L last B,Ba.BI n m A R k L last m B/\m_q0 [none,none,none] [.list (matD n m A)]=some (flds n m R k L last, .none):=by
 obtain ⟨ρ',hf,z,R,k,L,last,B,rfl,I⟩:=forM_range (fg:=gVar 2) (gb:=mMeth 3 m_q4 (mCons (mVar 2) mNil) fun ρ _=>some (.nx ρ)) (lo:=0) (n:=m)
  (ρ:= [none,some (.val (.list (matD n m A))),none,some (.own (matD n m A)),some (.own (ldD 0 fun _=>0)),some (.val (.int 1))])
  (fun c ρ=>∃z R k L last B,ρ = [none,some (.val (.list (matD n m A))),z,some (.own (matD n m R)),some (.own (ldD k L)),some (.val (.int last))]/\Ba.BI n m A R k L last c B)
  ⟨none,A,0,fun _=>0,1,A,rfl,Ba.BI.start A⟩ (by
   rintro c ρ hc ⟨z,R,k,L,last,B,rfl,I⟩;obtain ⟨R',k',L',last',B',I',hs⟩:=run_step I hc hn hm hY1 hY hA;refine ⟨_,rfl,[none,some (.val (.list (matD n m A))),some (.val (.int (c:Nat))),some (.own (matD n m R')),some (.own (ldD k' L')),some (.val (.int last'))], .inl ?_,_,R',k',L',last',B',rfl,I'⟩;rw [show (0:Int)+(c:Nat)=((c:Nat):Int) from Int.zero_add _];unfold mMeth
   walk_at "ev"
   show Option.bind (m_q4 (flds n m R k L last) [.int (c:Nat)]) _=_;rw [hs];rfl)
 refine ⟨R,k,L,last,B,I,?_⟩;refine runM_nx (ρ:= [none,some (.val (.list (matD n m A))),none,none,none,none]) (ρ':= [none,some (.val (.list (matD n m A))),z,some (.own (matD n m R)),some (.own (ldD k L)),some (.val (.int last))]) rfl rfl rfl ?_;unfold b_q0;refine seq_to (asg_to (r:= .own (matD n m A)) rfl) (seq_to (asg_to (r:= .own []) rfl) (seq_to (asg_to (r:= .val (.int 1)) rfl) (for_to (rng1_to (j:=m) ?_ hm) hf)));show mConsP (mCallP dLen (mConsP (mBin dix (mPk 1) (mK (.int 0))) mNilP)) mNilP [none,some (.val (.list (matD n m A))),none,some (.own (matD n m A)),some (.own []),some (.val (.int 1))]=_
 have e:dix (.val (.list (matD n m A))) (.val (.int 0))=some (.val (rowD m (A 0))):=by
  show (atI (matD n m A) ((0:Nat):Int)).map Sl.val=_;rw [atI_mat (by omega)];rfl
 simp only [mConsP,mNilP,mCallP,mBin,mPk,mK,List.getElem?_cons_zero,List.getElem?_cons_succ,Option.join_some,Option.bind_some,e,dLen,Sl.dat,rowD,List.length_map,List.length_range]
abbrev Tb:=Nat->Nat->Int×Int
def frD(m:Nat)(r:Nat->Int×Int):PyData:= .list ((List.range m).map fun j=>encF (r j))
def tabD(n m:Nat)(t:Tb):PyData:= .list ((List.range n).map fun i=>frD m (t i))
def cbN(r:Nat->Int×Int):Nat->Int
 | 0=>1
 | j+1=>(cbN r j).fdiv (Int.gcd (cbN r j) (r j).2)*(r j).2
theorem cb_all{r:Nat->Int×Int}{D:Nat}:∀ {m:Nat},(∀j,j<m->0<(r j).2/\(r j).2.natAbs<=D)->0<cbN r m/\(cbN r m).natAbs<=D ^ m/\∀j,j<m->(r j).2 ∣ cbN r m
 | 0,_=>⟨show (0:Int)<1 by decide,by simp [cbN],fun j h=>absurd h (by omega)⟩
 | m+1,h=>by
  obtain ⟨h1,h2,h3⟩:=cb_all (m:=m) fun j hj=>h j (by omega);obtain ⟨h4,h5⟩:=h m (by omega);have hg:0<Int.gcd (cbN r m) (r m).2:=Int.gcd_pos_iff.mpr (.inl (by omega));have hd1:=Int.gcd_dvd_left (cbN r m) (r m).2;have hd2:=Int.gcd_dvd_right (cbN r m) (r m).2;have e0:cbN r (m+1)=(cbN r m).fdiv (Int.gcd (cbN r m) (r m).2)*(r m).2:=rfl;generalize Int.gcd (cbN r m) (r m).2=g at *
  generalize cbN r m=c at *
  obtain ⟨x,rfl⟩:=hd1;obtain ⟨y,hy⟩:=hd2;have gp:(0:Int)<(g:Int):=by omega
  have e:cbN r (m+1)=x*(r m).2:=by rw [e0,Int.mul_fdiv_cancel_left _ (by omega)]
  have xp:0<x:=by
   rcases (by omega:0<x\/x<=0) with p | p
   . exact p
   . have:=Int.mul_nonpos_of_nonneg_of_nonpos (Int.le_of_lt gp) p;omega
  have xle:x.natAbs<=((g:Int)*x).natAbs:=by
   rw [Int.natAbs_mul];exact Nat.le_mul_of_pos_left _ (by omega)
  refine ⟨by rw [e];exact Int.mul_pos xp h4,?_,fun j hj=> ?_⟩
  . rw [e,Int.natAbs_mul,Nat.pow_succ];exact Nat.mul_le_mul (Nat.le_trans xle h2) h5
  . rw [e]
    by_cases q:j=m
    . subst q;exact Int.dvd_mul_left _ _
    . have a:=h3 j (by omega)
      have b:(g:Int)*x ∣ x*(r m).2:=by
       rw [hy];exact ⟨y,by rw [Int.mul_comm (g:Int) x,Int.mul_assoc]⟩
      exact Int.dvd_trans a b
def whN(m:Nat)(r:Nat->Int×Int)(j:Nat):Int:=(r j).1*(cbN r m).fdiv (r j).2
theorem dix_f0(q:Int×Int):dix (.val (encF q)) (.val (.int 0))=some (.val (.int q.1)):=rfl
theorem dix_f1(q:Int×Int):dix (.val (encF q)) (.val (.int 1))=some (.val (.int q.2)):=rfl
theorem run_cb{m D:Nat}{r:Nat->Int×Int}(h:∀j,j<m->0<(r j).2/\(r j).2.natAbs<=D)(hD:D ^ m<2 ^ 4000)(hD1:1<=D)(hD2:D<2 ^ 4000):m_q17 [frD m r]=some (.val (.int (cbN r m))):=by
 obtain ⟨ρ',hf,z,rfl⟩:=forM_list (fg:=gVar 2) (gb:=(mFrz 1 (mAsg 1 (mBin dRep (mBin dFdiv (mPk 1) (mCall m_q23 (mCons (mVar 1) (mCons (mBin dix (mPk 2) (mK (.int 1))) mNil)))) (mBin dix (mPk 2) (mK (.int 1)))))))
  (ds:=(List.range m).map fun j=>encF (r j)) (ρ:= [some (.val (frD m r)),some (.val (.int 1)),none]) (fun i ρ=>∃z,ρ = [some (.val (frD m r)),some (.val (.int (cbN r i))),z]) ⟨none,rfl⟩ (by
   rintro i d ρ hd ⟨z,rfl⟩;rw [List.getElem?_map] at hd
   by_cases hi:i<m
   . rw [List.getElem?_range hi] at hd
     cases hd
     obtain ⟨c1,c2,c3⟩:=cb_all (r:=r) (D:=D) (m:=i) fun j hj=>h j (by omega);obtain ⟨h4,h5⟩:=h i hi;have b1:Bt 4000 (cbN r i):=Nat.lt_of_le_of_lt (Nat.le_trans c2 (Nat.pow_le_pow_right hD1 (by omega))) hD;have b2:Bt 4000 (r i).2:=Nat.lt_of_le_of_lt h5 hD2;have hg:0<Int.gcd (cbN r i) (r i).2:=Int.gcd_pos_iff.mpr (.inl (by omega))
     have b3:Bt 4000 ((Int.gcd (cbN r i) (r i).2:Nat):Int):=by
      refine b2.of_le ?_;have:=Int.natAbs_dvd_natAbs.mpr (Int.gcd_dvd_right (cbN r i) (r i).2);exact Nat.le_of_dvd (by omega) (by simpa using this)
     refine ⟨_,rfl,[some (.val (frD m r)),some (.val (.int (cbN r (i+1)))),some (.val (encF (r i)))], .inl ?_,_,rfl⟩;simp only [mFrz,frz1,mAsg,mBin,mPk,mVar,mK,mCall,mCons,mNil,List.set_cons_succ,List.set_cons_zero,List.getElem?_cons_zero,List.getElem?_cons_succ,Option.join_some,Option.bind_some,dix_f1,Sl.dat,run_gd];rw [divS ⟨by omega,b3.mono (by decide)⟩];simp only [Option.bind_some];rw [mulS (.inr (cmulC (n:=4000) (m:=4000) b1.fdiv b2 rfl))];rfl
   . rw [List.getElem?_eq_none (l:=List.range m) (by simpa using hi)] at hd;cases hd)
 rw [List.length_map,List.length_range] at hf
 refine runD_rt (ρ:= [some (.val (frD m r)),none,none]) rfl rfl ?_;unfold b_q17;refine rts_seq (asg_to (r:= .val (.int 1)) rfl) (rts_seq (for_to (ds:=(List.range m).map fun j=>encF (r j)) rfl hf) (rts_ret rfl))
theorem run_wr{m D:Nat}{r:Nat->Int×Int}(h:∀j,j<m->0<(r j).2/\(r j).2.natAbs<=D)(hT:∀j,j<m->Bt 4000 (r j).1)(hm:m<=1000)(hD:D ^ m<2 ^ 4000)(hD1:1<=D)(hD2:D<2 ^ 4000):m_q41 [frD m r]=some (.own ((List.range m).map fun j=> .int (whN m r j))):=by
 obtain ⟨c1,c2,c3⟩:=cb_all (r:=r) (D:=D) (m:=m) h;refine runD_rt (ρ:= [some (.val (frD m r)),none]) rfl rfl ?_;unfold b_q41;refine rts_seq (asg_to (call_to (ds:= [frD m r]) rfl (run_cb h hD hD1 hD2))) (rts_ret (lc_to (ds:=(List.range m).map fun j=>encF (r j)) rfl ?_ ?_))
 . rw [List.length_map,List.length_range];have:1000<sizeLine:=by decide
   omega
 . refine compM_map fun j hj=> ?_;have hj:=List.mem_range.mp hj;show elM _ _ _ [some (.val (.int (cbN r m))),none] _=_;unfold elM;obtain ⟨h4,h5⟩:=h j hj;have b1:Bt 4000 (cbN r m):=Nat.lt_of_le_of_lt c2 hD;have b2:Bt 4000 (r j).2:=Nat.lt_of_le_of_lt h5 hD2;simp only [gVar,mYes,mBin,mPk,mK,List.set_cons_succ,List.set_cons_zero,List.getElem?_cons_zero,List.getElem?_cons_succ,Option.join_some,Option.bind_some,dix_f0,dix_f1];rw [divS ⟨by omega,b2.mono (by decide)⟩];simp only [Option.bind_some];rw [mulS (.inr (cmulC (n:=4000) (m:=4000) (hT j hj) b1.fdiv rfl))];rfl
theorem fdiv_abs{a b:Int}(hb:0<b):(a.fdiv b).natAbs<=a.natAbs:=by
 rw [Int.fdiv_eq_ediv_of_nonneg a (Int.le_of_lt hb)];exact Int.natAbs_ediv_le_natAbs a b
def W(m:Nat)(t:Tb):Ba.Mx:=fun i=>whN m (t i)
structure TabOk (n m D T:Nat) (t:Tb):Prop where
 n1:1<=n
 n32:n<=32
 m1000:m<=1000
 D1:1<=D
 T1:1<=T
 bot:∀i,i<n->∀j,j<m->0<(t i j).2/\(t i j).2.natAbs<=D
 top:∀i,i<n->∀j,j<m->(t i j).1.natAbs<=T
 size:(32*(T*D ^ m)) ^ n<2 ^ 4000
theorem TabOk.TD{n m D T:Nat}{t:Tb}(k:TabOk n m D T t):T*D ^ m<2 ^ 4000:=by
 refine Nat.lt_of_le_of_lt ?_ k.size;have p:1<=T*D ^ m:=Nat.mul_pos k.T1 (Nat.pow_pos k.D1)
 calc T*D ^ m<=32*(T*D ^ m):=by omega
  _=(32*(T*D ^ m)) ^ 1:=(Nat.pow_one _).symm
  _<=_:=Nat.pow_le_pow_right (by omega) k.n1
theorem TabOk.Dm{n m D T:Nat}{t:Tb}(k:TabOk n m D T t):D ^ m<2 ^ 4000:=Nat.lt_of_le_of_lt (Nat.le_mul_of_pos_left _ k.T1) k.TD
theorem TabOk.Tl{n m D T:Nat}{t:Tb}(k:TabOk n m D T t):T<2 ^ 4000:=Nat.lt_of_le_of_lt (Nat.le_mul_of_pos_right _ (Nat.pow_pos k.D1)) k.TD
theorem TabOk.Dl{n m D T:Nat}{t:Tb}(k:TabOk n m D T t)(hm:1<=m):D<2 ^ 4000:=by
 refine Nat.lt_of_le_of_lt ?_ k.Dm
 calc D=D ^ 1:=(Nat.pow_one _).symm
  _<=_:=Nat.pow_le_pow_right k.D1 hm
theorem TabOk.Wb{n m D T:Nat}{t:Tb}(k:TabOk n m D T t):∀i,i<n->∀j,j<m->(W m t i j).natAbs<=T*D ^ m:=by
 intro i hi j hj;obtain ⟨c1,c2,_⟩:=cb_all (r:=t i) (D:=D) (m:=m) fun j hj=>k.bot i hi j hj;show ((t i j).1*(cbN (t i) m).fdiv (t i j).2).natAbs<=_;rw [Int.natAbs_mul];exact Nat.mul_le_mul (k.top i hi j hj) (Nat.le_trans (fdiv_abs (k.bot i hi j hj).1) c2)
theorem run_so{n m D T:Nat}{t:Tb}(k:TabOk n m D T t)(hm1:1<=m):∃R l L last B,Ba.BI n m (W m t) R l L last m B/\m_q33 [tabD n m t]=some (flds n m R l L last):=by
 have hY1:1<=T*D ^ m:=Nat.mul_pos k.T1 (Nat.pow_pos k.D1);obtain ⟨R,l,L,last,B,I,hi⟩:=run_init (A:=W m t) k.n1 k.n32 k.m1000 hY1 k.size k.Wb;refine ⟨R,l,L,last,B,I,?_⟩;unfold m_q33 runO;rw [if_pos (show [tabD n m t].length=1 from rfl)]
 have lc:(mLC (subE [none]) (mItems (mVar 0)) (gVar 0) mYes (mCall m_q41 (mCons (mVar 0) mNil))) [some (.val (tabD n m t))]=some (.own (matD n m (W m t))):=by
  refine lc_to (ds:=(List.range n).map fun i=>frD m (t i)) rfl ?_ ?_
  . rw [List.length_map,List.length_range];have:1000<sizeLine:=by decide
    have:=k.n32;omega
  . refine compM_map fun i hi=> ?_;have hi:=List.mem_range.mp hi;show elM _ _ _ [none] _=_;unfold elM;simp only [gVar,mYes,mCall,mCons,mNil,mVar,List.set_cons_zero,List.getElem?_cons_zero,Option.join_some,Option.bind_some,Sl.dat,run_wr (k.bot i hi) (fun j hj=>Nat.lt_of_le_of_lt (k.top i hi j hj) k.Tl) k.m1000 k.Dm k.D1 (k.Dl hm1)];rfl
 show mMake 3 m_q0 _ [some (.val (tabD n m t))]=_;unfold mMake;simp only [mCons,mNil,lc,Option.bind_some,Sl.dat];show Option.bind (m_q0 [none,none,none] [.list (matD n m (W m t))]) _=_;rw [hi];rfl
def prodN:Nat->(Nat->Int)->Int
 | 0,_=>1
 | n+1,f=>prodN n f*f n
theorem obj_to{n s:Nat}{fo:En->Option En}{g:En->Option Out}{ρ φ:En}{r:Sl}(hl:ρ.length=n)(h:fo ρ=some φ)(k:Rts g (ρ.set s none++φ) r):Rts (mObj n s fo g) ρ r:=by
 obtain ⟨ρ',k⟩:=k;refine ⟨List.replicate ρ.length none,?_⟩;unfold mObj;rw [if_pos hl,h];simp only [Option.bind_some,k]
theorem bin_eq{op:Sl->Sl->Option Sl}{fa fb:En->Option Sl}{ρ:En}{a b:Sl}(ha:fa ρ=some a)(hb:fb ρ=some b):mBin op fa fb ρ=op a b:=by
 unfold mBin;rw [ha];show Option.bind (fb ρ) _=_;rw [hb];rfl
theorem test_eq{f:En->Option Sl}{ρ:En}{b:Bool}(h:f ρ=some (.val (.bool b))):mTest f ρ=some b:=by
 unfold mTest;rw [h];rfl
theorem deq_int(i j:Int):deq (.val (.int i)) (.val (.int j))=some (.val (.bool (decide (i=j)))):=by
 show (eqD (.int i) (.int j)).map _=_;rw [eqD_int];rfl
theorem set_to{i j:Nat}{k:Int}{fj f:En->Option Sl}{ρ:En}{r:Sl}{ds:List PyData}(h:f ρ=some r)(ho:(ρ[i]?).join=some (.own ds))(hj:fj ρ=some (.val (.int k)))(hx:ixN ds.length k=some j):mSet i fj f ρ=some (.nx (ρ.set i (some (.own (ds.set j r.dat))))):=by
 unfold mSet;rw [h];show (match (ρ[i]?).join with | some (.own ds)=>_ | _=>_)=_;rw [ho];show Option.bind (fj ρ) _=_;rw [hj];show (ixN ds.length k).map _=_;rw [hx];rfl
theorem app_to{i:Nat}{f:En->Option Sl}{ρ:En}{r:Sl}{ds:List PyData}(h:f ρ=some r)(ho:(ρ[i]?).join=some (.own ds))(hl:ds.length<sizeLine):mApp i f ρ=some (.nx (ρ.set i (some (.own (ds ++ [r.dat]))))):=by
 unfold mApp;rw [ho];show Option.bind (f ρ) _=_;rw [h];show (if ds.length<sizeLine then _ else _)=_;rw [if_pos hl]
theorem callP_to{F:List Sl->Option Sl}{f:En->Option (List Sl)}{ρ:En}{ss:List Sl}{r:Sl}(h:f ρ=some ss)(k:F ss=some r):mCallP F f ρ=some r:=by
 unfold mCallP;rw [h];exact k
theorem cons_to{f:En->Option Sl}{g:En->Option (List PyData)}{ρ:En}{a:Sl}{as:List PyData}(h:f ρ=some a)(k:g ρ=some as):mCons f g ρ=some (a.dat::as):=by
 unfold mCons;rw [h];show Option.bind (g ρ) _=_;rw [k];rfl
theorem consP_to{f:En->Option Sl}{g:En->Option (List Sl)}{ρ:En}{a:Sl}{as:List Sl}(h:f ρ=some a)(k:g ρ=some as):mConsP f g ρ=some (a::as):=by
 unfold mConsP;rw [h];show Option.bind (g ρ) _=_;rw [k];rfl
theorem runR_rt{n m k:Nat}{g:En->Option Out}{fd ds:List PyData}{ρ:En}{r:Sl}(hl:ds.length+1=m)(hk:fd.length=k)(e:(none::ds.map (fun d=>some (Sl.val d)))++List.replicate (n - (ds.length+1)) none++fd.map (fun d=>some (Sl.val d))=ρ)(h:Rts g ρ r):runR n m k g fd ds=some r:=by
 obtain ⟨ρ',h⟩:=h;unfold runR;rw [if_pos ⟨hl,hk⟩,e,h];rfl
theorem list_sum_range(f:Nat->Int):∀n,List.sum ((List.range n).map f)=Ba.sumN n f
 | 0=>rfl
 | n+1=>by
  rw [List.range_succ,List.map_append,List.sum_append,list_sum_range f n,Ba.sumN];simp
theorem sum_to{f:Nat->Int}{n:Nat}:dSum [.own ((List.range n).map fun i=> .int (f i))]=some (.val (.int (Ba.sumN n f))):=by
 unfold dSum;simp only [Sl.dat];have e:((List.range n).map fun i=>PyData.int (f i))=((List.range n).map f).map PyData.int:=by rw [List.map_map];rfl
 rw [e,intsOf_map,Option.map_some,list_sum_range]
theorem dix_vmat{n m i:Nat}{R:Ba.Mx}(h:i<n):dix (.val (.list (matD n m R))) (.val (.int (i:Int)))=some (.val (rowD m (R i))):=by
 unfold dix;simp only [Sl.dat,atI_mat h,Option.map_some]
theorem dix_vld{k t:Nat}{L:Nat->Nat}(h:t<k):dix (.val (.list (ldD k L))) (.val (.int (t:Int)))=some (.val (.int (L t:Nat))):=by
 unfold dix ldD;simp only [Sl.dat,atI_range h,Option.map_some]
theorem dix_own{k t:Nat}{f:Nat->PyData}(h:t<k):dix (.own ((List.range k).map f)) (.val (.int (t:Int)))=some (.val (f t)):=by
 unfold dix;simp only [Sl.dat,atI_range h,Option.map_some]
theorem repl_range{α:Type}{x:α}:∀k:Nat,(List.replicate k [x]).flatten=(List.range k).map fun _=>x
 | 0=>rfl
 | k+1=>by
  rw [List.replicate_succ',List.flatten_append,repl_range k,List.range_succ,List.map_append];rfl
theorem rep_to{x:PyData}{k:Nat}(h:k<=200):dRep (.own [x]) (.val (.int (k:Int)))=some (.own ((List.range k).map fun _=>x)):=by
 have hs:(200:Nat)<=sizeLine:=small64;have c : -(2 ^ 63)<=(k:Int)/\(k:Int)<2 ^ 63 /\ [x].length*(k:Int).toNat<=sizeLine:=⟨by omega,by omega,by rw [Int.toNat_natCast,List.length_singleton];omega⟩;simp only [dRep];rw [if_pos c,Int.toNat_natCast,repl_range]
def numS(k s:Nat)(x:Nat->Int):List PyData:=(List.range k).map fun t=> .int (if k - s<=t then x t else 0)
def rcP(n m k j:Nat)(R:Ba.Mx)(L:Nat->Nat)(last:Int)(num:List PyData)(a b c:Option Sl):En:=
 [none,some (.val (.int j)),some (.val (.int k)),some (.own num),a,b,c,some (.val (.list (matD n m R))),some (.val (.list (ldD k L))),some (.val (.int last))]
theorem run_rc {n m k j : Nat} {A R B : Ba.Mx} {L : Nat -> Nat} {last : Int} (I : Ba.BI n m A R k L last m B) (hj : j < m) (hn : n <= 32) (hm : m <= 1000)
 (hR:∀i,i<n->∀j,j<m->Bt 4000 (R i j)) (hl:Bt 4000 last) (hx:∀t,t<k->Bt 8000 (Ba.redx B k L j t)) :
 m_q3 [.list (matD n m R), .list (ldD k L), .int last] [.int (j:Int)]=some (.own ((List.range k).map fun t=> .int (Ba.redx B k L j t))):=by
 have hk:=I.kn;have hL:∀t,t<k->L t<m:=fun t ht=>Nat.lt_of_lt_of_le (I.Lc t ht) I.cm;refine runR_rt (ρ:= [none,some (.val (.int (j:Int))),none,none,none,none,none,some (.val (.list (matD n m R))),some (.val (.list (ldD k L))),some (.val (.int last))]) rfl rfl rfl ?_;unfold b_q3;refine rts_seq (asg_to (r:= .val (.int k)) ?_) ?_
 . walk_at "ev"
   rw [len_ld]
 refine rts_seq (asg_to (r:= .own (numS k 0 (Ba.redx B k L j))) ?_) ?_
 . walk_at "ev"
   have e:numS k 0 (Ba.redx B k L j)=(List.range k).map fun _=>PyData.int 0:=by
    unfold numS;refine List.map_congr_left fun t ht=> ?_;have:=List.mem_range.mp ht;rw [if_neg (by omega)]
   rw [e];rw [if_pos (show 0+1<=sizeLine from Nat.le_trans (by decide) small64),Option.bind_some];refine rep_to (k:=k) ?_;omega
 show Rts _ (rcP n m k j R L last (numS k 0 (Ba.redx B k L j)) none none none) _
 obtain ⟨ρ',hf,a,b,c,rfl⟩:=forM_list (fg:=gVar 4) (gb:=(mSeq (mAsg 5 (mBin dix (mPk 7) (mPk 4)))
  (mSeq (mAsg 6 (mCallP dSum (mConsP (mLC (subF [some 5,some 0,some 3,none] 7) (mRng2 (mConsP (mBin dAdd (mPk 4) (mK (.int 1))) (mConsP (mPk 2) mNilP))) (gVar 3) mYes (mBin dRep (mBin dix (mPk 0) (mBin dix (mPk 5) (mPk 3))) (mBin dix (mPk 2) (mPk 3)))) mNilP)))
  (mSet 3 (mPk 4) (mBin dFdiv (mBin dSub (mBin dRep (mPk 9) (mBin dix (mPk 5) (mPk 1))) (mPk 6)) (mBin dix (mPk 5) (mBin dix (mPk 8) (mPk 4))))))))
  (ds:=rngDn ((k:Int) - 1) k) (ρ:=rcP n m k j R L last (numS k 0 (Ba.redx B k L j)) none none none)
  (fun s ρ=>∃a b c,ρ=rcP n m k j R L last (numS k s (Ba.redx B k L j)) a b c) ⟨none,none,none,rfl⟩ (by
   rintro s d ρ hd ⟨a,b,c,rfl⟩;unfold rngDn at hd
   rw [List.getElem?_map] at hd
   by_cases hs:s<k
   . rw [List.getElem?_range hs] at hd
     have hd:PyData.int ((k:Int) - 1 - (s:Nat))=d:=Option.some.inj hd;subst hd;obtain ⟨i,hi,hik⟩:∃i:Nat,(k:Int) - 1 - (s:Nat)=(i:Int)/\i+s+1=k:=⟨k - 1 - s,by omega,by omega⟩;rw [hi];refine ⟨_,rfl,_, .inl ?_,some (.val (.int i)),some (.val (rowD m (R i))),some (.val (.int (Ba.sumN (k - (i+1)) (fun t=>R i (L (i+1+t))*Ba.redx B k L j (i+1+t))))),rfl⟩;have hin:i<n:=by omega
     have hL':=hL i (by omega);refine seq_to (asg_to (r:= .val (rowD m (R i))) (bin_eq (a:= .val (.list (matD n m R))) (b:= .val (.int i)) rfl rfl |>.trans (dix_vmat hin))) ?_;refine seq_to (asg_to (r:= .val (.int (Ba.sumN (k - (i+1)) (fun t=>R i (L (i+1+t))*Ba.redx B k L j (i+1+t))))) (callP_to (consP_to (a:= .own ((List.range (k - (i+1))).map fun t=> .int (R i (L (i+1+t))*Ba.redx B k L j (i+1+t)))) (lc_to (ds:=rngD ((i+1:Nat):Int) (k - (i+1))) ?_ ?_ ?_) rfl) sum_to)) ?_
     . refine rng2_to (i:=i+1) (j:=k) ?_ (by omega) (by omega);rfl
     . have:(200:Nat)<=sizeLine:=small64;simp only [rngD,List.length_map,List.length_range];omega
     . refine compM_range fun t ht=> ?_;show elM _ _ _ [some (.val (rowD m (R i))),none,some (.own (numS k s (Ba.redx B k L j))),none,some (.val (.list (matD n m R))),some (.val (.list (ldD k L))),some (.val (.int last))] _=_;rw [show ((i+1:Nat):Int)+(t:Nat)=((i+1+t:Nat):Int) by omega];have hit:i+1+t<k:=by omega
       have hv:(mBin dRep (mBin dix (mPk 0) (mBin dix (mPk 5) (mPk 3))) (mBin dix (mPk 2) (mPk 3))) [some (.val (rowD m (R i))),none,some (.own (numS k s (Ba.redx B k L j))),some (.val (.int ((i+1+t:Nat):Int))),some (.val (.list (matD n m R))),some (.val (.list (ldD k L))),some (.val (.int last))]=some (.val (.int (R i (L (i+1+t))*Ba.redx B k L j (i+1+t)))):=by
        refine (bin_eq (a:= .val (.int (R i (L (i+1+t))))) (b:= .val (.int (Ba.redx B k L j (i+1+t)))) ?_ ?_).trans (mulS (.inr (cmulC (hR i hin _ (hL _ hit)) (hx _ hit) rfl)))
        . refine (bin_eq (a:= .val (rowD m (R i))) (b:= .val (.int (L (i+1+t):Nat))) rfl ?_).trans (dix_row (hL _ hit));exact (bin_eq (a:= .val (.list (ldD k L))) (b:= .val (.int ((i+1+t:Nat):Int))) rfl rfl).trans (dix_vld hit)
        . refine (bin_eq (a:= .own (numS k s (Ba.redx B k L j))) (b:= .val (.int ((i+1+t:Nat):Int))) rfl rfl).trans ?_;unfold numS;rw [dix_own hit,if_pos (by omega)]
       unfold elM;simp only [gVar,mYes,List.set_cons_zero,List.set_cons_succ,Option.bind_some,if_true,hv,Option.map_some,Sl.dat]
     . refine (set_to (r:= .val (.int (Ba.redx B k L j i))) (j:=i) (k:=(i:Int)) (ds:=numS k s (Ba.redx B k L j)) ?_ rfl rfl (by rw [show (numS k s (Ba.redx B k L j)).length=k by simp [numS]];exact ixN_nat (by omega))).trans ?_
       . refine (bin_eq (a:= .val (.int (last*R i j - Ba.sumN (k - (i+1)) (fun t=>R i (L (i+1+t))*Ba.redx B k L j (i+1+t))))) (b:= .val (.int (R i (L i)))) ?_ ?_).trans ?_
         . refine (bin_eq (a:= .val (.int (last*R i j))) (b:= .val (.int (Ba.sumN (k - (i+1)) (fun t=>R i (L (i+1+t))*Ba.redx B k L j (i+1+t))))) ?_ rfl).trans rfl;refine (bin_eq (a:= .val (.int last)) (b:= .val (.int (R i j))) rfl ?_).trans (mulS (.inr (cmulC hl (hR i hin j hj) rfl)));exact (bin_eq (a:= .val (rowD m (R i))) (b:= .val (.int (j:Int))) rfl rfl).trans (dix_row hj)
         . refine (bin_eq (a:= .val (rowD m (R i))) (b:= .val (.int (L i:Nat))) rfl ?_).trans (dix_row hL');exact (bin_eq (a:= .val (.list (ldD k L))) (b:= .val (.int (i:Int))) rfl rfl).trans (dix_vld (by omega))
         . rw [divS ⟨I.topn i (by omega),(hR i hin _ hL').mono (by decide)⟩,I.back_div (by omega) hj]
       . have e : (numS k s (Ba.redx B k L j)).set i (.int (Ba.redx B k L j i)) = numS k (s + 1) (Ba.redx B k L j) := by
          unfold numS;rw [set_range];refine List.map_congr_left fun t ht=> ?_;have ht:=List.mem_range.mp ht
          by_cases h1:t=i
          . subst h1;rw [if_pos rfl,if_pos (by omega)]
          . rw [if_neg h1]
            by_cases h2:k - s<=t
            . rw [if_pos h2,if_pos (by omega)]
            . rw [if_neg h2,if_neg (by omega)]
         simp only [Sl.dat,e];rfl
   . rw [List.getElem?_eq_none (l:=List.range k) (by simpa using hs)] at hd;cases hd)
 rw [show (rngDn ((k:Int) - 1) k).length=k by simp [rngDn]] at hf
 refine rts_seq (for_to (ds:=rngDn ((k:Int) - 1) k) ?_ hf) (rts_ret ?_)
 . unfold mRngD rcP
   walk_at "ev"
   show (if inB ((k:Int) - 1)/\inB (-1) then _ else _)=_;rw [if_pos ⟨⟨by omega,by omega⟩,⟨by decide,by decide⟩⟩];congr 2
   omega
 . show some (Sl.own (numS k k (Ba.redx B k L j)))=_;unfold numS;congr 2
   exact List.map_congr_left fun t _=>by rw [if_pos (by omega)]
theorem run_fo{k:Nat}{x:Nat->Int}{b:Int}(hk:k<=200)(hb:b≠0)(hB:Bt 9000 b):m_q22 [.list ((List.range k).map fun t=> .int (x t)), .int b]=some (.own ((List.range k).map fun t=>encF (fr (x t) b))):=by
 refine runD_rt (ρ:= [some (.val (.list ((List.range k).map fun t=> .int (x t)))),some (.val (.int b))]) rfl rfl ?_;unfold b_q22;refine rts_ret (lc_to (ds:=(List.range k).map fun t=> .int (x t)) rfl ?_ (compM_map fun t ht=> ?_))
 . rw [List.length_map,List.length_range];have:1000<sizeLine:=by decide
   omega
 . show elM _ _ _ [some (.val (.int b)),none] _=_;unfold elM;simp only [gVar,mYes,mCall,mCons,mNil,mVar,List.set_cons_zero,List.set_cons_succ,List.getElem?_cons_zero,List.getElem?_cons_succ,Option.join_some,Option.bind_some,Sl.dat,run_frac hb hB,if_true,Option.map_some]
theorem run_lo{n m:Nat}{f:Nat->Nat->PyData}(hn:n<=200)(hm1:1<=m)(hm:m<=1000):m_q24 [.list ((List.range m).map fun c=> .list ((List.range n).map fun i=>f c i))]=some (.own ((List.range n).map fun i=> .list ((List.range m).map fun c=>f c i))):=by
 refine runD_rt (ρ:= [some (.val (.list ((List.range m).map fun c=> .list ((List.range n).map fun i=>f c i))))]) rfl rfl ?_;unfold b_q24;have hs:1000<sizeLine:=by decide
 refine rts_ret (lc_to (ds:=rngD 0 n) ?_ ?_ (compM_range fun i hi=> ?_))
 . refine rng1_to ?_ (by omega)
   have e:dix (.val (.list ((List.range m).map fun c=> .list ((List.range n).map fun i=>f c i)))) (.val (.int 0))=some (.val (.list ((List.range n).map fun i=>f 0 i))):=by
    unfold dix;simp only [Sl.dat];rw [show (0:Int)=((0:Nat):Int) from rfl,atI_range (show 0<m by omega)];rfl
   refine consP_to (a:= .val (.int n)) (callP_to (consP_to (bin_eq (a:= .val (.list ((List.range m).map fun c=> .list ((List.range n).map fun i=>f c i)))) (b:= .val (.int 0)) rfl rfl |>.trans e) rfl) ?_) rfl;simp only [dLen,Sl.dat,List.length_map,List.length_range]
 . simp only [rngD,List.length_map,List.length_range];omega
 . show elM _ _ _ [some (.val (.list ((List.range m).map fun c=> .list ((List.range n).map fun i=>f c i)))),none] _=_
   have inner:(mLC (subE [some 1,none]) (mItems (mVar 0)) (gVar 1) mYes (mBin dix (mPk 1) (mPk 0))) [some (.val (.list ((List.range m).map fun c=> .list ((List.range n).map fun i=>f c i)))),some (.val (.int (0+(i:Nat))))]=some (.own ((List.range m).map fun c=>f c i)):=by
    refine lc_to (ds:=(List.range m).map fun c=> .list ((List.range n).map fun i=>f c i)) rfl (by rw [List.length_map,List.length_range];omega) (compM_map fun c hc=> ?_);show elM _ _ _ [some (.val (.int (0+(i:Nat)))),none] _=_
    have e:dix (.val (.list ((List.range n).map fun i=>f c i))) (.val (.int (0+(i:Nat))))=some (.val (f c i)):=by
     unfold dix;simp only [Sl.dat];rw [Int.zero_add,atI_range hi];rfl
    unfold elM;simp only [gVar,mYes,mBin,mPk,List.set_cons_zero,List.set_cons_succ,List.getElem?_cons_zero,List.getElem?_cons_succ,Option.join_some,Option.bind_some,e,if_true,Option.map_some,Sl.dat]
   unfold elM;simp only [gVar,mYes,List.set_cons_zero,List.set_cons_succ,Option.bind_some,inner,if_true,Option.map_some,Sl.dat]
theorem sz_red{n l Y:Nat}{x:Int}(h1:1<=n)(hn:n<=32)(hl:l<=n)(hY1:1<=Y)(hY:(32*Y) ^ n<2 ^ 4000)(hx:x.natAbs<=l*((n*Y) ^ l*Y)):Bt 8000 x:=by
 have a1:(n*Y) ^ l<=(32*Y) ^ n:=Nat.le_trans (Nat.pow_le_pow_left (Nat.mul_le_mul_right Y hn) l) (Nat.pow_le_pow_right (by omega) hl)
 have a2:l*Y<=(32*Y) ^ n:=Nat.le_trans (Nat.mul_le_mul_right Y (by omega:l<=32)) (by
  calc 32*Y=(32*Y) ^ 1:=(Nat.pow_one _).symm
   _<=_:=Nat.pow_le_pow_right (by omega) h1)
 have a3:l*((n*Y) ^ l*Y)=(n*Y) ^ l*(l*Y):=by
  rw [Nat.mul_left_comm]
 unfold Bt;refine Nat.lt_of_le_of_lt hx ?_;rw [a3];refine Nat.lt_of_le_of_lt (Nat.mul_le_mul a1 a2) ?_;have e:(2:Nat) ^ 8000=2 ^ 4000*2 ^ 4000:=Nat.pow_add 2 4000 4000;rw [e];exact Nat.mul_lt_mul'' hY hY
theorem ints_flat{k:Nat}{x:Nat->Int}:flatS (.own ((List.range k).map fun t=> .int (x t)))=true:=by
 show (intsOf ((List.range k).map fun t=>PyData.int (x t))).isSome=true;have e:((List.range k).map fun t=>PyData.int (x t))=((List.range k).map x).map PyData.int:=by rw [List.map_map];rfl
 rw [e,intsOf_map];rfl
theorem methR_to{n:Nat}{F:List PyData->List PyData->Option Sl}{fa:En->Option (List PyData)}{ρ:En}{ds fd:List PyData}{r:Sl}(h1:fa ρ=some ds)(h2:fldsOf (ρ.drop n)=some fd)(h3:F fd ds=some r)(h4:flatS r=true):mMethR n F fa ρ=some r:=by
 unfold mMethR;rw [h1,Option.bind_some,h2,Option.bind_some,h3,Option.bind_some,if_pos h4]
theorem sl1000:1000<sizeLine:=by decide
theorem lst1{f:En->Option Sl}{ρ:En}{a:Sl}(h:f ρ=some a):mLst (mCons f mNil) ρ=some (.own [a.dat]):=by
 unfold mLst;rw [cons_to h (show mNil ρ=some [] from rfl)];exact if_pos (e:=none) (show 1<=sizeLine by decide)
theorem add_own{a b:Sl}{xs ys:List PyData}(ha:a.dat = .list xs)(hb:b.dat = .list ys)(h:xs.length+ys.length<=sizeLine):dAdd a b=some (.own (xs++ys)):=by
 unfold dAdd;rw [ha,hb];exact if_pos (h)
theorem rep_own{xs:List PyData}{k:Nat}(h:xs.length*k<=sizeLine)(hk:k<=1000):dRep (.own xs) (.val (.int k))=some (.own (List.replicate k xs).flatten):=by
 unfold dRep;simp only;rw [if_pos ⟨by omega,by omega,by simpa using h⟩];simp
theorem el_to{fg:PyData->En->Option En}{fe:En->Option Sl}{ρ0 ρ1:En}{d:PyData}{r:Sl}(h1:fg d ρ0=some ρ1)(h2:fe ρ1=some r):elM fg mYes fe ρ0 d=some (some r.dat):=by
 unfold elM;rw [h1];simp only [Option.bind_some,mYes,if_true,h2,Option.map_some]
theorem bt_k{j:Int}(h0:0<j)(h:j<=1000):Bt 9000 j:=by
 unfold Bt;have:2 ^ 10<=2 ^ 9000:=Nat.pow_le_pow_right (by decide) (by decide);have e:(2:Nat) ^ 10=1024:=by decide
 rw [e] at this
 refine Nat.lt_of_lt_of_le ?_ this;omega
theorem div_k{i j:Int}(h0:0<j)(h:j<=1000):dFdiv (.val (.int i)) (.val (.int j))=some (.val (.int (i.fdiv j))):=divS ⟨by omega,bt_k h0 h⟩
theorem frz_eq{i:Nat}{g:En->Option Out}{ρ:En}:mFrz i g ρ=g (frz1 i ρ):=rfl
theorem tup2{f g:En->Option Sl}{ρ:En}{a b:Sl}(h1:f ρ=some a)(h2:g ρ=some b):mTup (mCons f (mCons g mNil)) ρ=some (.val (.tuple [a.dat,b.dat])):=by
 unfold mTup;rw [cons_to h1 (cons_to h2 (show mNil ρ=some [] from rfl))];exact if_pos (e:=none) (show 2<=sizeLine by decide)
theorem tup1{f:En->Option Sl}{ρ:En}{a:Sl}(h1:f ρ=some a):mTup (mCons f mNil) ρ=some (.val (.tuple [a.dat])):=by
 unfold mTup;rw [cons_to h1 (show mNil ρ=some [] from rfl)];exact if_pos (e:=none) (show 1<=sizeLine by decide)
theorem cmL{i j:Int}(h1 : -(2 ^ 64)<i)(h2:i<2 ^ 64):CMulA i j:= .inl (.inl ⟨h1,h2⟩)
theorem cmR{i j:Int}(h1 : -(2 ^ 64)<j)(h2:j<2 ^ 64):CMulA i j:= .inl (.inr ⟨h1,h2⟩)
theorem mod_nat{fa fb:En->Option Sl}{ρ:En}{i m:Int}(ha:fa ρ=some (.val (.int i)))(hb:fb ρ=some (.val (.int m)))(hp:0<m):∃v:Nat,mBin dMod fa fb ρ=some (.val (.int v))/\(v:Int)<m:=by
 refine ⟨(i.fmod m).toNat,?_,?_⟩
 . rw [Int.toNat_of_nonneg (Int.fmod_nonneg_of_pos _ hp)];exact (bin_eq (op:=dMod) ha hb).trans (modS (by omega))
 . rw [Int.toNat_of_nonneg (Int.fmod_nonneg_of_pos _ hp)];exact Int.fmod_lt_of_pos _ hp
abbrev enN:Nat->PyData:=fun n=> .int (n:Int)
def tupN(t:List Nat):PyData:= .tuple (nl t)
theorem lstNil{ρ:En}:mLst mNil ρ=some (.own []):=by
 exact if_pos (e:=none) (show 0<=sizeLine by decide)
theorem run_prod{L:List Nat}(hL:∀c ∈ L,c<=1000):m_q28 [.list (nl L)]=some (.val (.int (Tr.prodN L:Nat))):=by
 refine run_wp (ρ:= [some (.val (.list (nl L))),none,none]) rfl rfl ?_;unfold b_q28;refine wp_asgS (r:= .val (.int 1)) rfl ?_;refine wp_seq (P:=fun ρ=>∃z,ρ = [some (.val (.list (nl L))),some (.val (.int (Tr.prodN L:Nat))),z]) ?_ ?_
 . refine wp_forL (en:=enN) (xs:=L) (fun k ρ=>∃z,ρ = [some (.val (.list (nl L))),some (.val (.int (Tr.prodN (L.take k):Nat))),z]) rfl ⟨_,rfl⟩ ?_ ?_
   . rintro k s ρ hs ⟨z,rfl⟩;have hs1:=hL s (List.mem_of_getElem? hs);refine ⟨_,rfl,wp_asg (r:= .val (.int ((Tr.prodN (L.take k):Int)*(s:Int)))) ((bin_eq (op:=dRep) rfl rfl).trans (mulS (cmR (by omega) (by omega)))) ⟨some (.val (.int s)),?_⟩⟩;rw [List.take_add_one,hs];show _=([some (.val (.list (nl L))),some (.val (.int (Tr.prodN (L.take k ++ [s]):Nat))),some (.val (.int s))]:En);rw [Tr.prodN_app,show Tr.prodN [s]=s by simp [Tr.prodN],Int.natCast_mul];rfl
   . rintro ρ ⟨z,rfl⟩;rw [List.take_of_length_le (Nat.le_refl _)];exact ⟨z,rfl⟩
 . rintro ρ ⟨z,rfl⟩;exact wp_ret rfl rfl
theorem bt_small{c:Nat}(h:c<=1000):Bt 9000 (c:Int):=by
 unfold Bt;have:2 ^ 10<=2 ^ 9000:=Nat.pow_le_pow_right (by decide) (by decide);have e:(2:Nat) ^ 10=1024:=by decide
 rw [e] at this
 refine Nat.lt_of_lt_of_le ?_ this;omega
theorem run_trial{L:List Nat}(hL:∀c ∈ L,0<c/\c<=1000)(hl:L.length<=900)(x:Nat):m_q38 [.list (nl L), .int x]=some (.val (tupN (Tr.tri L x))):=by
 have sl:=sl1000;refine run_wp (ρ:= [some (.val (.list (nl L))),some (.val (.int x)),none,none]) rfl rfl ?_;unfold b_q38;refine wp_asgS lstNil ?_;refine wp_seq (P:=fun ρ=>∃z1 z3,ρ = [some (.val (.list (nl L))),z1,some (.own (nl (Tr.dg L.reverse x))),z3]) ?_ ?_
 . refine wp_forL (en:=enN) (xs:=L.reverse) (fun k ρ=>∃(A:List Nat) (y:Nat) (z:Option Sl),ρ = [some (.val (.list (nl L))),some (.val (.int y)),some (.own (nl A)),z]/\A.length=k/\A++Tr.dg (L.reverse.drop k) y=Tr.dg L.reverse x) ?_ ⟨[],x,none,rfl,rfl,rfl⟩ ?_ ?_
   . show some (nl L).reverse=_;rw [nl,List.map_reverse]
   . rintro k c ρ hc ⟨A,y,z,rfl,hA,he⟩;have hc1:=hL c (List.mem_reverse.mp (List.mem_of_getElem? hc));obtain ⟨hk,ek⟩:=List.getElem?_eq_some_iff.mp hc;have hk':k<L.length:=by simpa using hk
     rw [List.drop_eq_getElem_cons hk,ek] at he
     refine ⟨_,rfl,?_⟩;have nz:(c:Int)≠0:=by omega
     refine wp_seqN (app_to (r:= .val (.int ((y % c:Nat):Int))) (ds:=nl A) ((bin_eq (op:=dMod) (a:= .val (.int y)) (b:= .val (.int c)) rfl rfl).trans ((modS nz).trans ?_)) rfl (by rw [nl_len];omega)) ?_
     . rw [Int.fmod_eq_emod_of_nonneg _ (by omega)];rfl
     refine wp_asg (r:= .val (.int ((y / c:Nat):Int))) ((bin_eq (op:=dFdiv) (a:= .val (.int y)) (b:= .val (.int c)) rfl rfl).trans ((divS ⟨nz,bt_small hc1.2⟩).trans ?_)) ⟨A ++ [y % c],y / c,some (.val (.int c)),?_,by simp [hA],?_⟩
     . rw [Int.fdiv_eq_ediv_of_nonneg _ (by omega)];rfl
     . rw [nl_app];rfl
     . rw [<-he,List.append_assoc];rfl
   . rintro ρ ⟨A,y,z,rfl,hA,he⟩;rw [List.drop_eq_nil_of_le (Nat.le_refl _)] at he
     simp only [Tr.dg,List.append_nil] at he
     subst he;exact ⟨_,_,rfl⟩
 . rintro ρ ⟨z1,z3,rfl⟩;refine wp_ret (r:= .val (tupN (Tr.tri L x))) (callP_to (ss:= [.own (nl (Tr.dg L.reverse x))]) rfl ?_) rfl;show some (Sl.val (.tuple (nl (Tr.dg L.reverse x)).reverse))=_;rw [nl, <-List.map_reverse];rfl
theorem run_all{L:List Nat}(hL:∀c ∈ L,0<c/\c<=1000)(hl:L.length<=900)(hp:Tr.prodN L<=900):m_q12 [.list (nl L)]=some (.own ((Tr.allT L).map tupN)):=by
 have sl:=sl1000;refine run_wp (ρ:= [some (.val (.list (nl L)))]) rfl rfl ?_;unfold b_q12;refine wp_ret (lc_to (ds:=rngD 0 (Tr.prodN L)) ?_ ?_ ?_) rfl
 . exact rng1_to (j:=Tr.prodN L) (consP_to (as:= []) (call_to (ds:= [.list (nl L)]) rfl (run_prod fun c hc=>(hL c hc).2)) rfl) (by omega)
 . rw [show (rngD 0 (Tr.prodN L)).length=Tr.prodN L by simp [rngD]];omega
 . refine (compM_range (g:=fun i=>tupN (Tr.tri L i)) fun i hi=>el_to (r:= .val (tupN (Tr.tri L i))) rfl (call_to (ds:= [.list (nl L), .int (i:Nat)]) ?_ (run_trial hL hl i))).trans ?_
   . show some [PyData.list (nl L), .int (0+(i:Nat))]=_;rw [Int.zero_add]
   . rw [Tr.allT,List.map_map];rfl
theorem sz_red2{n l Y:Nat}{x:Int}(h1:1<=n)(hn:n<=32)(hl:l<=n)(hY1:1<=Y)(hx:x.natAbs<=l*((n*Y) ^ l*Y)):x.natAbs<=(32*Y) ^ n*(32*Y) ^ n:=by
 have a1:(n*Y) ^ l<=(32*Y) ^ n:=Nat.le_trans (Nat.pow_le_pow_left (Nat.mul_le_mul_right Y hn) l) (Nat.pow_le_pow_right (by omega) hl)
 have a2:l*Y<=(32*Y) ^ n:=Nat.le_trans (Nat.mul_le_mul_right Y (by omega:l<=32)) (by
  calc 32*Y=(32*Y) ^ 1:=(Nat.pow_one _).symm
   _<=_:=Nat.pow_le_pow_right (by omega) h1)
 have a3:l*((n*Y) ^ l*Y)=(n*Y) ^ l*(l*Y):=by
  rw [Nat.mul_left_comm]
 refine Nat.le_trans hx ?_;rw [a3];exact Nat.mul_le_mul a1 a2
theorem rts_wp{g:En->Option Out}{ρ:En}{r:Sl}(h:Wp g ρ (Rt r)):Rts g ρ r:=by
 obtain ⟨o,h1,h2⟩:=h
 cases o with
 | rt r' ρ'=>cases h2;exact ⟨_,h1⟩
 | _=>exact h2.elim
theorem wp_obj{n s:Nat}{fo:En->Option En}{g:En->Option Out}{ρ φ:En}{r:Sl}(hl:ρ.length=n)(h:fo ρ=some φ)(k:Wp g (ρ.set s none++φ) (Rt r)):Wp (mObj n s fo g) ρ (Rt r):=by
 obtain ⟨ρ',k⟩:=obj_to hl h (rts_wp k);exact ⟨_,k,rfl⟩
theorem in_ld{l m:Nat}{L:Nat->Nat}:inD false (.int (m:Int)) (ldD l L)=some (.val (.bool (decide (∃s,s<l/\L s=m)))):=by
 unfold inD;rw [if_pos ⟨rfl,by simp [ldD,PyData.canLay0],by simp [PyData.depth]⟩];refine congrArg (fun b=>some (Sl.val (.bool b))) ?_;simp only [ldD,List.any_map,Bool.false_eq_true,if_false];rw [Bool.eq_iff_iff];simp only [List.any_eq_true,Function.comp,List.mem_range,decide_eq_true_eq,PyData.eqv]
 constructor
 . rintro ⟨x,hx,h⟩;refine ⟨x,hx,?_⟩;simp at h
   omega
 . rintro ⟨x,hx,h⟩;refine ⟨x,hx,?_⟩;simp [h]
def aug(m:Nat)(t:Tb)(c:Nat->Int×Int):Tb:=fun i j=>if j<m then t i j else c i
def fnd(L:Nat->Nat)(f:Nat->Int×Int):Nat->Nat->Int×Int
 | 0,_=>(0,1)
 | s+1,j=>if j=L s then f s else fnd L f s j
theorem fnd_else{L:Nat->Nat}{f:Nat->Int×Int}:∀ {l j:Nat},(∀s,s<l->L s≠j)->fnd L f l j=(0,1)
 | 0,_,_=>rfl
 | l+1,j,h=>by
  rw [fnd,if_neg (fun e=>h l (by omega) e.symm)];exact fnd_else fun s hs=>h s (by omega)
theorem fnd_at{L:Nat->Nat}{f:Nat->Int×Int}:∀ {l s:Nat},(∀s t,s<t->t<l->L s<L t)->s<l->fnd L f l (L s)=f s
 | 0,_,_,h=>absurd h (by omega)
 | l+1,s,hi,h=>by
  rw [fnd]
  by_cases e:s=l
  . subst e;rw [if_pos rfl]
  . have:=hi s l (by omega) (by omega);rw [if_neg (by omega)];exact fnd_at (fun s t h1 h2=>hi s t h1 (by omega)) (by omega)
theorem aug_row{m i:Nat}{t:Tb}{c:Nat->Int×Int}:((List.range m).map fun j=>encF (t i j)) ++ [encF (c i)]=(List.range (m+1)).map fun j=>encF (aug m t c i j):=by
 rw [List.range_succ,List.map_append];congr 1
 . exact List.map_congr_left fun j hj=>by unfold aug;rw [if_pos (List.mem_range.mp hj)]
 . show [encF (c i)] = [encF (aug m t c i m)];unfold aug;rw [if_neg (by omega)]
theorem aug_tab {n m : Nat} {t : Tb} {c : Nat -> Int × Int} {ρ : En} (h0 : (ρ[0]?).join = some (.val (tabD n m t))) (h1 : (ρ[1]?).join = some (.val (frD n c))) (hn : n <= 200) (hm : m <= 200) :
 (mLC (subE [none,none]) (mZip (mCons (mVar 0) (mCons (mVar 1) mNil))) (gTupD [(gVar 0),(gVar 1)]) mYes (mBin dAdd (mPk 0) (mLst (mCons (mVar 1) mNil)))) ρ=some (.own ((List.range n).map fun i=>frD (m+1) (aug m t c i))):=by
 have hs:=sl1000;have v0:mVar 0 ρ=some (.val (tabD n m t)):=by unfold mVar;rw [h0]
 have v1:mVar 1 ρ=some (.val (frD n c)):=by unfold mVar;rw [h1]
 refine lc_to (ds:=(List.range n).map fun i=> .tuple [frD m (t i),encF (c i)]) ?_ (by rw [List.length_map,List.length_range];omega) (compM_map fun i hi=> ?_)
 . unfold mZip;rw [cons_to v0 (cons_to v1 rfl)];show some (zipD ((List.range n).map fun i=>frD m (t i)) ((List.range n).map fun i=>encF (c i)))=_;rw [zip_range]
 . show elM _ _ _ [none,none] _=_;refine (el_to (r:= .own ((List.range (m+1)).map fun j=>encF (aug m t c i j))) (ρ1:= [some (.val (frD m (t i))),some (.val (encF (c i)))]) rfl ?_);refine (bin_eq (op:=dAdd) (a:= .val (frD m (t i))) (b:= .own [encF (c i)]) rfl (lst1 (a:= .val (encF (c i))) rfl)).trans ?_;refine (add_own (xs:=(List.range m).map fun j=>encF (t i j)) (ys:= [encF (c i)]) rfl rfl ?_).trans ?_
   . rw [List.length_map,List.length_range];show m+1<=_;omega
   . rw [aug_row]
theorem run_sol {n m D T : Nat} {t : Tb} {c : Nat -> Int × Int} (k : TabOk n (m + 1) D T (aug m t c)) (hm1 : 1 <= m) (hm : m <= 199) : ∃ R l L last B, Ba.BI n (m + 1) (W (m + 1) (aug m t c)) R l L last (m + 1) B /\ last.natAbs <= (32 * (T * D ^ (m + 1))) ^ n /\ (∀ s, s < l -> (Ba.redx B l L m s).natAbs <= (32 * (T * D ^ (m + 1))) ^ n * (32 * (T * D ^ (m + 1))) ^ n) /\
 ((∃s,s<l/\L s=m)->m_q29 [tabD n m t,frD n c]=some (.val .none)) /\
 ((∀s,s<l->L s≠m)->m_q29 [tabD n m t,frD n c]=some (.own ((List.range m).map fun j=>encF (fnd L (fun s=>fr (Ba.redx B l L m s) last) l j)))):=by
 obtain ⟨R,l,L,last,B,I,hs⟩:=run_so k (by omega);have hY1:1<=T*D ^ (m+1):=Nat.mul_pos k.T1 (Nat.pow_pos k.D1);have bd:=I.bound k.n32 hY1 k.Wb;have hl:l<=n:=I.kn;have n32:=k.n32;have n1:=k.n1;have hlast:Bt 4000 last:=bt_of bd.2 k.size;have hR:∀i,i<n->∀j,j<m+1->Bt 4000 (R i j):=fun i hi j hj=>bt_of (bd.1 i hi j hj) k.size;have hx:∀s,s<l->Bt 8000 (Ba.redx B l L m s):=fun s _=>sz_red k.n1 k.n32 I.kn hY1 k.size (I.red_abs hY1 k.Wb (by omega) s);have hsz:=sl1000;refine ⟨R,l,L,last,B,I,bd.2,fun s _=>sz_red2 k.n1 k.n32 I.kn hY1 (I.red_abs hY1 k.Wb (by omega) s),?_⟩
 have w:∀ {r:Sl},Wp (mSeq (mIf (mTest (mBin (dInD false) (mPk 2) (mPk 9))) (mRet (mK .none)) mNext)
  (mSeq (mFrz 2 (mAsg 4 (mCall m_q22 (mCons (mMethR 8 m_q3 (mCons (mVar 2) mNil)) (mCons (mVar 10) mNil)))))
  (mSeq (mAsg 5 (mBin dRep (mLst (mCons (mK c_NOUGHT) mNil)) (mPk 2)))
  (mSeq (mFrz 9 (mFrz 4 (mFor (mZip (mCons (mVar 9) (mCons (mVar 4) mNil))) (gTupD [(gVar 6),(gVar 7)]) (mSet 5 (mPk 6) (mVar 7)))))
  (mRet (mPk 5)))))) [some (.val (tabD n m t)),some (.val (frD n c)),some (.val (.int m)),none,none,none,none,none,some (.own (matD n (m+1) R)),some (.own (ldD l L)),some (.val (.int last))] (Rt r)->m_q29 [tabD n m t,frD n c]=some r:=fun {r} h=>by
  refine run_wp (ρ:= [some (.val (tabD n m t)),some (.val (frD n c)),none,none,none,none,none,none]) rfl rfl ?_;unfold b_q29;refine wp_asgS (r:= .val (.int m)) ?_ ?_
  . have e : dix (.val (tabD n m t)) (.val (.int 0)) = some (.val (frD m (t 0))) := by
     unfold dix tabD;simp only [Sl.dat];rw [show (0:Int)=((0:Nat):Int) from rfl,atI_range (show 0<n by omega)];rfl
    refine callP_to (consP_to (bin_eq (a:= .val (tabD n m t)) (b:= .val (.int 0)) rfl rfl |>.trans e) rfl) ?_;simp only [dLen,Sl.dat,frD,List.length_map,List.length_range]
  . refine wp_obj (φ:=flds n (m+1) R l L last) rfl ?_ h;show mCallO m_q33 _ [some (.val (tabD n m t)),some (.val (frD n c)),some (.val (.int m)),none,none,none,none,none]=_;unfold mCallO;rw [cons_to (aug_tab (n:=n) (m:=m) (t:=t) (c:=c) rfl rfl (by omega) (by omega)) (show mNil _=some [] from rfl)];exact hs
 have tst:(mTest (mBin (dInD false) (mPk 2) (mPk 9))) [some (.val (tabD n m t)),some (.val (frD n c)),some (.val (.int m)),none,none,none,none,none,some (.own (matD n (m+1) R)),some (.own (ldD l L)),some (.val (.int last))]=some (decide (∃s,s<l/\L s=m)) :=
  test_eq ((bin_eq (op:=dInD false) (a:= .val (.int m)) (b:= .own (ldD l L)) rfl rfl).trans in_ld)
 refine ⟨fun h=>w ?_,fun h=>w ?_⟩
 . refine wp_seqG (wp_ifT (tst.trans (by rw [decide_eq_true h])) (wp_ret rfl rfl))
 . refine wp_skip (tst.trans (by rw [decide_eq_false (by rintro ⟨s,h1,h2⟩;exact h s h1 h2)])) ?_;have rc:=run_rc I (j:=m) (by omega) k.n32 k.m1000 hR hlast hx;refine wp_seqN (ρ':= [some (.val (tabD n m t)),some (.val (frD n c)),some (.val (.int m)),none,some (.own ((List.range l).map fun s=>encF (fr (Ba.redx B l L m s) last))),none,none,none,some (.own (matD n (m+1) R)),some (.own (ldD l L)),some (.val (.int last))]) ?_ ?_
   . rw [frz_eq];refine asg_to (call_to (ds:= [.list ((List.range l).map fun t=> .int (Ba.redx B l L m t)), .int last]) ?_ (run_fo (Nat.le_trans hl (Nat.le_trans n32 (by decide))) I.nz (hlast.mono (by decide))))
     have e:(mMethR 8 m_q3 (mCons (mVar 2) mNil)) [some (.val (tabD n m t)),some (.val (frD n c)),some (.val (.int m)),none,none,none,none,none,some (.own (matD n (m+1) R)),some (.own (ldD l L)),some (.val (.int last))]=some (.own ((List.range l).map fun t=> .int (Ba.redx B l L m t))) :=
      methR_to (ds:= [.int (m:Int)]) (fd:= [.list (matD n (m+1) R), .list (ldD l L), .int last]) rfl rfl rc ints_flat
     exact cons_to e (cons_to (a:= .val (.int last)) (as:= []) rfl rfl)
   . refine wp_asgS (r:= .own ((List.range m).map fun _=>c_NOUGHT)) ((bin_eq (a:= .own [c_NOUGHT]) (b:= .val (.int ((m:Nat):Int))) (lst1 (a:= .val c_NOUGHT) rfl) rfl).trans (rep_to (by omega))) ?_;show Wp _ [some (.val (tabD n m t)),some (.val (frD n c)),some (.val (.int m)),none,some (.own ((List.range l).map fun s=>encF (fr (Ba.redx B l L m s) last))),some (.own ((List.range m).map fun _=>c_NOUGHT)),none,none,some (.own (matD n (m+1) R)),some (.own (ldD l L)),some (.val (.int last))] _;refine wp_seq (P:=fun ρ=>∃z6 z7,ρ = [some (.val (tabD n m t)),some (.val (frD n c)),some (.val (.int m)),none,some (.val (.list ((List.range l).map fun s=>encF (fr (Ba.redx B l L m s) last)))),some (.own ((List.range m).map fun j=>encF (fnd L (fun s=>fr (Ba.redx B l L m s) last) l j))),z6,z7,some (.own (matD n (m+1) R)),some (.val (.list (ldD l L))),some (.val (.int last))]) (wp_frz (wp_frz ?_)) ?_
     . refine wp_for (ds:=(List.range l).map fun s=> .tuple [.int (L s),encF (fr (Ba.redx B l L m s) last)]) (fun s ρ=>∃z6 z7,ρ = [some (.val (tabD n m t)),some (.val (frD n c)),some (.val (.int m)),none,some (.val (.list ((List.range l).map fun s=>encF (fr (Ba.redx B l L m s) last)))),some (.own ((List.range m).map fun j=>encF (fnd L (fun s=>fr (Ba.redx B l L m s) last) s j))),z6,z7,some (.own (matD n (m+1) R)),some (.val (.list (ldD l L))),some (.val (.int last))]) ?_ ⟨_,_,rfl⟩ ?_ ?_
       . unfold mZip;rw [cons_to (a:= .val (.list (ldD l L))) rfl (cons_to (a:= .val (.list ((List.range l).map fun s=>encF (fr (Ba.redx B l L m s) last)))) rfl rfl)];show some (zipD ((List.range l).map fun s=> .int (L s)) ((List.range l).map fun s=>encF (fr (Ba.redx B l L m s) last)))=_;rw [zip_range]
       . rintro s d ρ hd ⟨z6,z7,rfl⟩
         have hs:s<l:=by
          have:=(List.getElem?_eq_some_iff.mp hd).1;simpa using this
         rw [List.getElem?_map,List.getElem?_range hs] at hd
         cases hd
         refine ⟨_,rfl,?_⟩
         have hLm:L s<m:=by
          have h1:=I.Lc s hs;have h2:=h s hs;omega
         refine wp_of (set_to (r:= .val (encF (fr (Ba.redx B l L m s) last))) (k:=((L s:Nat):Int)) (j:=L s) rfl rfl rfl (by rw [List.length_map,List.length_range];exact ixN_nat hLm)) ?_;refine ⟨some (.val (.int (L s))),some (.val (encF (fr (Ba.redx B l L m s) last))),?_⟩;show [some (Sl.val (tabD n m t)),some (.val (frD n c)),some (.val (.int m)),none,some (.val (.list ((List.range l).map fun s=>encF (fr (Ba.redx B l L m s) last)))),some (.own (((List.range m).map fun j=>encF (fnd L (fun s=>fr (Ba.redx B l L m s) last) s j)).set (L s) (encF (fr (Ba.redx B l L m s) last)))),some (.val (.int (L s))),some (.val (encF (fr (Ba.redx B l L m s) last))),some (.own (matD n (m+1) R)),some (.val (.list (ldD l L))),some (.val (.int last))]=_;rw [set_range]
         have e:((List.range m).map fun i=>if i=L s then encF (fr (Ba.redx B l L m s) last) else encF (fnd L (fun s=>fr (Ba.redx B l L m s) last) s i))=(List.range m).map fun j=>encF (fnd L (fun s=>fr (Ba.redx B l L m s) last) (s+1) j):=List.map_congr_left fun j _=>by
          rw [fnd]
          by_cases hj:j=L s
          . rw [if_pos hj,if_pos hj]
          . rw [if_neg hj,if_neg hj]
         rw [e]
       . rintro ρ ⟨z6,z7,rfl⟩;rw [List.length_map,List.length_range];exact ⟨_,_,rfl⟩
     . rintro ρ ⟨z6,z7,rfl⟩;exact wp_ret rfl rfl
theorem frac_cross{a b c d:Int}(hb:0<b)(hd:0<d)(g1:Int.gcd a b=1)(g2:Int.gcd c d=1)(e:a*d=c*b):(a,b)=(c,d):=by
 have d1:b ∣ d:=by
  have:b ∣ a*d:=⟨c,by rw [e];ac_rfl⟩;refine Int.natAbs_dvd_natAbs.mp (Nat.Coprime.dvd_of_dvd_mul_left (m:=a.natAbs) (by rw [Nat.coprime_comm];exact g1) ?_);rw [<-Int.natAbs_mul];exact Int.natAbs_dvd_natAbs.mpr this
 have d2:d ∣ b:=by
  have:d ∣ c*b:=⟨a,by rw [<-e];ac_rfl⟩;refine Int.natAbs_dvd_natAbs.mp (Nat.Coprime.dvd_of_dvd_mul_left (m:=c.natAbs) (by rw [Nat.coprime_comm];exact g2) ?_);rw [<-Int.natAbs_mul];exact Int.natAbs_dvd_natAbs.mpr this
 have ebd:b=d:=Int.dvd_antisymm (by omega) (by omega) d1 d2;subst ebd;have:a=c:=Int.eq_of_mul_eq_mul_right (by omega) e;rw [this]
theorem fr_eq{a b c d:Int}(hb:b≠0)(hd:d≠0)(e:a*d=c*b):fr a b=fr c d:=by
 have h:=frac_cross (a:=(fr a b).1) (b:=(fr a b).2) (c:=(fr c d).1) (d:=(fr c d).2) (fr_pos hb) (fr_pos hd) (fr_gcd hb) (fr_gcd hd) (by
  have h1:=fr_cross (a:=a) hb;have h2:=fr_cross (a:=c) hd;refine Ba.mul_cancel (a:=b*d) (Int.mul_ne_zero hb hd) ?_
  calc b*d*((fr a b).1*(fr c d).2)=((fr a b).1*b)*(d*(fr c d).2):=by ac_rfl
   _=(a*d)*((fr a b).2*(fr c d).2):=by rw [h1];ac_rfl
   _=(c*(fr c d).2)*(b*(fr a b).2):=by rw [e];ac_rfl
   _=b*d*((fr c d).1*(fr a b).2):=by rw [<-h2];ac_rfl)
 exact h
theorem fr_one(a:Int):fr a 1=(a,1):=by
 have h:=fr_cross (a:=a) (b:=1) (by decide);have p:=fr_pos (a:=a) (b:=1) (by decide);have g:=fr_gcd (a:=a) (b:=1) (by decide);have:=frac_cross (a:=(fr a 1).1) (b:=(fr a 1).2) (c:=a) (d:=1) p (by decide) g (Int.gcd_one_right ..) h;exact this
theorem fr_zero{e:Int}(he:e≠0):fr 0 e=(0,1):=by
 rw [<-fr_one];exact fr_eq he (by decide) (by rw [Int.zero_mul,Int.zero_mul])
theorem app_eq{a b a' b':List PyData}(h1:a=a')(h2:b=b'):some (Sl.own (a++b))=some (Sl.own (a'++b')):=by rw [h1,h2]
def tz(A:Ba.Mx):Tb:=fun i j=>(A i j,1)
def augZ(m:Nat)(A:Ba.Mx)(c:Nat->Int):Ba.Mx:=fun i j=>if j<m then A i j else c i
theorem aug_tz{m:Nat}{A:Ba.Mx}{c:Nat->Int}:aug m (tz A) (fun i=>(c i,1))=tz (augZ m A c):=by
 funext i j;unfold aug tz augZ
 by_cases h:j<m
 . rw [if_pos h,if_pos h]
 . rw [if_neg h,if_neg h]
theorem cb_one{a:Nat->Int}:∀m,cbN (fun j=>(a j,1)) m=1
 | 0=>rfl
 | m+1=>by
  rw [cbN,cb_one m];show Int.fdiv 1 ((Int.gcd 1 1:Nat):Int)*1=1;decide
theorem W_tz{m:Nat}{A:Ba.Mx}:W m (tz A)=A:=by
 funext i j;show A i j*(cbN (fun j=>(A i j,1)) m).fdiv 1=_;rw [cb_one];show A i j*1=_;rw [Int.mul_one]
theorem tab_tz{n m Y:Nat}{A:Ba.Mx}(h1:1<=n)(hn:n<=32)(hm:m<=1000)(hY1:1<=Y)(hA:∀i,i<n->∀j,j<m->(A i j).natAbs<=Y)(hY:(32*Y) ^ n<2 ^ 4000):TabOk n m 1 Y (tz A) :=
 ⟨h1,hn,hm,Nat.le_refl _,hY1,fun i hi j hj=>⟨by show (0:Int)<1;decide,by show (1:Int).natAbs<=1;decide⟩,hA,by rw [Nat.one_pow,Nat.mul_one];exact hY⟩
theorem run_solZ {n m Y : Nat} {A : Ba.Mx} {c : Nat -> Int} (h1 : 1 <= n) (hn : n <= 32) (hm1 : 1 <= m) (hm : m <= 199) (hY1 : 1 <= Y) (hA : ∀ i, i < n -> ∀ j, j < m -> (A i j).natAbs <= Y) (hc : ∀ i, i < n -> (c i).natAbs <= Y) (hY : (32 * Y) ^ n < 2 ^ 4000) :
 (∃q:Nat->Int,(∀j,j<m->Ba.sumN n (fun i=>q i*A i j)=0)/\Ba.sumN n (fun i=>q i*c i)≠0/\m_q29 [tabD n m (tz A),frD n (fun i=>(c i,1))]=some (.val .none)) \/
 (∃(X:Nat->Int) (e:Int),e≠0/\e.natAbs<=(32*Y) ^ n/\(∀j,j<m->(X j).natAbs<=(32*Y) ^ n*(32*Y) ^ n)/\(∀i,i<n->Ba.sumN m (fun j=>A i j*X j)=e*c i)/\m_q29 [tabD n m (tz A),frD n (fun i=>(c i,1))]=some (.own ((List.range m).map fun j=>encF (fr (X j) e)))):=by
 have k:TabOk n (m+1) 1 Y (aug m (tz A) (fun i=>(c i,1))):=by
  rw [aug_tz];refine tab_tz h1 hn (by omega) hY1 (fun i hi j _=> ?_) hY;unfold augZ
  by_cases h:j<m
  . rw [if_pos h];exact hA i hi j h
  . rw [if_neg h];exact hc i hi
 obtain ⟨R,l,L,last,B,I,hlast,hx,s1,s2⟩:=run_sol k hm1 hm;rw [aug_tz,W_tz] at I
 rw [Nat.one_pow,Nat.mul_one] at hlast hx
 have lo:∀i j,j<m->augZ m A c i j=A i j:=fun i j h=>if_pos h;have hi:∀i,augZ m A c i m=c i:=fun i=>if_neg (by omega)
 by_cases h:∃s,s<l/\L s=m
 . left;obtain ⟨s,hs,e⟩:=h;obtain ⟨q,q1,q2⟩:=I.never hs e;refine ⟨q,fun j hj=> ?_,?_,s1 ⟨s,hs,e⟩⟩
   . rw [<-q1 j hj];exact Ba.sum_congr fun i _=>by rw [lo i j hj]
   . intro z;apply q2;rw [<-z];exact Ba.sum_congr fun i _=>by rw [hi i]
 . right;have h:∀s,s<l->L s≠m:=fun s hs e=>h ⟨s,hs,e⟩;have at1:∀t,t<l -> - Ba.kv l L (fun t j=>Ba.redx B l L j t) last m (L t)=Ba.redx B l L m t:=fun t ht=>by rw [I.rr.kv_L ht (h t ht),Int.neg_neg]
   have at0:∀j,j<m->(∀t,t<l->L t≠j) -> - Ba.kv l L (fun t j=>Ba.redx B l L j t) last m j=0:=fun j hj hn=>by rw [Ba.kv_else (by omega) hn,Int.neg_zero]
   refine ⟨fun j=> - Ba.kv l L (fun t j=>Ba.redx B l L j t) last m j,last,I.nz,hlast,fun j hj=> ?_,fun i hin=> ?_,?_⟩
   . by_cases hx':∃t,t<l/\L t=j
     . obtain ⟨t,ht,rfl⟩:=hx';show (- Ba.kv l L (fun t j=>Ba.redx B l L j t) last m (L t)).natAbs<=_;rw [at1 t ht];exact hx t ht
     . show (- Ba.kv l L (fun t j=>Ba.redx B l L j t) last m j).natAbs<=_;rw [at0 j hj fun t ht e=>hx' ⟨t,ht,e⟩];exact Nat.zero_le _
   . have f:=I.found h (X:=fun j=> - Ba.kv l L (fun t j=>Ba.redx B l L j t) last m j) at1 at0 i hin;rw [hi i] at f
     rw [<-f];exact Ba.sum_congr fun j hj=>by rw [lo i j hj]
   . rw [s2 h];congr 2
     refine List.map_congr_left fun j hj=> ?_;have hj:=List.mem_range.mp hj
     by_cases hx':∃t,t<l/\L t=j
     . obtain ⟨t,ht,rfl⟩:=hx';show _=encF (fr (- Ba.kv l L (fun t j=>Ba.redx B l L j t) last m (L t)) last);rw [fnd_at I.Li ht,at1 t ht]
     . have hx':∀t,t<l->L t≠j:=fun t ht e=>hx' ⟨t,ht,e⟩;show _=encF (fr (- Ba.kv l L (fun t j=>Ba.redx B l L j t) last m j) last);rw [fnd_else hx',at0 j hj hx',fr_zero I.nz]
def layZ(m:Nat)(A:Ba.Mx)(c:Nat->Int):Ba.Mx:=fun j i=>if j<m then A i j else c i
theorem run_witZ {n m : Nat} {A : Ba.Mx} {c : Nat -> Int} {r : Sl} (h1 : 1 <= n) (hn : n <= 32) (hm : m <= 32)
 (h:m_q29 [tabD (m+1) n (tz (layZ m A c)),frD (m+1) (fun j=>(if j<m then 0 else 1,1))]=some r):m_q42 [tabD n m (tz A),frD n (fun i=>(c i,1))]=some r:=by
 have hs:=sl1000;have lo:=run_lo (n:=m) (m:=n) (f:=fun i j=>encF (tz A i j)) (by omega) h1 (by omega);refine run_wp (ρ:= [some (.val (tabD n m (tz A))),some (.val (frD n (fun i=>(c i,1)))),none]) rfl rfl ?_;unfold b_q42;refine wp_asgS (call_to (ds:= [tabD n m (tz A)]) rfl lo) ?_;show Wp _ [some (.val (tabD n m (tz A))),some (.val (frD n (fun i=>(c i,1)))),some (.own ((List.range m).map fun j=> .list ((List.range n).map fun i=>encF (tz A i j))))] _;refine wp_ret (call_to (ds:= [tabD (m+1) n (tz (layZ m A c)),frD (m+1) (fun j=>(if j<m then 0 else 1,1))]) ?_ h) rfl;refine cons_to (a:= .own ((List.range (m+1)).map fun j=>frD n (tz (layZ m A c) j))) ?_ (cons_to (a:= .own ((List.range (m+1)).map fun j=>encF (if j<m then 0 else 1,1))) ?_ rfl)
 . refine (bin_eq (op:=dAdd) rfl (lst1 (a:= .own ((List.range n).map fun i=>encF (c i,1))) rfl)).trans ((add_own rfl rfl ?_).trans ?_)
   . rw [List.length_map,List.length_range];show m+1<=_;omega
   . rw [List.range_succ,List.map_append];refine app_eq ?_ ?_
     . refine List.map_congr_left fun j hj=> ?_;show PyData.list _=PyData.list _;refine congrArg PyData.list (List.map_congr_left fun i _=> ?_);unfold tz layZ;rw [if_pos (List.mem_range.mp hj)]
     . show [PyData.list _] = [PyData.list _];refine congrArg (fun x=> [PyData.list x]) (List.map_congr_left fun i _=> ?_);unfold tz layZ;rw [if_neg (by omega)]
 . have e : (mBin dRep (mLst (mCons (mK c_NOUGHT) mNil)) (mCallP dLen (mConsP (mPk 2) mNilP))) [some (.val (tabD n m (tz A))), some (.val (frD n (fun i => (c i, 1)))), some (.own ((List.range m).map fun j => .list ((List.range n).map fun i => encF (tz A i j))))] = some (.own ((List.range m).map fun _ => c_NOUGHT)) := by
    refine (bin_eq (a:= .own [c_NOUGHT]) (b:= .val (.int ((m:Nat):Int))) (lst1 (a:= .val c_NOUGHT) rfl) ?_).trans (rep_to (by omega));exact callP_to (consP_to rfl rfl) (by simp only [dLen,Sl.dat,List.length_map,List.length_range])
   refine (bin_eq (op:=dAdd) e (lst1 (a:= .val c_UNIT) rfl)).trans ((add_own rfl rfl ?_).trans ?_)
   . rw [List.length_map,List.length_range];show m+1<=_;omega
   . rw [List.range_succ,List.map_append];refine app_eq ?_ ?_
     . refine List.map_congr_left fun j hj=> ?_;rw [if_pos (List.mem_range.mp hj)];rfl
     . show [c_UNIT] = [encF _];rw [if_neg (by omega)];rfl
theorem run_solvedZ {n m Y : Nat} {A : Ba.Mx} {c : Nat -> Int} (h1 : 1 <= n) (hn : n <= 32) (hm1 : 1 <= m) (hm : m <= 31) (hY1 : 1 <= Y) (hA : ∀ i, i < n -> ∀ j, j < m -> (A i j).natAbs <= Y) (hc : ∀ i, i < n -> (c i).natAbs <= Y) (hY : (32 * Y) ^ n < 2 ^ 4000) (hY2 : (32 * Y) ^ (m + 1) < 2 ^ 4000) :
 (∃(q:Nat->Int) (X:Nat->Int) (e:Int),(∀j,j<m->Ba.sumN n (fun i=>q i*A i j)=0)/\Ba.sumN n (fun i=>q i*c i)≠0/\e≠0/\e.natAbs<=(32*Y) ^ (m+1)/\(∀i,i<n->(X i).natAbs<=(32*Y) ^ (m+1)*(32*Y) ^ (m+1))/\(∀j,j<m->Ba.sumN n (fun i=>A i j*X i)=0)/\Ba.sumN n (fun i=>c i*X i)=e /\
  m_q30 [tabD n m (tz A),frD n (fun i=>(c i,1))]=some (.val (.tuple [.str "never", .list ((List.range n).map fun i=>encF (fr (X i) e))]))) \/
 (∃(X:Nat->Int) (e:Int),e≠0/\e.natAbs<=(32*Y) ^ n/\(∀j,j<m->(X j).natAbs<=(32*Y) ^ n*(32*Y) ^ n)/\(∀i,i<n->Ba.sumN m (fun j=>A i j*X j)=e*c i)/\m_q30 [tabD n m (tz A),frD n (fun i=>(c i,1))]=some (.val (.tuple [.str "found", .list ((List.range m).map fun j=>encF (fr (X j) e))]))):=by
 rcases run_solZ h1 hn hm1 (by omega) hY1 hA hc hY with ⟨q,q1,q2,hq⟩ | ⟨X,e,e0,eb,xb,hx,hs⟩
 . left;have lo:∀j i,j<m->layZ m A c j i=A i j:=fun j i h=>if_pos h;have hi:∀i,layZ m A c m i=c i:=fun i=>if_neg (by omega)
   rcases run_solZ (n:=m+1) (m:=n) (A:=layZ m A c) (c:=fun j=>if j<m then 0 else 1) (by omega) (by omega) h1 (by omega) hY1 (fun j _ i hi'=>by
    unfold layZ
    by_cases h:j<m
    . rw [if_pos h];exact hA i hi' j h
    . rw [if_neg h];exact hc i hi') (fun j _=>by
    show ((if j<m then 0 else 1:Int)).natAbs<=Y
    split
    . exact Nat.zero_le _
    . exact hY1) hY2 with ⟨p,p1,p2,_⟩ | ⟨X,e,e0,eb,xb,hx,hs⟩
   . exfalso
     have p2:p m≠0:=by
      intro z;apply p2;show Ba.sumN m (fun j=>p j*if j<m then 0 else 1)+p m*(if m<m then 0 else 1)=0;rw [z,Int.zero_mul,Int.add_zero];exact Ba.sum_zero fun j hj=>by rw [if_pos hj,Int.mul_zero]
     have key:∀i,i<n->Ba.sumN m (fun j=>p j*A i j)+p m*c i=0:=fun i hin=>by
      have:=p1 i hin;have t:Ba.sumN m (fun j=>p j*layZ m A c j i)+p m*layZ m A c m i=0:=this;rw [hi i] at t
      rw [<-t];congr 1
      exact Ba.sum_congr fun j hj=>by rw [lo j i hj]
     have z:Ba.sumN n (fun i=>q i*(Ba.sumN m (fun j=>p j*A i j)+p m*c i))=0:=Ba.sum_zero fun i hin=>by rw [key i hin,Int.mul_zero]
     have s:Ba.sumN n (fun i=>q i*(Ba.sumN m (fun j=>p j*A i j)+p m*c i))=Ba.sumN n (fun i=>Ba.sumN m (fun j=>p j*(q i*A i j)))+p m*Ba.sumN n (fun i=>q i*c i):=by
      rw [<-Ba.sum_mul, <-Ba.sum_add];refine Ba.sum_congr fun i _=> ?_;rw [Int.mul_add, <-Ba.sum_mul];congr 1
      . exact Ba.sum_congr fun j _=>by ac_rfl
      . ac_rfl
     rw [z,Ba.sum_comm] at s
     have s0:Ba.sumN m (fun j=>Ba.sumN n (fun i=>p j*(q i*A i j)))=0:=Ba.sum_zero fun j hj=>by rw [Ba.sum_mul,q1 j hj,Int.mul_zero]
     rw [s0,Int.zero_add] at s
     rcases Int.mul_eq_zero.mp s.symm with h | h
     . exact p2 h
     . exact q2 h
   . refine ⟨q,X,e,q1,q2,e0,eb,xb,fun j hj=> ?_,?_,?_⟩
     . have:=hx j (by omega);have t:Ba.sumN n (fun i=>layZ m A c j i*X i)=e*(if j<m then 0 else 1):=this;rw [if_pos hj,Int.mul_zero] at t
       rw [<-t];exact Ba.sum_congr fun i _=>by rw [lo j i hj]
     . have:=hx m (by omega);have t:Ba.sumN n (fun i=>layZ m A c m i*X i)=e*(if m<m then 0 else 1):=this;rw [if_neg (by omega),Int.mul_one] at t
       rw [<-t];exact Ba.sum_congr fun i _=>by rw [hi i]
     . have w:=run_witZ (A:=A) (c:=c) h1 hn (by omega) hs;refine run_wp (ρ:= [some (.val (tabD n m (tz A))),some (.val (frD n (fun i=>(c i,1)))),none]) rfl rfl ?_;unfold b_q30;refine wp_asgS (call_to (ds:= [tabD n m (tz A),frD n (fun i=>(c i,1))]) rfl hq) ?_;show Wp _ [some (.val (tabD n m (tz A))),some (.val (frD n (fun i=>(c i,1)))),some (.val .none)] _;exact wp_seqG (wp_ifT rfl (wp_ret (tup2 (a:= .val (.str "never")) rfl (call_to (ds:= [tabD n m (tz A),frD n (fun i=>(c i,1))]) rfl w)) rfl))
 . right;refine ⟨X,e,e0,eb,xb,hx,?_⟩;refine run_wp (ρ:= [some (.val (tabD n m (tz A))),some (.val (frD n (fun i=>(c i,1)))),none]) rfl rfl ?_;unfold b_q30;refine wp_asgS (call_to (ds:= [tabD n m (tz A),frD n (fun i=>(c i,1))]) rfl hs) ?_;show Wp _ [some (.val (tabD n m (tz A))),some (.val (frD n (fun i=>(c i,1)))),some (.own ((List.range m).map fun j=>encF (fr (X j) e)))] _;exact wp_skip rfl (wp_frz (wp_ret (tup2 (a:= .val (.str "found")) (b:= .val (.list ((List.range m).map fun j=>encF (fr (X j) e)))) rfl rfl) rfl))
theorem run_lfrac{a b:Int}(hb:0<b)(hB:Bt 9000 b):m_q6 [.int a, .int b]=some (.val (encF (fr a b))):=by
 refine runD_rt (ρ:= [some (.val (.int a)),some (.val (.int b)),none,none]) rfl rfl ?_;unfold b_q6;have hs:=sg_ne (a:=a) (show b≠0 by omega);have hS:=sg_bt (a:=a) (show b≠0 by omega) hB;have e:((Int.gcd a b:Nat):Int)=sg a b:=by unfold sg;rw [if_neg (by omega)]
 have gp:0<((Int.gcd a b:Nat):Int):=by rw [e];unfold sg at *;rw [if_neg (by omega)] at *;omega
 refine rts_seq (ρ':= [some (.val (.int a)),some (.val (.int b)),some (.val (.int a)),some (.val (.int b))]) (by walk_at "ev") ?_
 obtain ⟨ρ',h1,⟨x,y,rfl,hg⟩,h3⟩:=while_inv (c:=mTest (mBin dne (mPk 3) (mK (.int 0)))) (b:=(mPar 2 3 (mCons (mVar 3) (mCons (mBin dMod (mPk 2) (mPk 3)) mNil))))
  (ρ:= [some (.val (.int a)),some (.val (.int b)),some (.val (.int a)),some (.val (.int b))]) (fun ρ=>∃x y,ρ = [some (.val (.int a)),some (.val (.int b)),some (.val (.int x)),some (.val (.int y))]/\Int.gcd x y=Int.gcd a b)
  (fun ρ=>match ρ with | [_,_,_,some (.val (.int y))]=>y.natAbs | _=>0) ⟨a,b,rfl,rfl⟩ (by
   rintro ρ ⟨x,y,rfl,hg⟩
   by_cases hy:y=0
   . left
     walk_at "ev"
     simp [hy]
   . right;refine ⟨by walk_at "ev";simp [hy],_,by walk_at "ev";rw [modS hy];walk_at "ev",⟨_,_,rfl,(gcd_fmod x y).trans hg⟩,fmod_lt hy⟩)
 refine rts_seq h1 ?_
 have hy:y=0:=by
  revert h3
  walk_at "ev"
  simp
 subst hy;rw [Int.gcd_zero_right] at hg
 have xb:Bt 9000 x:=by
  refine Nat.lt_of_le_of_lt ?_ (show (sg a b).natAbs<2 ^ 9000 from hS);rw [<-e, <-hg];simp
 refine rts_seq (ρ':= [some (.val (.int a)),some (.val (.int b)),some (.val (.int (sg a b))),some (.val (.int 0))]) ?_ ?_
 . walk_at "ev"
   rw [mulS (.inr (cmulC (n:=9000) (m:=9000) xb hB rfl))]
   walk_at "ev"
   rcases (by omega:x=((Int.gcd a b:Nat):Int)\/x = - ((Int.gcd a b:Nat):Int)) with hx | hx
   . have:¬(x*b<0):=by rw [hx];have:=Int.mul_pos gp hb;omega
     have e2:sg a b=x:=by rw [<-e,hx]
     simp [this,e2]
   . have:x*b<0:=by rw [hx,Int.neg_mul];have:=Int.mul_pos gp hb;omega
     have e2:sg a b = - x:=by rw [<-e,hx,Int.neg_neg]
     simp [this,e2]
 . refine rts_ret ?_
   walk_at "ev"
   rw [divS ⟨hs,hS⟩,divS ⟨hs,hS⟩]
   walk_at "ev"
   rfl
theorem fr_same{q:Int×Int}(hp:0<q.2)(hg:Int.gcd q.1 q.2=1):fr q.1 q.2=q:=by
 have n0:q.2≠0:=by omega
 have h:=frac_cross (a:=(fr q.1 q.2).1) (b:=(fr q.1 q.2).2) (c:=q.1) (d:=q.2) (fr_pos n0) hp (fr_gcd n0) hg (fr_cross n0);exact h
theorem lay_enc(q:Int×Int):(encF q).canLay0=true:=rfl
theorem dep_enc(q:Int×Int):(encF q).depth<=60:=by simp [encF,PyData.depth,PyData.depthAll]
theorem bt_sum{n p:Nat}{f:Nat->Int}(hn:n<=8)(h:∀i,i<n->Bt p (f i)):Bt (p+3) (Ba.sumN n f):=by
 have key:∀k,k<=n->(Ba.sumN k f).natAbs<=k*(2 ^ p - 1):=fun k=>by
  induction k with
  | zero=>exact fun _=>by simp [Ba.sumN]
  | succ k ih=>
   intro hk;show (Ba.sumN k f+f k).natAbs<=_;have h1:=ih (by omega);have h2:(f k).natAbs<2 ^ p:=h k (by omega);have h3:=Int.natAbs_add_le (Ba.sumN k f) (f k);rw [Nat.add_mul,Nat.one_mul];omega
 have p1:0<2 ^ p:=Nat.pow_pos (by decide);have:=key n (Nat.le_refl _);have h2:n*(2 ^ p - 1)<=8*(2 ^ p - 1):=Nat.mul_le_mul_right _ hn;show (Ba.sumN n f).natAbs<2 ^ (p+3);rw [Nat.pow_add];omega
theorem bt_le{p:Nat}{x:Int}(h:x.natAbs<=2 ^ p):Bt (p+1) x:=by
 show x.natAbs<2 ^ (p+1);have p1:0<2 ^ p:=Nat.pow_pos (by decide);rw [Nat.pow_succ];omega
theorem lcm_fdiv{c b:Int}(hc:0<c)(hb:0<b):c.fdiv (Int.gcd c b)*b=(Int.lcm c b:Nat):=by
 have hg:0<Int.gcd c b:=Int.gcd_pos_iff.mpr (.inl (by omega));have gl:=Int.gcd_mul_lcm c b;obtain ⟨x,hx⟩:=Int.gcd_dvd_left c b;have gp:((Int.gcd c b:Nat):Int)≠0:=by omega
 have ex:c.fdiv (Int.gcd c b)=x:=by
  have:c.fdiv (Int.gcd c b)=(((Int.gcd c b:Nat):Int)*x).fdiv (Int.gcd c b):=by rw [<-hx]
  rw [this,Int.mul_fdiv_cancel_left _ gp]
 rw [ex];refine Int.eq_of_mul_eq_mul_left gp ?_;have cb:((c*b).natAbs:Int)=c*b:=Int.natAbs_of_nonneg (Int.le_of_lt (Int.mul_pos hc hb))
 calc ((Int.gcd c b:Nat):Int)*(x*b)=c*b:=by rw [<-Int.mul_assoc, <-hx]
  _=((Int.gcd c b*Int.lcm c b:Nat):Int):=by rw [gl,Int.natCast_mul,Int.natAbs_of_nonneg (Int.le_of_lt hc),Int.natAbs_of_nonneg (Int.le_of_lt hb)]
  _=_:=by rw [Int.natCast_mul]
theorem lcm_dvd_{a b c:Int}(h1:a ∣ c)(h2:b ∣ c):((Int.lcm a b:Nat):Int) ∣ c:=Int.natAbs_dvd_natAbs.mp (by rw [Int.natAbs_natCast];exact Nat.lcm_dvd (Int.natAbs_dvd_natAbs.mpr h1) (Int.natAbs_dvd_natAbs.mpr h2))
theorem run_sop{n:Nat}{a b:Nat->Int}(hn:n<=200)(ha:∀k,k<n->Bt 4000 (a k))(hb:∀k,k<n->Bt 4000 (b k)):m_q34 [rowD n a,rowD n b]=some (.val (.int (Ba.sumN n fun k=>a k*b k))):=by
 have hs:=sl1000;refine run_wp (ρ:= [some (.val (rowD n a)),some (.val (rowD n b))]) rfl rfl ?_;unfold b_q34;refine wp_ret (callP_to (consP_to (a:= .own ((List.range n).map fun k=> .int (a k*b k))) (lc_to (ds:=(List.range n).map fun k=> .tuple [.int (a k), .int (b k)]) ?_ (by rw [List.length_map,List.length_range];omega) (compM_map fun k hk=> ?_)) rfl) sum_to) rfl
 . unfold mZip;rw [cons_to (a:= .val (rowD n a)) rfl (cons_to (a:= .val (rowD n b)) rfl rfl)];show some (zipD ((List.range n).map fun k=> .int (a k)) ((List.range n).map fun k=> .int (b k)))=_;rw [zip_range]
 . have hk:=List.mem_range.mp hk;show elM _ _ _ [none,none] _=_;exact el_to (ρ1:= [some (.val (.int (a k))),some (.val (.int (b k)))]) (r:= .val (.int (a k*b k))) rfl ((bin_eq (op:=dRep) (a:= .val (.int (a k))) (b:= .val (.int (b k))) rfl rfl).trans (mulS (.inr (cmulC (n:=4000) (m:=4000) (ha k hk) (hb k hk) rfl))))
theorem run_asf{n:Nat}{a:Nat->Int}(hn:n<=200):m_q13 [rowD n a]=some (.own ((List.range n).map fun j=>encF (a j,1))):=by
 have hs:=sl1000;refine run_wp (ρ:= [some (.val (rowD n a))]) rfl rfl ?_;unfold b_q13;refine wp_ret (lc_to (ds:=(List.range n).map fun j=> .int (a j)) rfl (by rw [List.length_map,List.length_range];omega) (compM_map fun j _=> ?_)) rfl;show elM _ _ _ [none] _=_;exact el_to (ρ1:= [some (.val (.int (a j)))]) (r:= .val (encF (a j,1))) rfl (tup2 (a:= .val (.int (a j))) (b:= .val (.int 1)) rfl rfl)
theorem run_cp{N m:Nat}{R:Ba.Mx}(h1:1<=N)(hN:N<=200)(hm:m<=200)(hR:∀k,k<N->∀j,j<m->Bt 4000 (R k j)):m_q15 [.list (matD N m R)]=some (.own ((List.range m).map fun i=>frD m (tz (Ba.gram N R) i))):=by
 have hs:=sl1000;have lo:=run_lo (n:=m) (m:=N) (f:=fun k j=> .int (R k j)) hm h1 (by omega);refine run_wp (ρ:= [some (.val (.list (matD N m R))),none]) rfl rfl ?_;unfold b_q15;refine wp_asgS (call_to (ds:= [.list (matD N m R)]) rfl lo) (wp_frz ?_)
 let C1:Option Sl:=some (.val (.list ((List.range m).map fun j=> .list ((List.range N).map fun k=> .int (R k j)))))
 show Wp _ [some (.val (.list (matD N m R))),C1] _;refine wp_ret (lc_to (ds:=(List.range m).map fun j=>rowD N fun k=>R k j) rfl (by rw [List.length_map,List.length_range];omega) (compM_map fun i hi=> ?_)) rfl;have hi:=List.mem_range.mp hi;show elM _ _ _ [C1,none] _=_;refine el_to (ρ1:= [C1,some (.val (rowD N fun k=>R k i))]) (r:= .own ((List.range m).map fun j=>encF (Ba.gram N R i j,1))) rfl ?_;refine call_to (ds:= [rowD m (Ba.gram N R i)]) (cons_to (a:= .own ((List.range m).map fun j=> .int (Ba.gram N R i j))) ?_ rfl) (run_asf hm);refine lc_to (ds:=(List.range m).map fun j=>rowD N fun k=>R k j) rfl (by rw [List.length_map,List.length_range];omega) (compM_map fun j hj=> ?_);have hj:=List.mem_range.mp hj;show elM _ _ _ [some (.val (rowD N fun k=>R k i)),none] _=_;exact el_to (ρ1:= [some (.val (rowD N fun k=>R k i)),some (.val (rowD N fun k=>R k j))]) (r:= .val (.int (Ba.gram N R i j))) rfl (call_to (ds:= [rowD N fun k=>R k i,rowD N fun k=>R k j]) rfl (run_sop hN (fun k hk=>hR k hk i hi) (fun k hk=>hR k hk j hj)))
theorem lay_s:(PyData.str "found").canLay0=true/\(PyData.str "told").canLay0=true/\(PyData.str "hidden").canLay0=true/\(PyData.str "never").canLay0=true:=by decide +kernel
theorem eq_ff:eqD (.str "found") (.str "found")=some true:=by decide +kernel
theorem eq_s{fa fb:En->Option Sl}{ρ:En}{a b:PyData}{k:Bool}(ha:fa ρ=some (.val a))(hb:fb ρ=some (.val b))(h:eqD a b=some k):mTest (mBin deq fa fb) ρ=some k:=by
 refine test_eq ((bin_eq ha hb).trans ?_);show (eqD a b).map _=_;rw [h];rfl
theorem fr_dvd{a b:Int}(hb:b≠0):(fr a b).2 ∣ b:=⟨sg a b,(fr_mul a b hb).2.symm⟩
theorem bt_dvd{n:Nat}{a E:Int}(hE:E≠0)(h:a ∣ E)(B:Bt n E):Bt n a:=Nat.lt_of_le_of_lt (Nat.le_of_dvd (by omega) (Int.natAbs_dvd_natAbs.mpr h)) B
theorem cb_dvd{r:Nat->Int×Int}{E:Int}(hE:E≠0):∀ {m:Nat},(∀j,j<m->0<(r j).2/\(r j).2 ∣ E)->0<cbN r m/\cbN r m ∣ E/\∀j,j<m->(r j).2 ∣ cbN r m:=fun {m} h=>by
 have hb:∀j,j<m->0<(r j).2/\(r j).2.natAbs<=E.natAbs:=fun j hj=>⟨(h j hj).1,Nat.le_of_dvd (by omega) (Int.natAbs_dvd_natAbs.mpr (h j hj).2)⟩;obtain ⟨h1,c_,h3⟩:=cb_all (r:=r) (m:=m) hb;refine ⟨h1,?_,h3⟩;clear h1 h3 c_
 induction m with
 | zero=>exact Int.one_dvd E
 | succ m ih=>
  have i:=ih (fun j hj=>h j (by omega)) (fun j hj=>hb j (by omega));obtain ⟨p,_,_⟩:=cb_all (r:=r) (m:=m) fun j hj=>hb j (by omega);have q:=h m (by omega);show (cbN r m).fdiv (Int.gcd (cbN r m) (r m).2)*(r m).2 ∣ E;rw [lcm_fdiv p q.1];exact lcm_dvd_ i q.2
theorem run_cbD{m:Nat}{r:Nat->Int×Int}{E:Int}(hE:E≠0)(BE:Bt 4000 E)(h:∀j,j<m->0<(r j).2/\(r j).2 ∣ E):m_q17 [frD m r]=some (.val (.int (cbN r m))):=by
 obtain ⟨ρ',hf,z,rfl⟩:=forM_list (fg:=gVar 2) (gb:=(mFrz 1 (mAsg 1 (mBin dRep (mBin dFdiv (mPk 1) (mCall m_q23 (mCons (mVar 1) (mCons (mBin dix (mPk 2) (mK (.int 1))) mNil)))) (mBin dix (mPk 2) (mK (.int 1)))))))
  (ds:=(List.range m).map fun j=>encF (r j)) (ρ:= [some (.val (frD m r)),some (.val (.int 1)),none]) (fun i ρ=>∃z,ρ = [some (.val (frD m r)),some (.val (.int (cbN r i))),z]) ⟨none,rfl⟩ (by
   rintro i d ρ hd ⟨z,rfl⟩;rw [List.getElem?_map] at hd
   by_cases hi:i<m
   . rw [List.getElem?_range hi] at hd
     cases hd
     obtain ⟨c1,c2,c3⟩:=cb_dvd (r:=r) hE (m:=i) fun j hj=>h j (by omega);obtain ⟨h4,h5⟩:=h i hi;have b1:Bt 4000 (cbN r i):=bt_dvd hE c2 BE;have b2:Bt 4000 (r i).2:=bt_dvd hE h5 BE;have hg:0<Int.gcd (cbN r i) (r i).2:=Int.gcd_pos_iff.mpr (.inl (by omega))
     have b3:Bt 4000 ((Int.gcd (cbN r i) (r i).2:Nat):Int):=by
      refine b2.of_le ?_;have:=Int.natAbs_dvd_natAbs.mpr (Int.gcd_dvd_right (cbN r i) (r i).2);exact Nat.le_of_dvd (by omega) (by simpa using this)
     refine ⟨_,rfl,[some (.val (frD m r)),some (.val (.int (cbN r (i+1)))),some (.val (encF (r i)))], .inl ?_,_,rfl⟩;simp only [mFrz,frz1,mAsg,mBin,mPk,mVar,mK,mCall,mCons,mNil,List.set_cons_succ,List.set_cons_zero,List.getElem?_cons_zero,List.getElem?_cons_succ,Option.join_some,Option.bind_some,dix_f1,Sl.dat,run_gd];rw [divS ⟨by omega,b3.mono (by decide)⟩];simp only [Option.bind_some];rw [mulS (.inr (cmulC (n:=4000) (m:=4000) b1.fdiv b2 rfl))];rfl
   . rw [List.getElem?_eq_none (l:=List.range m) (by simpa using hi)] at hd;cases hd)
 rw [List.length_map,List.length_range] at hf
 refine runD_rt (ρ:= [some (.val (frD m r)),none,none]) rfl rfl ?_;unfold b_q17;refine rts_seq (asg_to (r:= .val (.int 1)) rfl) (rts_seq (for_to (ds:=(List.range m).map fun j=>encF (r j)) rfl hf) (rts_ret rfl))
theorem run_wrD{m:Nat}{r:Nat->Int×Int}{E:Int}(hE:E≠0)(BE:Bt 4000 E)(h:∀j,j<m->0<(r j).2/\(r j).2 ∣ E)(hT:∀j,j<m->Bt 4000 (r j).1)(hm:m<=1000):m_q41 [frD m r]=some (.own ((List.range m).map fun j=> .int (whN m r j))):=by
 obtain ⟨c1,c2,c3⟩:=cb_dvd (r:=r) hE (m:=m) h;refine runD_rt (ρ:= [some (.val (frD m r)),none]) rfl rfl ?_;unfold b_q41;refine rts_seq (asg_to (call_to (ds:= [frD m r]) rfl (run_cbD hE BE h))) (rts_ret (lc_to (ds:=(List.range m).map fun j=>encF (r j)) rfl ?_ ?_))
 . rw [List.length_map,List.length_range];have:1000<sizeLine:=by decide
   omega
 . refine compM_map fun j hj=> ?_;have hj:=List.mem_range.mp hj;show elM _ _ _ [some (.val (.int (cbN r m))),none] _=_;unfold elM;obtain ⟨h4,h5⟩:=h j hj;have b1:Bt 4000 (cbN r m):=bt_dvd hE c2 BE;have b2:Bt 4000 (r j).2:=bt_dvd hE h5 BE;simp only [gVar,mYes,mBin,mPk,mK,List.set_cons_succ,List.set_cons_zero,List.getElem?_cons_zero,List.getElem?_cons_succ,Option.join_some,Option.bind_some,dix_f0,dix_f1];rw [divS ⟨by omega,b2.mono (by decide)⟩];simp only [Option.bind_some];rw [mulS (.inr (cmulC (n:=4000) (m:=4000) (hT j hj) b1.fdiv rfl))];rfl
theorem run_swD {N m : Nat} {R : Ba.Mx} {x : Nat -> Int × Int} {E : Int} (hN : N <= 200) (hm : m <= 200) (hR : ∀ k, k < N -> ∀ j, j < m -> Bt 4000 (R k j)) (hE : E ≠ 0) (BE : Bt 4000 E) (h : ∀ j, j < m -> 0 < (x j).2 /\ (x j).2 ∣ E) (hT : ∀ j, j < m -> Bt 4000 (x j).1) (hw : ∀ j, j < m -> Bt 4000 (whN m x j)) :
 m_q35 [.list (matD N m R),frD m x]=some (.own ((List.range N).map fun k=>encF (fr (Ba.sumN m fun j=>R k j*whN m x j) (cbN x m)))):=by
 have hs:=sl1000;obtain ⟨c1,c2,c3⟩:=cb_dvd (r:=x) hE (m:=m) h;refine run_wp (ρ:= [some (.val (.list (matD N m R))),some (.val (frD m x)),none,none]) rfl rfl ?_;unfold b_q35;refine wp_asgS (call_to (ds:= [frD m x]) rfl (run_cbD hE BE h)) ?_;refine wp_asgS (call_to (ds:= [frD m x]) rfl (run_wrD hE BE h hT (by omega))) (wp_frz (wp_frz ?_))
 let W3:Option Sl:=some (.val (rowD m (whN m x)))
 show Wp _ [some (.val (.list (matD N m R))),some (.val (frD m x)),some (.val (.int (cbN x m))),W3] _
 have e:(mLC (subE [some 3,none]) (mItems (mVar 0)) (gVar 1) mYes (mCall m_q34 (mCons (mVar 1) (mCons (mVar 0) mNil)))) [some (.val (.list (matD N m R))),some (.val (frD m x)),some (.val (.int (cbN x m))),W3]=some (.own ((List.range N).map fun k=> .int (Ba.sumN m fun j=>R k j*whN m x j))):=by
  refine lc_to (ds:=matD N m R) rfl (by rw [len_mat];omega) (compM_map fun k hk=> ?_);have hk:=List.mem_range.mp hk;show elM _ _ _ [W3,none] _=_;exact el_to (ρ1:= [W3,some (.val (rowD m (R k)))]) (r:= .val (.int (Ba.sumN m fun j=>R k j*whN m x j))) rfl (call_to (ds:= [rowD m (R k),rowD m (whN m x)]) rfl (run_sop hm (hR k hk) hw))
 exact wp_ret (call_to (ds:= [.list ((List.range N).map fun k=> .int (Ba.sumN m fun j=>R k j*whN m x j)), .int (cbN x m)]) (cons_to e (cons_to (a:= .val (.int (cbN x m))) rfl rfl)) (run_fo hN (by omega) ((bt_dvd hE c2 BE).mono (by decide)))) rfl
theorem y_pow(n:Nat):(32*2 ^ 57) ^ n=2 ^ (62*n):=by
 rw [show 32*2 ^ 57=2 ^ 62 by decide, <-Nat.pow_mul]
theorem y_lt{n:Nat}(h:n<=6):(32*2 ^ 57) ^ n<2 ^ 4000:=by
 rw [y_pow];exact Nat.pow_lt_pow_right (by decide) (by omega)
theorem y_le{n d:Nat}(h:n<=d):(32*2 ^ 57) ^ n<=2 ^ (62*d):=by
 rw [y_pow];exact Nat.pow_le_pow_right (by decide) (by omega)
theorem y_sq{n d:Nat}(h:n<=d):(32*2 ^ 57) ^ n*(32*2 ^ 57) ^ n<=2 ^ (124*d):=by
 rw [y_pow, <-Nat.pow_add];exact Nat.pow_le_pow_right (by decide) (by omega)
theorem gramY{N m:Nat}{R:Ba.Mx}(hN:N<=8)(hR:∀k,k<N->∀j,j<m->Bt 12 (R k j)){i j:Nat}(hi:i<m)(hj:j<m):(Ba.gram N R i j).natAbs<=2 ^ 57:=by
 have h:Bt (12+12+3) (Ba.gram N R i j):=bt_sum hN fun k hk=>(hR k hk i hi).mul (hR k hk j hj);exact Nat.le_of_lt (h.mono (m:=57) (by decide))
theorem run_minus{a b:Int×Int}(ha:0<a.2)(hb:0<b.2)(B1:Bt 4000 a.1)(B2:Bt 4000 b.1)(B3:Bt 4000 a.2)(B4:Bt 4000 b.2):m_q25 [encF a,encF b]=some (.val (encF (fr (a.1*b.2 - b.1*a.2) (a.2*b.2)))):=by
 have M:∀ {i j:Int},Bt 4000 i->Bt 4000 j->CMulA i j:=fun h k=> .inr (cmulC h k rfl);have a0:∀ {f:En->Option Sl} {ρ:En} {q:Int×Int},f ρ=some (.val (encF q))->mBin dix f (mK (.int 0)) ρ=some (.val (.int q.1)):=fun h=>(bin_eq (b:= .val (.int 0)) h rfl).trans (dix_f0 _);have a1:∀ {f:En->Option Sl} {ρ:En} {q:Int×Int},f ρ=some (.val (encF q))->mBin dix f (mK (.int 1)) ρ=some (.val (.int q.2)):=fun h=>(bin_eq (b:= .val (.int 1)) h rfl).trans (dix_f1 _);have p:=Int.mul_pos ha hb;refine runD_rt (ρ:= [some (.val (encF a)),some (.val (encF b))]) rfl rfl ?_;unfold b_q25;refine rts_ret (call_to (ds:= [.int (a.1*b.2 - b.1*a.2), .int (a.2*b.2)]) ?_ (run_frac (by omega) ((B3.mul B4).mono (by decide))));refine (cons_to (a:= .val (.int (a.1*b.2 - b.1*a.2))) (as:= [.int (a.2*b.2)]) ?_ (cons_to (a:= .val (.int (a.2*b.2))) ?_ rfl)).trans rfl
 . refine (bin_eq (a:= .val (.int (a.1*b.2))) (b:= .val (.int (b.1*a.2))) ?_ ?_).trans rfl
   . exact (bin_eq (a0 (q:=a) rfl) (a1 (q:=b) rfl)).trans (mulS (M B1 B4))
   . exact (bin_eq (a0 (q:=b) rfl) (a1 (q:=a) rfl)).trans (mulS (M B2 B3))
 . exact (bin_eq (a1 (q:=a) rfl) (a1 (q:=b) rfl)).trans (mulS (M B3 B4))
theorem run_fit {N m : Nat} {R : Ba.Mx} {s : Nat -> Int} (h1 : 1 <= N) (hN : N <= 8) (hm1 : 1 <= m) (hm : m <= 5) (hR : ∀ k, k < N -> ∀ j, j < m -> Bt 12 (R k j)) (hS : ∀ k, k < N -> Bt 42 (s k)) :
 ∃(X:Nat->Int) (e:Int) (v:Nat->Int) (E:Int),e≠0/\Bt 311 e/\(∀i,i<m->Bt 621 (X i))/\0<E/\Bt 311 E/\(∀j,j<m->Bt 932 (v j))/\(∀j,j<m->v j*e=X j*E)/\(∀j,j<m->Ba.sumN m (fun i=>Ba.gram N R j i*X i)=e*Ba.sumN N (fun k=>R k j*s k)) /\
   m_fit [.list (matD N m R),rowD N s]=some (.val (.tuple [frD m (fun j=>fr (X j) e),frD N (fun k=>fr (Ba.sumN m fun j=>R k j*v j) E),frD N (fun k=>fr (s k*E - Ba.sumN m fun j=>R k j*v j) E)])):=by
 have hs:=sl1000;have R4:∀k,k<N->∀j,j<m->Bt 4000 (R k j):=fun k hk j hj=>(hR k hk j hj).mono (by decide)
 let c:Nat->Int:=fun j=>Ba.sumN N fun k=>R k j*s k
 have cB:∀j,j<m->(c j).natAbs<=2 ^ 57:=fun j hj=>by
  have h:Bt (12+42+3) (c j):=bt_sum hN fun k hk=>(hR k hk j hj).mul (hS k hk);exact Nat.le_of_lt (h.mono (m:=57) (by decide))
 have af:=run_asf (n:=m) (a:=c) (by omega);have cp:=run_cp (R:=R) (m:=m) h1 (by omega) (by omega) R4;have as':=run_asf (n:=N) (a:=s) (by omega);have lo:=run_lo (n:=m) (m:=N) (f:=fun k j=> .int (R k j)) (by omega) h1 (by omega);rcases run_solvedZ (n:=m) (m:=m) (Y:=2 ^ 57) (A:=Ba.gram N R) (c:=c) hm1 (by omega) hm1 (by omega) (Nat.pow_pos (by decide)) (fun i hi j hj=>gramY hN hR hi hj) cB (y_lt (by omega)) (y_lt (by omega)) with ⟨q,_,_,q1,q2,_⟩ | ⟨X,e,e0,eb,xb,hx,hsol⟩
 . exfalso;apply q2
   have z:∀k,k<N->Ba.sumN m (fun j=>R k j*q j)=0:=Ba.gram_zero fun j hj=>by
    rw [<-q1 j hj];exact Ba.sum_congr fun i _=>by rw [Ba.gram_sym,Int.mul_comm]
   have s1:Ba.sumN m (fun i=>q i*c i)=Ba.sumN m (fun i=>Ba.sumN N (fun k=>s k*(R k i*q i))):=Ba.sum_congr fun i _=>by
    show q i*Ba.sumN N (fun k=>R k i*s k)=_;rw [<-Ba.sum_mul];exact Ba.sum_congr fun k _=>by ac_rfl
   rw [s1,Ba.sum_comm];exact Ba.sum_zero fun k hk=>by rw [Ba.sum_mul,z k hk,Int.mul_zero]
 . have eb:Bt 311 e:=(bt_le (Nat.le_trans eb (y_le (d:=5) (by omega)))).mono (by decide);have xb:∀i,i<m->Bt 621 (X i):=fun i hi=>(bt_le (Nat.le_trans (xb i hi) (y_sq (d:=5) (by omega)))).mono (by decide)
   let x:Nat->Int×Int:=fun j=>fr (X j) e
   have hb:∀j,j<m->0<(x j).2/\(x j).2 ∣ e:=fun j hj=>⟨fr_pos e0,fr_dvd e0⟩;have hT:∀j,j<m->Bt 621 (x j).1:=fun j hj=>(xb j hj).fdiv;obtain ⟨c1,c2,c3⟩:=cb_dvd (r:=x) e0 (m:=m) hb;have Eb:Bt 311 (cbN x m):=bt_dvd e0 c2 eb
   have wb:∀j,j<m->Bt 932 (whN m x j):=fun j hj=>by
    show Bt 932 ((x j).1*(cbN x m).fdiv (x j).2);exact ((hT j hj).mul Eb.fdiv)
   have sw:=run_swD (N:=N) (m:=m) (R:=R) (x:=x) (by omega) (by omega) R4 e0 (eb.mono (by decide)) hb (fun j hj=>(hT j hj).mono (by decide)) (fun j hj=>(wb j hj).mono (by decide));have E0:cbN x m≠0:=by omega
   have ab:∀k,k<N->Bt 950 (Ba.sumN m fun j=>R k j*whN m x j):=fun k hk=>(bt_sum (p:=945) (by omega) fun j hj=>((hR k hk j hj).mul (wb j hj)).mono (by decide)).mono (by decide);refine ⟨X,e,whN m x,cbN x m,e0,eb,xb,by omega,Eb,wb,fun i hi=> ?_,hx,?_⟩
   . show (x i).1*(cbN x m).fdiv (x i).2*e=_;have q1:(x i).1*e=X i*(x i).2:=fr_cross e0
     have q2:(x i).2*(cbN x m).fdiv (x i).2=cbN x m:=by
      obtain ⟨v,hv⟩:=c3 i hi;rw [hv,Int.mul_fdiv_cancel_left _ (by have:=(hb i hi).1;omega)]
     calc (x i).1*(cbN x m).fdiv (x i).2*e=((x i).1*e)*(cbN x m).fdiv (x i).2:=by ac_rfl
      _=X i*((x i).2*(cbN x m).fdiv (x i).2):=by rw [q1,Int.mul_assoc]
      _=_:=by rw [q2]
   . let Rv:Option Sl:=some (.val (.list (matD N m R)))
     let Sv:Option Sl:=some (.val (rowD N s))
     let C3:Option Sl:=some (.val (rowD m c))
     let W4:Option Sl:=some (.val (frD m x))
     let F:Nat->PyData:=fun k=>encF (fr (Ba.sumN m fun j=>R k j*whN m x j) (cbN x m))
     let L:Nat->PyData:=fun k=>encF (fr (s k*cbN x m - Ba.sumN m fun j=>R k j*whN m x j) (cbN x m))
     refine run_wp (ρ:= [Rv,Sv,none,none,none,none]) rfl rfl ?_;unfold b_fit;refine wp_asgS (r:= .own ((List.range m).map fun j=> .int (c j))) (lc_to (ds:=(List.range m).map fun j=>rowD N fun k=>R k j) ?_ (by rw [List.length_map,List.length_range];omega) (compM_map fun j hj=> ?_)) ?_
     . unfold mItems;rw [call_to (ds:= [.list (matD N m R)]) rfl lo];rfl
     . have hj:=List.mem_range.mp hj;show elM _ _ _ [Sv,none] _=_;exact el_to (ρ1:= [Sv,some (.val (rowD N fun k=>R k j))]) (r:= .val (.int (c j))) rfl (call_to (ds:= [rowD N fun k=>R k j,rowD N s]) rfl (run_sop (by omega) (fun k hk=>R4 k hk j hj) (fun k hk=>(hS k hk).mono (by decide))))
     refine wp_seqN (ρ':= [Rv,Sv,C3,W4,none,none]) ?_ ?_
     . rw [frz_eq];exact asg_to ((bin_eq (op:=dix) (a:= .val (.tuple [.str "found",frD m x])) (b:= .val (.int ((1:Nat):Int))) (call_to (ds:= [tabD m m (tz (Ba.gram N R)),frD m (fun i=>(c i,1))]) (cons_to (call_to (ds:= [.list (matD N m R)]) rfl cp) (cons_to (call_to (ds:= [rowD m c]) rfl af) rfl)) hsol) rfl).trans (dix_nat (.inr rfl) rfl))
     refine wp_seqN (ρ':= [Rv,Sv,C3,W4,some (.own ((List.range N).map F)),none]) ?_ ?_
     . rw [frz_eq];exact asg_to (call_to (ds:= [.list (matD N m R),frD m x]) rfl sw)
     refine wp_seqN (ρ':= [Rv,Sv,C3,W4,some (.val (.list ((List.range N).map F))),some (.own ((List.range N).map L))]) ?_ ?_
     . rw [frz_eq];refine asg_to (lc_to (ds:=(List.range N).map fun k=> .tuple [encF (s k,1),F k]) ?_ (by rw [List.length_map,List.length_range];omega) (compM_map fun k hk=> ?_))
       . unfold mZip;rw [cons_to (a:= .own ((List.range N).map fun k=>encF (s k,1))) (call_to (ds:= [rowD N s]) rfl as') (cons_to (a:= .val (.list ((List.range N).map F))) rfl rfl)];show some (zipD ((List.range N).map fun k=>encF (s k,1)) ((List.range N).map F))=_;rw [zip_range]
       . have hk:=List.mem_range.mp hk;show elM _ _ _ [none,none] _=_;have f1:=fr_bt (n:=4000) ((ab k hk).mono (by decide)) (Eb.mono (by decide));have mi:=run_minus (a:=(s k,1)) (b:=fr (Ba.sumN m fun j=>R k j*whN m x j) (cbN x m)) (by show (0:Int)<1;decide) (fr_pos E0) ((hS k hk).mono (by decide)) f1.1 (by show (1:Int).natAbs<2 ^ 4000;exact Nat.lt_of_lt_of_le (show 1<2 ^ 1 by decide) (Nat.pow_le_pow_right (by decide) (by decide))) f1.2
         have e1:fr ((s k,(1:Int)).1*(fr (Ba.sumN m fun j=>R k j*whN m x j) (cbN x m)).2 - (fr (Ba.sumN m fun j=>R k j*whN m x j) (cbN x m)).1*(s k,(1:Int)).2) ((s k,(1:Int)).2*(fr (Ba.sumN m fun j=>R k j*whN m x j) (cbN x m)).2)=fr (s k*cbN x m - Ba.sumN m fun j=>R k j*whN m x j) (cbN x m):=by
          have p1:=fr_pos (a:=Ba.sumN m fun j=>R k j*whN m x j) E0;have q1:=fr_cross (a:=Ba.sumN m fun j=>R k j*whN m x j) E0;show fr (s k*_ - _*1) (1*_)=_;generalize (Ba.sumN m fun j=>R k j*whN m x j)=a at *
          generalize fr a (cbN x m)=p at *
          generalize cbN x m=E at *
          refine fr_eq (by omega) E0 ?_
          calc (s k*p.2 - p.1*1)*E=s k*p.2*E - p.1*E:=by rw [Int.mul_one,Int.sub_mul]
           _=s k*p.2*E - a*p.2:=by rw [q1]
           _=(s k*E - a)*(1*p.2):=by rw [Int.one_mul,Int.sub_mul];congr 1;ac_rfl
         rw [e1] at mi
         exact el_to (ρ1:= [some (.val (encF (s k,1))),some (.val (F k))]) (r:= .val (L k)) rfl (call_to (ds:= [encF (s k,1),F k]) rfl mi)
     refine wp_frz (wp_frz (wp_frz (wp_ret (r:= .val (.tuple [frD m x, .list ((List.range N).map F), .list ((List.range N).map L)])) ?_ rfl)));unfold mTup;rw [cons_to (a:= .val (frD m x)) rfl (cons_to (a:= .val (.list ((List.range N).map F))) rfl (cons_to (a:= .val (.list ((List.range N).map L))) rfl (show mNil _=some [] from rfl)))];exact if_pos (e:=none) (show 3<=sizeLine by decide)
theorem run_fitN {N m : Nat} {R : Ba.Mx} {s : Nat -> Int} (h1 : 1 <= N) (hN : N <= 8) (hm1 : 1 <= m) (hm : m <= 5) (hR : ∀ k, k < N -> ∀ j, j < m -> Bt 12 (R k j)) (hS : ∀ k, k < N -> Bt 42 (s k)) :
 ∃(v:Nat->Int) (E:Int) (d0 d2:PyData),0<E/\Bt 311 E/\(∀k,k<N->Bt 950 (Ba.sumN m fun j=>R k j*v j))/\(∀j,j<m->Ba.sumN N (fun k=>R k j*(s k*E - Ba.sumN m fun j=>R k j*v j))=0) /\
   m_fit [.list (matD N m R),rowD N s]=some (.val (.tuple [d0,frD N (fun k=>fr (Ba.sumN m fun j=>R k j*v j) E),d2])):=by
 obtain ⟨X,e,v,E,e0,eb,Xb,Ep,Eb,vb,hv,hX,hf⟩:=run_fit h1 hN hm1 hm hR hS;refine ⟨v,E,_,_,Ep,Eb,fun k hk=>(bt_sum (p:=945) (by omega) fun j hj=>((hR k hk j hj).mul (vb j hj)).mono (by decide)).mono (by decide),fun j hj=> ?_,hf⟩
 let f:Nat->Int:=fun k=>Ba.sumN m fun j=>R k j*v j
 have fe:∀k,f k*e=(Ba.sumN m fun j=>R k j*X j)*E:=fun k=>by
  show (Ba.sumN m fun j=>R k j*v j)*e=_;rw [<-Ba.sum_mul_right, <-Ba.sum_mul_right];exact Ba.sum_congr fun j hj=>by rw [Int.mul_assoc,hv j hj,Int.mul_assoc]
 refine Ba.mul_cancel e0 ?_;rw [Int.mul_zero, <-Ba.sum_mul]
 have e1:Ba.sumN N (fun k=>e*(R k j*(s k*E - f k)))=Ba.sumN N (fun k=>(R k j*s k)*(e*E)+(R k j*Ba.sumN m (fun i=>R k i*X i))*(-E)):=Ba.sum_congr fun k _=>by
  have:=fe k
  grind
 show Ba.sumN N (fun k=>e*(R k j*(s k*E - f k)))=0;rw [e1,Ba.sum_add,Ba.sum_mul_right,Ba.sum_mul_right, <-Ba.gram_mul,hX j hj]
 grind
theorem run_sopG{n:Nat}{a b:Nat->Int}(hn:n<=200)(ha:∀k,k<n->Bt 5000 (a k))(hb:∀k,k<n->Bt 5000 (b k)):m_q34 [rowD n a,rowD n b]=some (.val (.int (Ba.sumN n fun k=>a k*b k))):=by
 have hs:=sl1000;refine run_wp (ρ:= [some (.val (rowD n a)),some (.val (rowD n b))]) rfl rfl ?_;unfold b_q34;refine wp_ret (callP_to (consP_to (a:= .own ((List.range n).map fun k=> .int (a k*b k))) (lc_to (ds:=(List.range n).map fun k=> .tuple [.int (a k), .int (b k)]) ?_ (by rw [List.length_map,List.length_range];omega) (compM_map fun k hk=> ?_)) rfl) sum_to) rfl
 . unfold mZip;rw [cons_to (a:= .val (rowD n a)) rfl (cons_to (a:= .val (rowD n b)) rfl rfl)];show some (zipD ((List.range n).map fun k=> .int (a k)) ((List.range n).map fun k=> .int (b k)))=_;rw [zip_range]
 . have hk:=List.mem_range.mp hk;show elM _ _ _ [none,none] _=_;exact el_to (ρ1:= [some (.val (.int (a k))),some (.val (.int (b k)))]) (r:= .val (.int (a k*b k))) rfl ((bin_eq (op:=dRep) (a:= .val (.int (a k))) (b:= .val (.int (b k))) rfl rfl).trans (mulS (.inr (cmulC (n:=5000) (m:=5000) (ha k hk) (hb k hk) rfl))))
theorem run_spreadD{N:Nat}{a:Nat->Int}{E:Int}(hN:N<=8)(hE:E≠0)(BE:Bt 311 E)(ha:∀k,k<N->Bt 950 (a k)):m_q31 [frD N (fun k=>fr (a k) E)]=some (.val (encF (fr (Ba.sumN N fun k=>a k*a k) (E*E)))):=by
 let w:Nat->Int×Int:=fun k=>fr (a k) E
 have hb:∀j,j<N->0<(w j).2/\(w j).2 ∣ E:=fun j hj=>⟨fr_pos hE,fr_dvd hE⟩;have hT:∀j,j<N->Bt 950 (w j).1:=fun j hj=>(ha j hj).fdiv;obtain ⟨c1,c2,c3⟩:=cb_dvd (r:=w) hE (m:=N) hb;have Eb:Bt 311 (cbN w N):=bt_dvd hE c2 BE
 have wb:∀j,j<N->Bt 1261 (whN N w j):=fun j hj=>by
  show Bt 1261 ((w j).1*(cbN w N).fdiv (w j).2);exact (hT j hj).mul Eb.fdiv
 have b0:cbN w N≠0:=by omega
 have wx:∀i,i<N->whN N w i*E=a i*cbN w N:=fun i hi=>by
  show (w i).1*(cbN w N).fdiv (w i).2*E=_;have q1:(w i).1*E=a i*(w i).2:=fr_cross hE
  have q2:(w i).2*(cbN w N).fdiv (w i).2=cbN w N:=by
   obtain ⟨v,hv⟩:=c3 i hi;rw [hv,Int.mul_fdiv_cancel_left _ (by have:=(hb i hi).1;omega)]
  calc (w i).1*(cbN w N).fdiv (w i).2*E=((w i).1*E)*(cbN w N).fdiv (w i).2:=by ac_rfl
   _=a i*((w i).2*(cbN w N).fdiv (w i).2):=by rw [q1,Int.mul_assoc]
   _=_:=by rw [q2]
 have eq:fr (Ba.sumN N fun k=>whN N w k*whN N w k) (cbN w N*cbN w N)=fr (Ba.sumN N fun k=>a k*a k) (E*E):=by
  refine fr_eq (Int.mul_ne_zero b0 b0) (Int.mul_ne_zero hE hE) ?_;rw [<-Ba.sum_mul_right, <-Ba.sum_mul_right];refine Ba.sum_congr fun k hk=> ?_
  calc whN N w k*whN N w k*(E*E)=(whN N w k*E)*(whN N w k*E):=by ac_rfl
   _=(a k*cbN w N)*(a k*cbN w N):=by rw [wx k hk]
   _=_:=by ac_rfl
 rw [<-eq];refine run_wp (ρ:= [some (.val (frD N w)),none,none]) rfl rfl ?_;unfold b_q31;refine wp_asgS (call_to (ds:= [frD N w]) rfl (run_cbD hE (BE.mono (by decide)) hb)) ?_;refine wp_asgS (call_to (ds:= [frD N w]) rfl (run_wrD hE (BE.mono (by decide)) hb (fun j hj=>(hT j hj).mono (by decide)) (by omega))) (wp_frz ?_);show Wp _ [some (.val (frD N w)),some (.val (.int (cbN w N))),some (.val (rowD N (whN N w)))] _;have s1:=run_sopG (n:=N) (a:=whN N w) (b:=whN N w) (by omega) (fun k hk=>(wb k hk).mono (by decide)) (fun k hk=>(wb k hk).mono (by decide));refine wp_ret (call_to (ds:= [.int (Ba.sumN N fun k=>whN N w k*whN N w k), .int (cbN w N*cbN w N)]) (cons_to (call_to (ds:= [rowD N (whN N w),rowD N (whN N w)]) rfl s1) (cons_to (a:= .val (.int (cbN w N*cbN w N))) ((bin_eq (op:=dRep) (a:= .val (.int (cbN w N))) (b:= .val (.int (cbN w N))) rfl rfl).trans (mulS (.inr (cmulC (n:=311) (m:=311) Eb Eb rfl)))) rfl)) (run_frac (Int.mul_ne_zero b0 b0) ((Eb.mul Eb).mono (by decide)))) rfl
def lv1(L:List Nat)(t:Nat):Nat:=L.getD t 0 - 1
def EffOk(L:List Nat)(most:Nat)(e:List Nat):Prop:=e.Pairwise (· < ·)/\(∀t ∈ e,t<L.length)/\Tr.prodN (e.map (lv1 L))<=most
theorem lv_get{L:List Nat}{t:Nat}(h:t<L.length):(nl L)[t]? = some (.int ((lv1 L t+1:Nat):Int))\/L.getD t 0=0:=by
 by_cases h0:L.getD t 0=0
 . exact .inr h0
 . left;unfold nl;rw [List.getElem?_map,List.getElem?_eq_getElem h];have e:L.getD t 0=L[t]:=by simp [List.getD,List.getElem?_eq_getElem h]
   rw [e] at h0
   have:lv1 L t+1=L[t]:=by unfold lv1;rw [e];omega
   rw [this];rfl
theorem lv_at{L:List Nat}(hL:∀s ∈ L,2<=s/\s<=7){t:Nat}(h:t<L.length):(nl L)[t]? = some (.int ((lv1 L t+1:Nat):Int))/\1<=lv1 L t/\lv1 L t<=6:=by
 have e:L.getD t 0=L[t]:=by simp [List.getD,List.getElem?_eq_getElem h]
 have hs:=hL L[t] (List.getElem_mem h);refine ⟨?_,by unfold lv1;rw [e];omega,by unfold lv1;rw [e];omega⟩;rcases lv_get h with h1 | h1
 . exact h1
 . rw [e] at h1
   omega
def tot(L:List Nat)(M:List (List Nat)):Nat:=(M.map fun e=>Tr.prodN (e.map (lv1 L))).sum
def colD(e t:List Nat):PyData:= .tuple [tupN e,tupN t]
def bk(L e:List Nat):List (List Nat):=(Tr.allT (e.map (lv1 L))).map fun t=>t.map (· + 1)
def colsD(L:List Nat)(M:List (List Nat)):List PyData:=M.flatMap fun e=>(bk L e).map (colD e)
theorem bk_len(L e:List Nat):(bk L e).length=Tr.prodN (e.map (lv1 L)):=by simp [bk,Tr.allT]
theorem bk_nil(L:List Nat):bk L [] = [[]]:=rfl
theorem bk_snoc(L e:List Nat)(t:Nat)(h:0<lv1 L t):bk L (e ++ [t])=(bk L e).flatMap fun u=>(List.range (lv1 L t)).map fun s=>u ++ [s+1]:=by
 unfold bk;rw [List.map_append];show (Tr.allT (e.map (lv1 L) ++ [lv1 L t])).map _=_;rw [Tr.allT_snoc _ _ h,List.map_flatMap,List.flatMap_map];congr 1
 funext u;rw [List.map_map];refine List.map_congr_left fun s _=> ?_;simp
theorem bk_mem{L e u:List Nat}(h:u ∈ bk L e):u.length=e.length:=by
 unfold bk Tr.allT at h
 rw [List.map_map] at h
 obtain ⟨x,_,rfl⟩:=List.mem_map.mp h;simp [Tr.tri_len]
theorem run_effc{L e:List Nat}(hL:∀s ∈ L,2<=s/\s<=7)(he:EffOk L 900 e)(hl:e.length<=900):m_q19 [.list (nl L),tupN e]=some (.own ((bk L e).map (colD e))):=by
 have sl:=sl1000
 let LV:Option Sl:=some (.val (.list (nl L)))
 let EV:Option Sl:=some (.val (tupN e))
 refine run_wp (ρ:= [LV,EV,none]) rfl rfl ?_;unfold b_q19
 have hpos:∀c ∈ e.map (lv1 L),0<c/\c<=1000:=fun c hc=>by
  obtain ⟨t,ht,rfl⟩:=List.mem_map.mp hc;have:=lv_at hL (he.2.1 t ht);omega
 refine wp_asgS (call_to (ds:= [.list (nl (e.map (lv1 L)))]) (cons_to (as:= []) (lc_to (ds:=nl e) (es:=nl (e.map (lv1 L))) rfl (by rw [nl_len];omega) ?_) rfl) (run_all hpos (by simpa using hl) he.2.2)) ?_
 . refine (compM_map (en:=enN) (g:=fun t=> .int (lv1 L t:Nat)) (xs:=e) fun t ht=>el_to (r:= .val (.int (lv1 L t:Nat))) rfl ?_).trans (by simp [nl]);obtain ⟨g1,g2,g3⟩:=lv_at hL (he.2.1 t ht);refine (bin_eq (op:=dSub) ((bin_eq (op:=dix) (a:= .val (.list (nl L))) (b:= .val (.int (t:Nat))) rfl rfl).trans (dix_nat (.inl rfl) g1)) rfl).trans ?_;show some (Sl.val (.int (((lv1 L t+1:Nat):Int) - 1)))=_;rw [show ((lv1 L t+1:Nat):Int) - 1=(lv1 L t:Nat) by omega]
 . have al : (Tr.allT (e.map (lv1 L))).length <= 900 := by
    have:=he.2.2;simpa [Tr.allT] using this
   refine wp_frz (wp_ret (lc_to (ds:=(Tr.allT (e.map (lv1 L))).map tupN) rfl (by rw [List.length_map];omega) ?_) rfl);refine (compM_map (en:=tupN) (g:=fun t=>colD e (t.map (· + 1))) (xs:=Tr.allT (e.map (lv1 L))) fun t ht=>el_to (r:= .val (colD e (t.map (· + 1)))) rfl ?_).trans ?_
   . have tl : t.length <= 900 := by
      unfold Tr.allT at ht
      obtain ⟨x,_,rfl⟩:=List.mem_map.mp ht;rw [Tr.tri_len,List.length_map];exact hl
     refine (tup2 (a:= .val (tupN e)) (b:= .val (tupN (t.map (· + 1)))) rfl (callP_to (consP_to (a:= .own (nl (t.map (· + 1)))) (as:= []) (lc_to (ds:=nl t) rfl (by rw [nl_len];omega) ?_) rfl) rfl)).trans rfl;refine (compM_map (en:=enN) (g:=fun s=> .int ((s:Int)+1)) (xs:=t) fun s _=>el_to (r:= .val (.int ((s:Int)+1))) rfl rfl).trans ?_;simp [nl]
   . unfold bk;rw [List.map_map];rfl
theorem colsD_len{L:List Nat}{most:Nat}:∀ {M:List (List Nat)},(∀e ∈ M,EffOk L most e)->(colsD L M).length<=M.length*most
 | [],_=>by simp [colsD]
 | e::M,h=>by
  have ih:=colsD_len (M:=M) fun e he=>h e (List.mem_cons_of_mem _ he);have h1:=(h e List.mem_cons_self).2.2;unfold colsD at ih ⊢
  rw [List.flatMap_cons,List.length_append,List.length_map,bk_len,List.length_cons,Nat.succ_mul];omega
theorem colsD_snoc(L:List Nat)(M:List (List Nat))(e:List Nat):colsD L (M ++ [e])=colsD L M++(bk L e).map (colD e):=by
 unfold colsD;rw [List.flatMap_append];simp
theorem run_cols{L:List Nat}(hL:∀s ∈ L,2<=s/\s<=7){M:List (List Nat)}{most:Nat}(hM:∀e ∈ M,EffOk L most e)(hm:most<=100)(hl:M.length<=7)(h4:L.length<=4):m_q16 [.list (nl L), .list (M.map tupN)]=some (.own (colsD L M)):=by
 have sl:=sl1000
 let LV:Option Sl:=some (.val (.list (nl L)))
 let MV:Option Sl:=some (.val (.list (M.map tupN)))
 refine run_wp (ρ:= [LV,MV,none,none]) rfl rfl ?_;unfold b_q16;refine wp_asgS lstNil ?_;refine wp_seq (P:=fun ρ=>∃z,ρ = [LV,MV,some (.own (colsD L M)),z]) ?_ (by rintro ρ ⟨z,rfl⟩;exact wp_ret rfl rfl);refine wp_forL (en:=tupN) (xs:=M) (fun i ρ=>∃z,ρ = [LV,MV,some (.own (colsD L (M.take i))),z]) rfl ⟨_,rfl⟩ ?_ ?_
 . rintro i e ρ hi ⟨z,rfl⟩;have me:=List.mem_of_getElem? hi;obtain ⟨e1,e2,e3⟩:=hM e me;refine ⟨_,rfl,?_⟩;have tk:M.take (i+1)=M.take i ++ [e]:=by rw [List.take_add_one,hi];rfl
   have le:e.length<=900:=by
    have:e.length<=(List.range L.length).length:=by
     refine List.Nodup.length_le_of_subset ?_ fun t ht=>List.mem_range.mpr (e2 t ht);exact e1.imp fun h=>Nat.ne_of_lt h
    rw [List.length_range] at this
    omega
   have cl:=colsD_len (L:=L) (most:=most) (M:=M.take (i+1)) fun e he=>hM e (List.mem_of_mem_take he);have tl:(M.take (i+1)).length<=7:=by rw [List.length_take];omega
   have c2:(colsD L (M.take (i+1))).length<=7*100:=Nat.le_trans cl (Nat.mul_le_mul tl hm);rw [tk,colsD_snoc,List.length_append] at c2
   refine wp_of (ext_to (call_to (ds:= [.list (nl L),tupN e]) rfl (run_effc hL ⟨e1,e2,by omega⟩ le)) rfl (by omega)) ⟨some (.val (tupN e)),?_⟩;rw [tk,colsD_snoc];rfl
 . rintro ρ ⟨z,rfl⟩;rw [List.take_of_length_le (Nat.le_refl _)];exact ⟨z,rfl⟩
theorem run_con(k s:Nat):m_q18 [.int k, .int s]=some (.val (.int (Tr.con k s))):=by
 refine run_wp (ρ:= [some (.val (.int k)),some (.val (.int s))]) rfl rfl ?_;unfold b_q18 Tr.con
 by_cases h1:s<k
 . rw [if_pos h1];exact wp_seqG (wp_ifT (by show some (decide ((s:Int)<(k:Int)))=_;rw [decide_eq_true (by omega)]) (wp_ret rfl rfl))
 . rw [if_neg h1];refine wp_skip (by show some (decide ((s:Int)<(k:Int)))=_;rw [decide_eq_false (by omega)]) ?_
   by_cases h2:s=k
   . rw [if_pos h2];exact wp_seqG (wp_ifT (by rw [eq_int (i:=s) (j:=k) rfl rfl,decide_eq_true (by omega)]) (wp_ret rfl rfl))
   . rw [if_neg h2];exact wp_skip (by rw [eq_int (i:=s) (j:=k) rfl rfl,decide_eq_false (by omega)]) (wp_ret rfl rfl)
def enP(q:Nat×Nat):PyData:= .tuple [.int (q.1:Int), .int (q.2:Int)]
theorem zipD_nl:∀a b:List Nat,zipD (nl a) (nl b)=(List.zip a b).map enP
 | [],_=>by simp [zipD,nl]
 | _::_,[]=>by simp [zipD,nl]
 | x::a,y::b=>by
  have:=zipD_nl a b;unfold zipD nl at this ⊢
  simp only [List.map_cons,List.zipWith_cons_cons,List.zip_cons_cons,this];rfl
theorem zip_drop{a b:List Nat}{j t k:Nat}(h:(List.zip a b)[j]? = some (t,k)):a.drop j=t::a.drop (j+1)/\b.drop j=k::b.drop (j+1)/\t ∈ a/\k ∈ b:=by
 rw [List.getElem?_zip_eq_some] at h
 obtain ⟨h1,e1⟩:=List.getElem?_eq_some_iff.mp h.1;obtain ⟨h2,e2⟩:=List.getElem?_eq_some_iff.mp h.2;refine ⟨?_,?_,List.mem_of_getElem? h.1,List.mem_of_getElem? h.2⟩
 . rw [List.drop_eq_getElem_cons h1,e1]
 . rw [List.drop_eq_getElem_cons h2,e2]
theorem run_val{e u x:List Nat}(hu:∀k ∈ u,k<=7)(he:∀t ∈ e,t<x.length)(hl:e.length=u.length):m_q40 [colD e u,tupN x]=some (.val (.int (Tr.valAt e u x))):=by
 let CO:Option Sl:=some (.val (colD e u))
 let TX:Option Sl:=some (.val (tupN x))
 refine run_wp (ρ:= [CO,TX,none,none,none]) rfl rfl ?_;unfold b_q40;refine wp_asgS (r:= .val (.int 1)) rfl ?_;refine wp_seq (P:=fun ρ=>∃z3 z4,ρ = [CO,TX,some (.val (.int (Tr.valAt e u x))),z3,z4]) ?_ (by rintro ρ ⟨z3,z4,rfl⟩;exact wp_ret rfl rfl);refine wp_forL (en:=enP) (xs:=List.zip e u) (fun j ρ=>∃(p:Int) (z3 z4:Option Sl),ρ = [CO,TX,some (.val (.int p)),z3,z4]/\p*Tr.valAt (e.drop j) (u.drop j) x=Tr.valAt e u x) ?_ ⟨1,_,_,rfl,by simp⟩ ?_ ?_
 . show some (zipD (nl e) (nl u))=_;rw [zipD_nl]
 . rintro j ⟨t,k⟩ ρ hj ⟨p,z3,z4,rfl,hp⟩;obtain ⟨d1,d2,m1,m2⟩:=zip_drop hj;have hk:=hu k m2;have ht:=he t m1;refine ⟨[CO,TX,some (.val (.int p)),some (.val (.int (t:Nat))),some (.val (.int (k:Nat)))],rfl,?_⟩;have hc:=Tr.con_abs (k:=k) (s:=x.getD t 0) hk
   have gx:(nl x)[t]? = some (.int ((x.getD t 0:Nat):Int)):=by
    unfold nl;rw [List.getElem?_map,List.getElem?_eq_getElem ht];simp [List.getD,List.getElem?_eq_getElem ht]
   refine wp_asg (r:= .val (.int (p*Tr.con k (x.getD t 0)))) ((bin_eq (op:=dRep) (a:= .val (.int p)) rfl (call_to (ds:= [.int (k:Nat), .int ((x.getD t 0:Nat):Int)]) (cons_to (a:= .val (.int (k:Nat))) rfl (cons_to (as:= []) ((bin_eq (op:=dix) (a:= .val (tupN x)) (b:= .val (.int (t:Nat))) rfl rfl).trans (dix_nat (.inr rfl) gx)) rfl)) (run_con k _))).trans (mulS (cmR (by omega) (by omega)))) ⟨_,_,_,rfl,?_⟩;rw [<-hp,d1,d2,Tr.valAt,Int.mul_assoc]
 . rintro ρ ⟨p,z3,z4,rfl,hp⟩
   have e0:Tr.valAt (e.drop (List.zip e u).length) (u.drop (List.zip e u).length) x=1:=by
    rw [List.length_zip,hl,Nat.min_self,List.drop_eq_nil_of_le (by omega)];rfl
   rw [e0,Int.mul_one] at hp
   subst hp;exact ⟨z3,z4,rfl⟩
def colsP(L:List Nat)(M:List (List Nat)):List (List Nat×List Nat):=M.flatMap fun e=>(bk L e).map fun u=>(e,u)
theorem colsD_P(L:List Nat)(M:List (List Nat)):colsD L M=(colsP L M).map fun c=>colD c.1 c.2:=by
 unfold colsD colsP;rw [List.map_flatMap];congr 1
 funext e;rw [List.map_map];rfl
theorem colsP_mem{L:List Nat}{M:List (List Nat)}{c:List Nat×List Nat}(h:c ∈ colsP L M):c.1 ∈ M/\c.2 ∈ bk L c.1:=by
 obtain ⟨e,he,h⟩:=List.mem_flatMap.mp h;obtain ⟨u,hu,rfl⟩:=List.mem_map.mp h;exact ⟨he,hu⟩
theorem bk_fits{L e u:List Nat}(hL:∀s ∈ L,2<=s/\s<=7)(he:∀t ∈ e,t<L.length)(hu:u ∈ bk L e):Tr.Fits L e u/\(∀k ∈ u,k<=7)/\e.length=u.length:=by
 have hlen:=bk_mem hu;unfold bk Tr.allT at hu
 rw [List.map_map] at hu
 obtain ⟨x,hx,hux⟩:=List.mem_map.mp hu;have hux:(Tr.tri (e.map (lv1 L)) x).map (· + 1)=u:=hux
 have hpos:∀c ∈ e.map (lv1 L),0<c:=fun c hc=>by
  obtain ⟨t,ht,rfl⟩:=List.mem_map.mp hc;have:=lv_at hL (he t ht);omega
 have at_:∀i,i<e.length->u.getD i 0=(Tr.tri (e.map (lv1 L)) x).getD i 0+1/\(Tr.tri (e.map (lv1 L)) x).getD i 0<lv1 L (e.getD i 0):=fun i hi=>by
  have hl:i<(Tr.tri (e.map (lv1 L)) x).length:=by rw [Tr.tri_len];simpa using hi
  refine ⟨by rw [<-hux];simp [List.getD,List.getElem?_map,List.getElem?_eq_getElem hl],?_⟩;have:=Tr.tri_lt (L:=e.map (lv1 L)) (x:=x) (i:=i) hpos (by simpa using hi);have e2:(e.map (lv1 L)).getD i 0=lv1 L (e.getD i 0):=by simp [List.getD,List.getElem?_map,List.getElem?_eq_getElem hi]
  rw [e2] at this
  exact this
 have ge:∀i,i<e.length->e.getD i 0 ∈ e:=fun i hi=>by simp [List.getD,List.getElem?_eq_getElem hi]
 refine ⟨Tr.fits_of hlen.symm fun i hi=> ?_,fun k hk=> ?_,hlen.symm⟩
 . obtain ⟨a1,a2⟩:=at_ i hi;have e0:lv1 L (e.getD i 0)=L.getD (e.getD i 0) 0 - 1:=rfl;rw [a1];omega
 . obtain ⟨i,hi,rfl⟩:=List.mem_iff_getElem.mp hk;have hi':i<e.length:=by rw [<-hlen];exact hi
   obtain ⟨a1,a2⟩:=at_ i hi';have:=lv_at hL (he _ (ge i hi'));have e3:u.getD i 0=u[i]:=by simp [List.getD,List.getElem?_eq_getElem hi]
   rw [<-e3,a1];omega
def rowT(P:List (List Nat×List Nat))(x:List Nat):PyData:= .list (il (P.map fun c=>Tr.valAt c.1 c.2 x))
theorem run_tab {L : List Nat} (hL : ∀ s ∈ L, 2 <= s /\ s <= 7) {M : List (List Nat)} {most : Nat} (hM : ∀ e ∈ M, EffOk L most e) (hm : most <= 100) (hl : M.length <= 7) (h4 : L.length <= 4) {X : List (List Nat)} (hX : X.length <= 900) (hx : ∀ x ∈ X, x.length = L.length) :
 m_q36 [.list (nl L), .list (X.map tupN), .list (M.map tupN)]=some (.own (X.map (rowT (colsP L M)))):=by
 have sl:=sl1000
 let LV:Option Sl:=some (.val (.list (nl L)))
 let XV:Option Sl:=some (.val (.list (X.map tupN)))
 let MV:Option Sl:=some (.val (.list (M.map tupN)))
 refine run_wp (ρ:= [LV,XV,MV,none]) rfl rfl ?_;unfold b_q36;have cl:=colsD_len (L:=L) (most:=most) (M:=M) hM;have cl2:(colsD L M).length<=7*100:=Nat.le_trans cl (Nat.mul_le_mul hl hm);rw [colsD_P,List.length_map] at cl2
 refine wp_asgS (call_to (ds:= [.list (nl L), .list (M.map tupN)]) rfl (run_cols hL hM hm hl h4)) ?_;refine wp_frz (wp_ret (lc_to (ds:=X.map tupN) (es:=X.map (rowT (colsP L M))) rfl (by rw [List.length_map];omega) (compM_map fun x hx1=> ?_)) rfl)
 have inner:(mLC (subE [some 1,none]) (mItemsS (mVar 0)) (gVar 1) mYes (mCall m_q40 (mCons (mVar 1) (mCons (mVar 0) mNil)))) [some (.val (.list (colsD L M))),some (.val (tupN x))]=some (.own (il ((colsP L M).map fun c=>Tr.valAt c.1 c.2 x))):=by
  refine lc_to (ds:=colsD L M) rfl (by rw [colsD_P,List.length_map];omega) ?_;rw [colsD_P];refine (compM_map (en:=fun c:List Nat×List Nat=>colD c.1 c.2) (g:=fun c=> .int (Tr.valAt c.1 c.2 x)) fun c hc=> ?_).trans (by simp [il]);obtain ⟨c1,c2⟩:=colsP_mem hc;obtain ⟨f1,f2,f3⟩:=bk_fits hL (hM _ c1).2.1 c2;exact el_to (r:= .val (.int (Tr.valAt c.1 c.2 x))) rfl (call_to (ds:= [colD c.1 c.2,tupN x]) rfl (run_val f2 (fun t ht=>by rw [hx x hx1];exact (hM _ c1).2.1 t ht) f3))
 exact el_to (fg:=gVar 1) (ρ0:= [some (.val (.list (colsD L M))),none]) (d:=tupN x) rfl inner
theorem map_range{α β:Type}(f:α->β)(d:α)(l:List α):l.map f=(List.range l.length).map fun i=>f (l.getD i d):=by
 refine List.ext_getElem (by simp) fun i h1 h2=> ?_;have h:i<l.length:=by simpa using h1
 simp [List.getD,List.getElem?_eq_getElem h]
def tabM(P:List (List Nat×List Nat))(X:List (List Nat)):Ba.Mx:=fun k j=>Tr.valAt (P.getD j ([],[])).1 (P.getD j ([],[])).2 (X.getD k [])
theorem tab_mat(P:List (List Nat×List Nat))(X:List (List Nat)):X.map (rowT P)=matD X.length P.length (tabM P X):=by
 unfold matD;rw [map_range (rowT P) [] X];refine List.map_congr_left fun k _=> ?_;show PyData.list (il (P.map fun c=>Tr.valAt c.1 c.2 (X.getD k []))) = .list ((List.range P.length).map fun j=> .int (tabM P X k j));rw [map_range (fun c:List Nat×List Nat=>Tr.valAt c.1 c.2 (X.getD k [])) ([],[]) P];unfold il;rw [List.map_map];rfl
theorem pw_len{n:Nat}:∀(e:List Nat) (lo:Nat),e.Pairwise (· < ·)->(∀t ∈ e,lo<=t/\t<n)->e.length<=n - lo
 | [],_,_,_=>by simp
 | t::r,lo,hp,h=>by
  have ht:=h t (by simp);have ih:=pw_len r (t+1) (List.pairwise_cons.mp hp).2 fun s hs=>⟨(List.pairwise_cons.mp hp).1 s hs,(h s (by simp [hs])).2⟩;rw [List.length_cons];omega
theorem cols_len(L:List Nat)(M:List (List Nat)):(colsP L M).length=tot L M:=by
 simp [colsP,tot,List.length_flatMap,bk_len]
theorem tot_pos{L:List Nat}(hL:∀s ∈ L,2<=s/\s<=7){M:List (List Nat)}{most:Nat}(hM:∀e ∈ M,EffOk L most e)(h:1<=M.length):1<=tot L M:=by
 cases M with
 | nil=>simp at h
 | cons e M=>
  have:=Tr.prodN_pos (e.map (lv1 L)) fun c hc=>by
   obtain ⟨t,ht,rfl⟩:=List.mem_map.mp hc;have:=(lv_at hL ((hM e (by simp)).2.1 t ht)).2.1;omega
  simp only [tot,List.map_cons,List.sum_cons];omega
theorem tab_bt{L:List Nat}(hL:∀s ∈ L,2<=s/\s<=7)(h4:L.length<=4){M:List (List Nat)}{most:Nat}(hM:∀e ∈ M,EffOk L most e)(X:List (List Nat))(k:Nat){j:Nat}(hj:j<(colsP L M).length):Bt 12 (tabM (colsP L M) X k j):=by
 unfold tabM;have e:(colsP L M).getD j ([],[])=(colsP L M)[j]:=by simp [List.getD,List.getElem?_eq_getElem hj]
 rw [e];obtain ⟨c1,c2⟩:=colsP_mem (List.getElem_mem hj);obtain ⟨_,u7,_⟩:=bk_fits hL (hM _ c1).2.1 c2;have v:=Tr.val_abs (x:=X.getD k []) (e:=(colsP L M)[j].1) u7;have l:=pw_len (n:=L.length) _ 0 (hM _ c1).1 fun t ht=>⟨Nat.zero_le _,(hM _ c1).2.1 t ht⟩;have p:7 ^ (colsP L M)[j].1.length<=7 ^ 4:=Nat.pow_le_pow_right (by decide) (by omega);show _<2 ^ 12;have:7 ^ 4<2 ^ 12:=by decide
 omega
theorem run_mixedB(c:Int){k:Int}(h0:0<=k)(h1:k<1000000):∃v,m_q7 [.int c, .int k]=some (.val (.int v))/\0<=v/\v<2147483629:=by
 let o1:=((c.fmod 2147483647+40503*k*k+17*k)*48271).fmod 2147483647
 refine ⟨(o1*(o1.fmod 65537+3*k+1)).fmod 2147483629,run_wp (ρ:= [some (.val (.int c)),some (.val (.int k)),none]) rfl rfl ?_,Int.fmod_nonneg_of_pos _ (by decide),Int.fmod_lt_of_pos _ (by decide)⟩;unfold b_q7;have a1:=Int.fmod_nonneg_of_pos ((c.fmod 2147483647+40503*k*k+17*k)*48271) (show (0:Int)<2147483647 by decide);have a2:=Int.fmod_lt_of_pos ((c.fmod 2147483647+40503*k*k+17*k)*48271) (show (0:Int)<2147483647 by decide);refine wp_asgS (r:= .val (.int o1)) ?_ (wp_ret (r:= .val (.int ((o1*(o1.fmod 65537+3*k+1)).fmod 2147483629))) ?_ rfl)
 . refine (bin_eq (op:=dMod) ((bin_eq (op:=dRep) ((bin_eq (op:=dAdd) ((bin_eq (op:=dAdd) ((bin_eq (op:=dMod) rfl rfl).trans (modS (by decide))) ((bin_eq (op:=dRep) ((bin_eq (op:=dRep) rfl rfl).trans (mulS (cmL (by decide) (by decide)))) rfl).trans (mulS (cmR (by omega) (by omega))))).trans rfl) ((bin_eq (op:=dRep) rfl rfl).trans (mulS (cmL (by decide) (by decide))))).trans rfl) rfl).trans (mulS (cmR (by decide) (by decide)))) rfl).trans (modS (by decide))
 . refine (bin_eq (op:=dMod) ((bin_eq (op:=dRep) (a:= .val (.int o1)) rfl ((bin_eq (op:=dAdd) ((bin_eq (op:=dAdd) ((bin_eq (op:=dMod) rfl rfl).trans (modS (by decide))) ((bin_eq (op:=dRep) rfl rfl).trans (mulS (cmL (by decide) (by decide))))).trans rfl) rfl).trans rfl)).trans (mulS (cmL (by show _<o1;omega) (by show o1<_;omega)))) rfl).trans (modS (by decide))
theorem modN{fa fb:En->Option Sl}{ρ:En}{i m:Int}(ha:fa ρ=some (.val (.int i)))(hb:fb ρ=some (.val (.int m)))(hp:0<m):∃v:Nat,mBin dMod fa fb ρ=some (.val (.int v))/\(v:Int)<m/\(v:Int)=i.fmod m:=by
 refine ⟨(i.fmod m).toNat,?_,?_,Int.toNat_of_nonneg (Int.fmod_nonneg_of_pos _ hp)⟩
 . rw [Int.toNat_of_nonneg (Int.fmod_nonneg_of_pos _ hp)];exact (bin_eq (op:=dMod) ha hb).trans (modS (by omega))
 . rw [Int.toNat_of_nonneg (Int.fmod_nonneg_of_pos _ hp)];exact Int.fmod_lt_of_pos _ hp
theorem divK{fa:En->Option Sl}{ρ:En}{i j:Int}(ha:fa ρ=some (.val (.int i)))(h0:0<j)(h:j<=1000):mBin dFdiv fa (mK (.int j)) ρ=some (.val (.int (i.fdiv j))):=(bin_eq (op:=dFdiv) ha rfl).trans (div_k h0 h)
theorem run_wpE{n k:Nat}{g:En->Option Out}{ρ:En}{ds:List PyData}{Q:Sl->Prop}(hl:ds.length=k)(e:ds.map (fun d=>some (Sl.val d))++List.replicate (n - ds.length) none=ρ)(h:Wp g ρ (fun o=>match o with | .rt r _=>Q r | _=>False)):∃r,runD n g k ds=some r/\Q r:=by
 obtain ⟨o,h1,h2⟩:=h
 cases o with
 | rt r ρ'=>exact ⟨r,run_wp hl e ⟨_,h1,rfl⟩,h2⟩
 | _=>exact h2.elim
abbrev Tz:=List (List Int)
def enR(R:Tz):List PyData:=R.map fun r=> .list (il r)
theorem enR_len(R:Tz):(enR R).length=R.length:=List.length_map ..
theorem enR_get{R:Tz}{i:Nat}{r:List Int}(h:R[i]? = some r):(enR R)[i]? = some (.list (il r)):=by unfold enR;rw [List.getElem?_map,h];rfl
theorem enR_app(A B:Tz):enR (A++B)=enR A++enR B:=List.map_append ..
theorem eqv_int(i j:Int):PyData.eqv (.int i) (.int j)=decide (i=j):=by
 have h:=eqD_int i j;unfold eqD at h
 split at h
 . exact Option.some.inj h
 . cases h
theorem run_signs(c:Int){a m:Nat}(ha:a<=900)(hm:m<=900):∃S:List Int,m_q11 [.int c, .int a, .int m]=some (.own (il S))/\S.length=m/\∀x ∈ S,(x=1\/x = -1):=by
 have hs:=sl1000
 let Cv:Option Sl:=some (.val (.int c))
 let Av:Option Sl:=some (.val (.int (a:Nat)))
 let Mv:Option Sl:=some (.val (.int (m:Nat)))
 obtain ⟨r,h1,S,rfl,h2⟩:∃r,m_q11 [.int c, .int a, .int m]=some r/\∃S,r = .own (il S)/\S.length=m/\∀x ∈ S,(x=1\/x = -1):=by
  refine run_wpE (ρ:= [Cv,Av,Mv,none,none,none]) rfl rfl ?_;unfold b_q11;refine wp_asgS (r:= .own []) (if_pos (e:=none) (show 0<=sizeLine by decide)) ?_;refine wp_asgS (r:= .val (.int (c.fdiv 2))) (divK rfl (by decide) (by decide)) ?_;refine wp_seq (P:=fun ρ=>∃l z5,ρ = [Cv,Av,Mv,some (.own []),some (.val (.int l)),z5]) ?_ ?_
  . refine wp_forR0 (n:=a) (fun _ ρ=>∃l z5,ρ = [Cv,Av,Mv,some (.own []),some (.val (.int l)),z5]) (rng1_to (j:=a) rfl (by omega)) ⟨_,_,rfl⟩ ?_ (fun ρ h=>h);rintro k ρ hk ⟨l,z5,rfl⟩;exact ⟨_,rfl,wp_asg (r:= .val (.int (l.fdiv 2))) (divK rfl (by decide) (by decide)) ⟨_,_,rfl⟩⟩
  . rintro ρ ⟨l,z5,rfl⟩
    refine wp_seq (P:=fun ρ=>∃S l z5,ρ = [Cv,Av,Mv,some (.own (il S)),some (.val (.int l)),z5]/\S.length=m/\∀x ∈ S,(x=1\/x = -1)) ?_ (by
     rintro ρ ⟨S,l,z5,rfl,h⟩;exact wp_ret (r:= .own (il S)) rfl ⟨S,rfl,h⟩)
    refine wp_forR0 (n:=m) (fun k ρ=>∃S l z5,ρ = [Cv,Av,Mv,some (.own (il S)),some (.val (.int l)),z5]/\S.length=k/\∀x ∈ S,(x=1\/x = -1)) (rng1_to (j:=m) rfl (by omega)) ⟨[],_,_,rfl,rfl,by simp⟩ ?_ (fun ρ h=>h);rintro k ρ hk ⟨S,l,z5,rfl,hS,hx⟩;refine ⟨_,rfl,?_⟩
    let E:En:= [Cv,Av,Mv,some (.own (il S)),some (.val (.int l)),some (.val (.int (k:Nat)))]
    show Wp _ E _;obtain ⟨v,hv,_,_⟩:=run_mixedB c (k:=320+(a:Nat)+(k:Nat)) (by omega) (by omega);obtain ⟨p,hp,pb,_⟩:=modN (fa:=mCall m_q7 (mCons (mVar 0) (mCons (mBin dAdd (mBin dAdd (mK (.int 320)) (mPk 1)) (mPk 5)) mNil))) (fb:=mK (.int 2)) (ρ:=E) (i:=v) (call_to (ds:= [.int c, .int (320+(a:Nat)+(k:Nat))]) rfl hv) rfl (by decide);obtain ⟨q,hq,qb,_⟩:=modN (fa:=mPk 4) (fb:=mK (.int 2)) (ρ:=E) (i:=l) rfl rfl (by decide);obtain ⟨u,hu,ub,_⟩:=modN (fa:=mPk 0) (fb:=mK (.int 2)) (ρ:=E) (i:=c) rfl rfl (by decide)
    have ls:(mLst (mCons (mBin dMod (mCall m_q7 (mCons (mVar 0) (mCons (mBin dAdd (mBin dAdd (mK (.int 320)) (mPk 1)) (mPk 5)) mNil))) (mK (.int 2))) (mCons (mBin dMod (mPk 4) (mK (.int 2))) mNil))) E=some (.own [.int (p:Nat), .int (q:Nat)]):=by
     unfold mLst;rw [cons_to hp (cons_to hq (show mNil _=some [] from rfl))];exact if_pos (e:=none) (show 2<=sizeLine by decide)
    obtain ⟨w,hw,wb⟩:∃w:Nat,([.int (p:Nat), .int (q:Nat)]:List PyData)[u]? = some (.int (w:Nat))/\w<2:=by
     match u,ub with
     | 0,_=>exact ⟨p,rfl,by omega⟩
     | 1,_=>exact ⟨q,rfl,by omega⟩
     | (u+2),h=>exact absurd h (by omega)
    refine wp_seqN (app_to (r:= .val (.int (1 - 2*(w:Nat)))) (ds:=il S) ((bin_eq (op:=dSub) (a:= .val (.int 1)) rfl ((bin_eq (op:=dRep) (a:= .val (.int 2)) rfl ((bin_eq (op:=dix) ls hu).trans (dix_nat (.inl rfl) hw))).trans (mulS (cmL (by decide) (by decide))))).trans rfl) rfl (by rw [il_len];omega)) ?_;show Wp _ [Cv,Av,Mv,some (.own (il S ++ [.int (1 - 2*(w:Nat))])),some (.val (.int l)),some (.val (.int (k:Nat)))] _;rw [show il S ++ [.int (1 - 2*(w:Nat))]=il (S ++ [1 - 2*((w:Nat):Int)]) by rw [il_app];rfl];refine wp_asg (r:= .val (.int (l.fdiv 2))) (divK rfl (by decide) (by decide)) ⟨S ++ [1 - 2*((w:Nat):Int)],_,_,rfl,by rw [List.length_append,hS];rfl,fun x hx' => ?_⟩;rw [List.mem_append,List.mem_singleton] at hx'
    rcases hx' with h | rfl
    . exact hx x h
    . omega
 exact ⟨S,h1,h2⟩
def dblZ(M:Tz):Tz:=(M.map fun r=>r++r)++M.map fun r=>r++r.map fun x=>0 - x
def dbs:Nat->Tz
 | 0=> [[1]]
 | k+1=>dblZ (dbs k)
def sqC(n:Nat)(B:Tz):Bool:=decide (B.length=n) && B.all fun r=>decide (r.length=n)
theorem sq_dbs:∀k,k<4->sqC (2 ^ k) (dbs k)=true:=by decide +kernel
theorem run_base(c:Int){u:Nat}(hu:(u:Int)=c.fmod 4):m_q5 [.int c]=some (.own (enR (dbs u))):=by
 have hs:=sl1000
 let Cv:Option Sl:=some (.val (.int c))
 have u4:u<4:=by
  have:=Int.fmod_lt_of_pos c (show (0:Int)<4 by decide);omega
 refine run_wp (ρ:= [Cv,none,none]) rfl rfl ?_;unfold b_q5;refine wp_asgS (r:= .own (enR [[1]])) (lst1 (a:= .own [.int 1]) (lst1 (a:= .val (.int 1)) rfl)) ?_;have hm:(mBin dMod (mPk 0) (mK (.int 4))) [Cv,some (.own (enR [[1]])),none]=some (.val (.int ((u:Nat):Int))):=(bin_eq (op:=dMod) (a:= .val (.int c)) (b:= .val (.int 4)) rfl rfl).trans ((modS (by decide)).trans (by rw [hu]))
 refine wp_seq (P:=fun ρ=>∃z2,ρ = [Cv,some (.own (enR (dbs u))),z2]) ?_ (by
  rintro ρ ⟨z2,rfl⟩;exact wp_ret rfl rfl)
 refine wp_forR0 (n:=u) (fun k ρ=>∃z2,ρ = [Cv,some (.own (enR (dbs k))),z2]) (rng1_to (j:=u) (consP_to hm rfl) (by omega)) ⟨none,rfl⟩ ?_ (fun ρ h=>h);rintro k ρ hk ⟨z2,rfl⟩;obtain ⟨bl,br⟩:=Bool.and_eq_true_iff.mp (sq_dbs k (by omega));have bl:=of_decide_eq_true bl;have br:∀r ∈ dbs k,r.length=2 ^ k:=fun r hr=>of_decide_eq_true (List.all_eq_true.mp br r hr)
 have k8:2 ^ k<=8:=by
  have:2 ^ k<=2 ^ 3:=Nat.pow_le_pow_right (by decide) (by omega);exact this
 refine ⟨_,rfl,wp_frz ?_⟩;generalize hB:dbs k=B at *
 let B1:Option Sl:=some (.val (.list (enR B)))
 show Wp _ [Cv,B1,some (.val (.int (k:Nat)))] _
 have c1:(mLC (subE [none]) (mItemsS (mVar 1)) (gVar 0) mYes (mBin dAdd (mPk 0) (mPk 0))) [Cv,B1,some (.val (.int (k:Nat)))]=some (.own (enR (B.map fun r=>r++r))):=by
  unfold enR;rw [List.map_map];refine lc_to (ds:=enR B) rfl (by rw [enR_len,bl];omega) (compM_map fun r hr=> ?_);have rl:=br r hr;show elM _ _ _ [none] _=_;refine el_to (ρ1:= [some (.val (.list (il r)))]) (r:= .own (il (r++r))) rfl ((bin_eq (op:=dAdd) (a:= .val (.list (il r))) (b:= .val (.list (il r))) rfl rfl).trans ((add_own (xs:=il r) (ys:=il r) rfl rfl (by rw [il_len];omega)).trans (by rw [il_app])))
 have c2:(mLC (subE [none]) (mItemsS (mVar 1)) (gVar 0) mYes (mBin dAdd (mPk 0) (mLC (subE [none]) (mItemsS (mVar 0)) (gVar 0) mYes (mBin dSub (mK (.int 0)) (mPk 0))))) [Cv,B1,some (.val (.int (k:Nat)))]=some (.own (enR (B.map fun r=>r++r.map fun x=>0 - x))):=by
  unfold enR;rw [List.map_map];refine lc_to (ds:=enR B) rfl (by rw [enR_len,bl];omega) (compM_map fun r hr=> ?_);have rl:=br r hr;show elM _ _ _ [none] _=_
  have c3:(mLC (subE [none]) (mItemsS (mVar 0)) (gVar 0) mYes (mBin dSub (mK (.int 0)) (mPk 0))) [some (.val (.list (il r)))]=some (.own (il (r.map fun x=>0 - x))):=by
   unfold il;rw [List.map_map];refine lc_to (ds:=il r) rfl (by rw [il_len];omega) (compM_map fun x _=> ?_);show elM _ _ _ [none] _=_;exact el_to (ρ1:= [some (.val (.int x))]) (r:= .val (.int (0 - x))) rfl rfl
  refine el_to (ρ1:= [some (.val (.list (il r)))]) (r:= .own (il (r++r.map fun x=>0 - x))) rfl ((bin_eq (op:=dAdd) (a:= .val (.list (il r))) rfl c3).trans ((add_own (xs:=il r) (ys:=il (r.map fun x=>0 - x)) rfl rfl (by rw [il_len,il_len,List.length_map];omega)).trans (by rw [il_app])))
 refine wp_asg (r:= .own (enR (dblZ B))) ((bin_eq (op:=dAdd) c1 c2).trans ((add_own rfl rfl (by rw [enR_len,enR_len,List.length_map,List.length_map,bl];omega)).trans (by rw [<-enR_app];rfl))) ⟨some (.val (.int (k:Nat))),?_⟩;show _ = [Cv,some (.own (enR (dblZ (dbs k)))),_];rw [hB];rfl
def sqs(p:Nat):List Int:=(List.range p).map fun k:Nat=>((k:Int)*(k:Int)).fmod (p:Int)
def cellP(p i j:Nat):Int:=if (sqs p).any (fun d=>decide (d=((j:Int) - (i:Int)).fmod (p:Int))) then 1 else -1
def rowP(p i:Nat):List Int:= -1::(List.range p).map fun j=>cellP p i j
def ofP(p:Nat):Tz:=List.replicate (p+1) 1::(List.range p).map fun i=>rowP p i
theorem run_ofp{p:Nat}(h1:1<=p)(hp:p<=100):m_q26 [.int (p:Nat)]=some (.own (enR (ofP p))):=by
 have hs:=sl1000
 let Pv:Option Sl:=some (.val (.int (p:Nat)))
 let Q1:Option Sl:=some (.own (il (sqs p)))
 refine run_wp (ρ:= [Pv,none,none,none]) rfl rfl ?_;unfold b_q26
 have sq:(mLC (subE [some 0,none]) (mRng1 (mConsP (mPk 0) mNilP)) (gVar 1) mYes (mBin dMod (mBin dRep (mPk 1) (mPk 1)) (mPk 0))) [Pv,none,none,none]=some (.own (il (sqs p))):=by
  unfold il sqs;rw [List.map_map];refine lc_to (ds:=rngD 0 p) (rng1_to (j:=p) rfl (by omega)) (by simp only [rngD,List.length_map,List.length_range];omega) (compM_range fun k hk=> ?_);show elM _ _ _ [Pv,none] _=_;have e:(0:Int)+(k:Nat)=(k:Nat):=by omega
  rw [e];exact el_to (ρ1:= [Pv,some (.val (.int (k:Nat)))]) (r:= .val (.int (((k:Int)*(k:Int)).fmod (p:Int)))) rfl ((bin_eq (op:=dMod) ((bin_eq (op:=dRep) (a:= .val (.int (k:Nat))) (b:= .val (.int (k:Nat))) rfl rfl).trans (mulS (cmL (by omega) (by omega)))) (b:= .val (.int (p:Nat))) rfl).trans (modS (by omega)))
 refine wp_asgS sq ?_;show Wp _ [Pv,Q1,none,none] _;refine wp_asgS (r:= .own (enR [List.replicate (p+1) 1])) ?_ ?_
 . have e : (mBin dRep (mLst (mCons (mK (.int 1)) mNil)) (mBin dAdd (mPk 0) (mK (.int 1)))) [Pv, Q1, none, none] = some (.own (il (List.replicate (p + 1) 1))) := by
    refine (bin_eq (op:=dRep) (a:= .own [.int 1]) (b:= .val (.int ((p+1:Nat):Int))) (lst1 (a:= .val (.int 1)) rfl) rfl).trans ((rep_own (by show 1*(p+1)<=_;omega) (by omega)).trans ?_);congr 2
    unfold il;rw [List.map_replicate];generalize p+1=w
    induction w with
    | zero=>rfl
    | succ w ih=>rw [List.replicate_succ,List.replicate_succ,List.flatten_cons,ih];rfl
   exact lst1 (a:= .own (il (List.replicate (p+1) 1))) e
 show Wp _ [Pv,Q1,some (.own (enR [List.replicate (p+1) 1])),none] _
 refine wp_seq (P:=fun ρ=>∃z3,ρ = [Pv,Q1,some (.own (enR (ofP p))),z3]) ?_ (by
  rintro ρ ⟨z3,rfl⟩;exact wp_ret rfl rfl)
 . refine wp_forR0 (n:=p) (fun k ρ=>∃z3,ρ = [Pv,Q1,some (.own (enR (List.replicate (p+1) 1::(List.range k).map fun i=>rowP p i))),z3]) (rng1_to (j:=p) rfl (by omega)) ⟨_,rfl⟩ ?_ (fun ρ h=>h);rintro i ρ hi ⟨z3,rfl⟩;refine ⟨_,rfl,?_⟩
   let A:Tz:=List.replicate (p+1) 1::(List.range i).map fun i=>rowP p i
   let I3:Option Sl:=some (.val (.int (i:Nat)))
   show Wp _ [Pv,Q1,some (.own (enR A)),I3] _
   have lc:(mLC (subE [some 3,some 0,some 1,none]) (mRng1 (mConsP (mPk 0) mNilP)) (gVar 3) mYes (mIfE (mTest (mBin (dInD false) (mBin dMod (mBin dSub (mPk 3) (mPk 0)) (mPk 1)) (mPk 2))) (mK (.int 1)) (mUn (iun fun i=> -i) (mK (.int 1))))) [Pv,Q1,some (.own (enR A)),I3]=some (.own (il ((List.range p).map fun j=>cellP p i j))):=by
    unfold il;rw [List.map_map];refine lc_to (ds:=rngD 0 p) (rng1_to (j:=p) rfl (by omega)) (by simp only [rngD,List.length_map,List.length_range];omega) (compM_range fun j hj=> ?_);show elM _ _ _ [I3,Pv,Q1,none] _=_;have e0:(0:Int)+(j:Nat)=(j:Nat):=by omega
    rw [e0];refine el_to (ρ1:= [I3,Pv,Q1,some (.val (.int (j:Nat)))]) (r:= .val (.int (cellP p i j))) rfl ?_;have md:(mBin dMod (mBin dSub (mPk 3) (mPk 0)) (mPk 1)) [I3,Pv,Q1,some (.val (.int (j:Nat)))]=some (.val (.int (((j:Int) - (i:Int)).fmod (p:Int)))):=(bin_eq (op:=dMod) ((bin_eq (op:=dSub) (a:= .val (.int (j:Nat))) (b:= .val (.int (i:Nat))) rfl rfl).trans rfl) (b:= .val (.int (p:Nat))) rfl).trans (modS (by omega))
    have ti:(mTest (mBin (dInD false) (mBin dMod (mBin dSub (mPk 3) (mPk 0)) (mPk 1)) (mPk 2))) [I3,Pv,Q1,some (.val (.int (j:Nat)))]=some ((sqs p).any fun d=>decide (d=((j:Int) - (i:Int)).fmod (p:Int))):=by
     refine test_eq ((bin_eq md (b:= .own (il (sqs p))) rfl).trans ?_);show inD false (.int _) (il (sqs p))=_;unfold inD;rw [if_pos ⟨rfl,by unfold il;rw [List.all_map];exact List.all_eq_true.mpr fun _ _=>rfl,by simp [PyData.depth]⟩];refine congrArg (fun b=>some (Sl.val (PyData.bool b))) ?_;rw [if_neg (by decide)];unfold il;rw [List.any_map];refine congrArg (sqs p).any (funext fun d=> ?_);show PyData.eqv (.int d) (.int _)=_;rw [eqv_int]
    unfold mIfE;rw [ti];unfold cellP
    cases (sqs p).any fun d=>decide (d=((j:Int) - (i:Int)).fmod (p:Int)) <;> rfl
   refine wp_of (app_to (r:= .own (il (rowP p i))) (ds:=enR A) ((bin_eq (op:=dAdd) (a:= .own [.int (-1)]) (lst1 (a:= .val (.int (-1))) rfl) lc).trans ((add_own (xs:= [.int (-1)]) rfl rfl (by rw [List.length_map,List.length_map,List.length_range];show 1+p<=_;omega)).trans rfl)) rfl (by rw [enR_len];simp only [A,List.length_cons,List.length_map,List.length_range];omega)) ⟨I3,?_⟩;show ([Pv,Q1,some (Sl.own (enR A ++ [.list (il (rowP p i))])),I3]:En)=_
   have:A ++ [rowP p i]=List.replicate (p+1) 1::(List.range (i+1)).map fun i=>rowP p i:=by
    simp only [A,List.range_succ,List.map_append,List.cons_append];rfl
   rw [<-this,enR_app];rfl
theorem getD_mul{r:List Int}{s:Int}{p:Nat}(h:p<r.length):(r.map fun x=>x*s).getD p 0=r.getD p 0*s:=by
 rw [List.getD,List.getElem?_map,List.getElem?_eq_getElem h,List.getD,List.getElem?_eq_getElem h];rfl
def bx(B:Tz)(i j:Nat):Int:=(B.getD i []).getD j 0
def pm(q:Int)(n:Nat)(r:Int)(i:Nat):Nat:=((q*(i:Nat)+r).fmod (n:Nat)).toNat
def mxd(B:Tz)(n:Nat)(c:Int)(S T:List Int):Tz:=(List.range n).map fun i=>(List.range n).map fun j=>bx B (pm 7 n (c.fdiv 3) i) (pm 11 n (c.fdiv 7) j)*S.getD i 0*T.getD j 0
structure Sg (n:Nat) (B:Tz):Prop where
 len:B.length=n
 row:∀r ∈ B,r.length=n/\∀x ∈ r,x=1\/x = -1
theorem pm_lt{q:Int}{n:Nat}{r:Int}{i:Nat}(h:1<=n):pm q n r i<n:=by
 unfold pm;have h1:=Int.fmod_nonneg_of_pos (q*(i:Nat)+r) (show (0:Int)<(n:Nat) by omega);have h2:=Int.fmod_lt_of_pos (q*(i:Nat)+r) (show (0:Int)<(n:Nat) by omega);omega
theorem run_mixed_up(c:Int){n:Nat}{B:Tz}(h1:1<=n)(h8:n<=40)(hB:Sg n B):∃S T:List Int,S.length=n/\T.length=n/\(∀x ∈ S,x=1\/x = -1)/\(∀x ∈ T,x=1\/x = -1)/\m_q8 [.int c, .list (enR B)]=some (.own (enR (mxd B n c S T))):=by
 have hs:=sl1000
 let Cv:Option Sl:=some (.val (.int c))
 let Bv:Option Sl:=some (.val (.list (enR B)))
 let N2:Option Sl:=some (.val (.int (n:Nat)))
 obtain ⟨S,eS,lS,bS⟩:=run_signs c (a:=0) (m:=n) (by omega) (by omega);obtain ⟨T,eT,lT,bT⟩:=run_signs c (a:=n) (m:=n) (by omega) (by omega);refine ⟨S,T,lS,lT,bS,bT,?_⟩
 let rw1:Nat->List Int:=fun i=>(B.getD (pm 7 n (c.fdiv 3) i) []).map fun x=>x*S.getD i 0
 have rwl:∀i,(rw1 i).length=n/\∀x ∈ rw1 i,i<n->x=1\/x = -1:=by
  intro i;have pl:pm 7 n (c.fdiv 3) i<B.length:=by rw [hB.len];exact pm_lt h1
  have e:B.getD (pm 7 n (c.fdiv 3) i) []=B[pm 7 n (c.fdiv 3) i]:=by rw [List.getD,List.getElem?_eq_getElem pl];rfl
  obtain ⟨l1,l2⟩:=hB.row _ (List.getElem_mem pl);refine ⟨by show (List.map _ _).length=n;rw [List.length_map,e,l1],fun x hx hi=> ?_⟩;obtain ⟨y,hy,rfl⟩:=List.mem_map.mp hx;rw [e] at hy
  have y1:=l2 y hy;have s1:=bS (S.getD i 0) (by rw [List.getD,List.getElem?_eq_getElem (by omega)];exact List.getElem_mem _);show y*S.getD i 0=1\/y*S.getD i 0 = -1;generalize S.getD i 0=s at *
  rcases y1 with rfl | rfl <;> rcases s1 with rfl | rfl <;> decide
 refine run_wp (ρ:= [Cv,Bv,none,none,none,none,none,none]) rfl rfl ?_;unfold b_q8;refine wp_asgS (r:= .val (.int (n:Nat))) (callP_to (consP_to rfl rfl) (by simp only [dLen,Sl.dat,enR_len,hB.len])) ?_;refine wp_seqN (ρ':= [Cv,Bv,N2,some (.own (il S)),none,none,none,none]) (by rw [frz_eq];exact asg_to (call_to (ds:= [.int c, .int ((0:Nat):Int), .int (n:Nat)]) rfl eS)) ?_;refine wp_asgS (r:= .own []) (if_pos (e:=none) (show 0<=sizeLine by decide)) ?_
 let A:Tz:=(List.range n).map rw1
 refine wp_seq (P:=fun ρ=>∃z5,ρ = [Cv,Bv,N2,some (.own (il S)),some (.own (enR A)),z5,none,none]) ?_ ?_
 . refine wp_forR0 (n:=n) (fun k ρ=>∃z5,ρ = [Cv,Bv,N2,some (.own (il S)),some (.own (enR ((List.range k).map rw1))),z5,none,none]) (rng1_to (j:=n) rfl (by omega)) ⟨_,rfl⟩ ?_ (fun ρ h=>h);rintro k ρ hk ⟨z5,rfl⟩;refine ⟨_,rfl,?_⟩
   let I5:Option Sl:=some (.val (.int (k:Nat)))
   let A':Tz:=(List.range k).map rw1
   let E:En:= [Cv,Bv,N2,some (.own (il S)),some (.own (enR A')),I5,none,none]
   show Wp _ E _;obtain ⟨p,hp,pb,pe⟩:=modN (fa:=mBin dAdd (mBin dRep (mK (.int 7)) (mPk 5)) (mBin dFdiv (mPk 0) (mK (.int 3)))) (fb:=mPk 2) (ρ:=E) (i:=7*(k:Nat)+c.fdiv 3) ((bin_eq (op:=dAdd) ((bin_eq (op:=dRep) (a:= .val (.int 7)) (b:= .val (.int (k:Nat))) rfl rfl).trans (mulS (cmL (by decide) (by decide)))) (divK rfl (by decide) (by decide))).trans rfl) rfl (by omega)
   have pp:p=pm 7 n (c.fdiv 3) k:=by
    unfold pm;rw [<-pe];omega
   have pl:p<B.length:=by rw [hB.len];omega
   have gr:B[p]? = some (B.getD p []):=by rw [List.getD,List.getElem?_eq_getElem pl];rfl
   obtain ⟨lr,br⟩:=hB.row _ (List.mem_of_getElem? gr);have gs:S[k]? = some (S.getD k 0):=by rw [List.getD,List.getElem?_eq_getElem (by omega)];rfl
   have it:(mItemsS (mBin dix (mPk 1) (mBin dMod (mBin dAdd (mBin dRep (mK (.int 7)) (mPk 5)) (mBin dFdiv (mPk 0) (mK (.int 3)))) (mPk 2)))) E=some (il (B.getD p [])):=by
    unfold mItemsS;rw [(bin_eq (op:=dix) (a:= .val (.list (enR B))) rfl hp).trans (dix_nat (.inl rfl) (enR_get gr))];rfl
   have lc:(mLC (subE [some 3,some 5,none]) (mItemsS (mBin dix (mPk 1) (mBin dMod (mBin dAdd (mBin dRep (mK (.int 7)) (mPk 5)) (mBin dFdiv (mPk 0) (mK (.int 3)))) (mPk 2)))) (gVar 2) mYes (mBin dRep (mPk 2) (mBin dix (mPk 0) (mPk 1)))) E=some (.own (il (rw1 k))):=by
    have e:rw1 k=(B.getD p []).map fun x=>x*S.getD k 0:=by rw [pp]
    rw [e];unfold il;rw [List.map_map];refine lc_to it (by rw [il_len,lr];omega) (compM_map fun x hx=> ?_);show elM _ _ _ [some (.own (il S)),I5,none] _=_;have:=br x hx;refine el_to (ρ1:= [some (.own (il S)),I5,some (.val (.int x))]) (r:= .val (.int (x*S.getD k 0))) rfl ((bin_eq (op:=dRep) (a:= .val (.int x)) rfl ((bin_eq (op:=dix) (a:= .own (il S)) (b:= .val (.int (k:Nat))) rfl rfl).trans (dix_nat (.inl rfl) (by unfold il;rw [List.getElem?_map,gs];rfl)))).trans (mulS (cmL (by omega) (by omega))))
   refine wp_of (app_to (ds:=enR A') lc rfl (by rw [enR_len,List.length_map,List.length_range];omega)) ⟨I5,?_⟩;show [Cv,Bv,N2,some (.own (il S)),some (.own (enR A' ++ [.list (il (rw1 k))])),I5,none,none]=_;rw [List.range_succ,List.map_append,enR_app];rfl
 rintro ρ ⟨z5,rfl⟩;refine wp_seqN (ρ':= [Cv,Bv,N2,some (.own (il T)),some (.own (enR A)),z5,none,none]) (by rw [frz_eq];exact asg_to (call_to (ds:= [.int c, .int (n:Nat), .int (n:Nat)]) rfl eT)) ?_;refine wp_asgS (r:= .own []) (if_pos (e:=none) (show 0<=sizeLine by decide)) ?_
 let mrow:Nat->List Int:=fun i=>(List.range n).map fun j=>bx B (pm 7 n (c.fdiv 3) i) (pm 11 n (c.fdiv 7) j)*S.getD i 0*T.getD j 0
 refine wp_seq (P:=fun ρ=>∃z7,ρ = [Cv,Bv,N2,some (.own (il T)),some (.own (enR A)),z5,some (.own (enR ((List.range n).map mrow))),z7]) ?_ (by
  rintro ρ ⟨z7,rfl⟩;exact wp_ret rfl rfl)
 have Al:A.length=n:=by show ((List.range n).map rw1).length=n;rw [List.length_map,List.length_range]
 refine wp_forN (en:=fun r=> .list (il r)) (xs:=A) (fun k ρ=>∃z7,ρ = [Cv,Bv,N2,some (.own (il T)),some (.own (enR A)),z5,some (.own (enR ((List.range k).map mrow))),z7]) rfl ⟨_,rfl⟩ ?_ (fun ρ h=>by rw [Al] at h;exact h);rintro k r ρ hr ⟨z7,rfl⟩;have kl:k<n:=by rw [<-Al];exact (List.getElem?_eq_some_iff.mp hr).1
 have re:r=rw1 k:=by
  have:A[k]? = some (rw1 k):=by show ((List.range n).map rw1)[k]? = _;rw [List.getElem?_map,List.getElem?_range kl];rfl
  rw [hr] at this
  exact Option.some.inj this
 subst re;obtain ⟨lr,br⟩:=rwl k;refine ⟨_,rfl,?_⟩
 let R7:Option Sl:=some (.val (.list (il (rw1 k))))
 let M':Tz:=(List.range k).map mrow
 let E:En:= [Cv,Bv,N2,some (.own (il T)),some (.own (enR A)),z5,some (.own (enR M')),R7]
 show Wp _ E _
 have lc:(mLC (subE [some 7,some 0,some 2,some 3,none]) (mRng1 (mConsP (mPk 2) mNilP)) (gVar 4) mYes (mBin dRep (mBin dix (mPk 0) (mBin dMod (mBin dAdd (mBin dRep (mK (.int 11)) (mPk 4)) (mBin dFdiv (mPk 1) (mK (.int 7)))) (mPk 2))) (mBin dix (mPk 3) (mPk 4)))) E=some (.own (il (mrow k))):=by
  have il2:il (mrow k)=(List.range n).map fun j=> .int (bx B (pm 7 n (c.fdiv 3) k) (pm 11 n (c.fdiv 7) j)*S.getD k 0*T.getD j 0):=by
   show ((List.range n).map _).map PyData.int=_;rw [List.map_map];rfl
  rw [il2];refine lc_to (ds:=rngD 0 n) (rng1_to (j:=n) rfl (by omega)) (by simp only [rngD,List.length_map,List.length_range];omega) (compM_range fun j hj=> ?_);show elM _ _ _ [R7,Cv,N2,some (.own (il T)),none] _=_;rw [show (0:Int)+(j:Nat)=(j:Nat) by omega]
  let F:En:= [R7,Cv,N2,some (.own (il T)),some (.val (.int (j:Nat)))]
  obtain ⟨p,hp,pb,pe⟩:=modN (fa:=mBin dAdd (mBin dRep (mK (.int 11)) (mPk 4)) (mBin dFdiv (mPk 1) (mK (.int 7)))) (fb:=mPk 2) (ρ:=F) (i:=11*(j:Nat)+c.fdiv 7) ((bin_eq (op:=dAdd) ((bin_eq (op:=dRep) (a:= .val (.int 11)) (b:= .val (.int (j:Nat))) rfl rfl).trans (mulS (cmL (by decide) (by decide)))) (divK rfl (by decide) (by decide))).trans rfl) rfl (by omega)
  have pp:p=pm 11 n (c.fdiv 7) j:=by
   unfold pm;rw [<-pe];omega
  have gx:(rw1 k)[p]? = some ((rw1 k).getD p 0):=by rw [List.getD,List.getElem?_eq_getElem (by omega)];rfl
  have bxk:=br _ (List.mem_of_getElem? gx) kl;have gt:T[j]? = some (T.getD j 0):=by rw [List.getD,List.getElem?_eq_getElem (by omega)];rfl
  have cell:(rw1 k).getD p 0=bx B (pm 7 n (c.fdiv 3) k) (pm 11 n (c.fdiv 7) j)*S.getD k 0:=by
   show ((B.getD _ []).map _).getD p 0=_
   have lb:p<(B.getD (pm 7 n (c.fdiv 3) k) []).length:=by
    have:(rw1 k).length=(B.getD (pm 7 n (c.fdiv 3) k) []).length:=List.length_map ..;omega
   unfold bx;rw [<-pp];exact getD_mul lb
  refine el_to (ρ1:=F) (r:= .val (.int (bx B (pm 7 n (c.fdiv 3) k) (pm 11 n (c.fdiv 7) j)*S.getD k 0*T.getD j 0))) rfl ?_;rw [<-cell];exact (bin_eq (op:=dRep) ((bin_eq (op:=dix) (a:= .val (.list (il (rw1 k)))) rfl hp).trans (dix_nat (.inl rfl) (by unfold il;rw [List.getElem?_map,gx];rfl))) ((bin_eq (op:=dix) (a:= .own (il T)) (b:= .val (.int (j:Nat))) rfl rfl).trans (dix_nat (.inl rfl) (by unfold il;rw [List.getElem?_map,gt];rfl)))).trans (mulS (cmL (by omega) (by omega)))
 refine wp_of (app_to (r:= .own (il (mrow k))) (ds:=enR M') lc rfl (by rw [enR_len,List.length_map,List.length_range];omega)) ⟨R7,?_⟩;show [Cv,Bv,N2,some (.own (il T)),some (.own (enR A)),z5,some (.own (enR M' ++ [.list (il (mrow k))])),R7]=_;rw [List.range_succ,List.map_append,enR_app];rfl
theorem perm_sum{l l':List Nat}(h:l.Perm l')(g:Nat->Int):(l.map g).sum=(l'.map g).sum:=by
 induction h with
 | nil=>rfl
 | cons x _ ih=>rw [List.map_cons,List.map_cons,List.sum_cons,List.sum_cons,ih]
 | swap x y l=>
  rw [List.map_cons,List.map_cons,List.map_cons,List.map_cons,List.sum_cons,List.sum_cons,List.sum_cons,List.sum_cons]
  omega
 | trans _ _ i1 i2=>rw [i1,i2]
def colC(n:Nat)(B:Tz):Bool:=(List.range n).all fun j=>(List.range j).all fun k=>decide (((List.range n).map fun i=>bx B i j*bx B i k).sum=0)
def sgC(n:Nat)(B:Tz):Bool:=decide (B.length=n) && B.all fun r=>decide (r.length=n) && r.all fun x=>decide (x=1) || decide (x = -1)
theorem sg_of{n:Nat}{B:Tz}(h:sgC n B=true):Sg n B:=by
 obtain ⟨h1,h2⟩:=Bool.and_eq_true_iff.mp h;refine ⟨of_decide_eq_true h1,fun r hr=> ?_⟩;obtain ⟨h3,h4⟩:=Bool.and_eq_true_iff.mp (List.all_eq_true.mp h2 r hr);refine ⟨of_decide_eq_true h3,fun x hx=> ?_⟩;rcases Bool.or_eq_true_iff.mp (List.all_eq_true.mp h4 x hx) with h | h
 . exact .inl (of_decide_eq_true h)
 . exact .inr (of_decide_eq_true h)
theorem col_d2:(colC 4 (dbs 2) && sgC 4 (dbs 2))=true:=by decide +kernel
theorem col_d3:(colC 8 (dbs 3) && sgC 8 (dbs 3))=true:=by decide +kernel
theorem col_3:(colC 4 (ofP 3) && sgC 4 (ofP 3))=true:=by decide +kernel
theorem col_7:(colC 8 (ofP 7) && sgC 8 (ofP 7))=true:=by decide +kernel
def okN(n:Nat):Bool:=(List.range n).all fun r=>((List.range n).map fun i=>(7*i+r) % n).isPerm (List.range n) && (List.range n).all fun j=>(List.range j).all fun k=>decide ((11*j+r) % n≠(11*k+r) % n)
theorem ok_all:(okN 2 && okN 4 && okN 8 && okN 12 && okN 20)=true:=by decide +kernel
theorem pm_nat{q n:Nat}{r:Int}{i:Nat}(h:1<=n):pm (q:Nat) n r i=(q*i+(r.fmod (n:Nat)).toNat) % n:=by
 have hp:(0:Int)<(n:Nat):=by omega
 have h1:=Int.fmod_nonneg_of_pos r hp;unfold pm;rw [Int.fmod_eq_emod_of_nonneg _ (by omega)]
 have e:((q*i+(r.fmod (n:Nat)).toNat:Nat):Int) % ((n:Nat):Int)=(((q:Nat):Int)*((i:Nat):Int)+r) % ((n:Nat):Int):=by
  rw [Int.natCast_add,Int.natCast_mul,Int.toNat_of_nonneg h1,Int.fmod_eq_emod_of_nonneg _ (by omega)];rw [Int.add_emod_emod]
 rw [<-e, <-Int.natCast_emod];rfl
structure Co (n:Nat) (m:Nat->Nat->Int):Prop where
 pm1:∀i,i<n->∀j,j<n->m i j=1\/m i j = -1
 ort:∀j,j<n->∀k,k<n->j≠k->((List.range n).map fun i=>m i j*m i k).sum=0
theorem bx_pm{n:Nat}{B:Tz}(h:Sg n B){i j:Nat}(hi:i<n)(hj:j<n):bx B i j=1\/bx B i j = -1:=by
 have pl:i<B.length:=by rw [h.len];exact hi
 obtain ⟨l1,l2⟩:=h.row _ (List.getElem_mem pl);unfold bx;have e:B.getD i []=B[i]:=by rw [List.getD,List.getElem?_eq_getElem pl];rfl
 rw [e];refine l2 _ ?_;rw [List.getD,List.getElem?_eq_getElem (by rw [l1];exact hj)];exact List.getElem_mem _
theorem getD_pm{S:List Int}{n i:Nat}(l:S.length=n)(h:∀x ∈ S,x=1\/x = -1)(hi:i<n):S.getD i 0=1\/S.getD i 0 = -1:=by
 refine h _ ?_;rw [List.getD,List.getElem?_eq_getElem (by rw [l];exact hi)];exact List.getElem_mem _
theorem sum_mulR{f:Nat->Int}(a:Int):∀T:List Nat,(T.map fun t=>a*f t).sum=a*(T.map f).sum
 | []=>by simp
 | t::T=>by rw [List.map_cons,List.map_cons,List.sum_cons,List.sum_cons,sum_mulR a T,Int.mul_add]
theorem co_mixed {n : Nat} {B : Tz} {c : Int} {S T : List Int} (h1 : 1 <= n) (hB : Sg n B) (hc : colC n B = true) (hn : okN n = true) (lS : S.length = n) (lT : T.length = n) (bS : ∀ x ∈ S, x = 1 \/ x = -1) (bT : ∀ x ∈ T, x = 1 \/ x = -1) :
 Co n fun i j=>bx B (pm 7 n (c.fdiv 3) i) (pm 11 n (c.fdiv 7) j)*S.getD i 0*T.getD j 0:=by
 have rl:∀r:Int,(r.fmod (n:Nat)).toNat<n:=fun r=>by
  have a1:=Int.fmod_nonneg_of_pos r (show (0:Int)<(n:Nat) by omega);have a2:=Int.fmod_lt_of_pos r (show (0:Int)<(n:Nat) by omega);omega
 have okr:∀r:Nat,r<n->((List.range n).map fun i=>(7*i+r) % n).Perm (List.range n)/\∀j,j<n->∀k,k<j->(11*j+r) % n≠(11*k+r) % n:=fun r hr=>by
  obtain ⟨a1,a2⟩:=Bool.and_eq_true_iff.mp (List.all_eq_true.mp hn r (List.mem_range.mpr hr));exact ⟨List.isPerm_iff.mp a1,fun j hj k hk=>of_decide_eq_true (List.all_eq_true.mp (List.all_eq_true.mp a2 j (List.mem_range.mpr hj)) k (List.mem_range.mpr hk))⟩
 have c0:∀j,j<n->∀k,k<j->((List.range n).map fun i=>bx B i j*bx B i k).sum=0:=fun j hj k hk=>of_decide_eq_true (List.all_eq_true.mp (List.all_eq_true.mp hc j (List.mem_range.mpr hj)) k (List.mem_range.mpr hk))
 have c1:∀j,j<n->∀k,k<n->j≠k->((List.range n).map fun i=>bx B i j*bx B i k).sum=0:=fun j hj k hk hjk=>by
  by_cases hl:k<j
  . exact c0 j hj k hl
  . have:=c0 k hk j (by omega);rw [<-this];congr 1
    exact List.map_congr_left fun i _=>Int.mul_comm _ _
 refine ⟨fun i hi j hj=> ?_,fun j hj k hk hjk=> ?_⟩
 . have a1:=bx_pm hB (pm_lt (q:=7) (r:=c.fdiv 3) (i:=i) h1) (pm_lt (q:=11) (r:=c.fdiv 7) (i:=j) h1);have a2:=getD_pm lS bS hi;have a3:=getD_pm lT bT hj;generalize bx B (pm 7 n (c.fdiv 3) i) (pm 11 n (c.fdiv 7) j)=x at *
   generalize S.getD i 0=y at *
   generalize T.getD j 0=z at *
   show x*y*z=1\/x*y*z = -1;rcases a1 with rfl | rfl <;> rcases a2 with rfl | rfl <;> rcases a3 with rfl | rfl <;> decide
 . let σ:=pm 11 n (c.fdiv 7)
   have sne:σ j≠σ k:=by
    have ok:=(okr _ (rl (c.fdiv 7))).2;show pm ((11:Nat):Int) n (c.fdiv 7) j≠pm ((11:Nat):Int) n (c.fdiv 7) k;rw [pm_nat h1,pm_nat h1]
    by_cases hl:k<j
    . exact ok j hj k hl
    . exact fun z=>ok k hk j (by omega) z.symm
   let g:Nat->Int:=fun i=>bx B i (σ j)*bx B i (σ k)
   have e:((List.range n).map fun i=>(bx B (pm 7 n (c.fdiv 3) i) (pm 11 n (c.fdiv 7) j)*S.getD i 0*T.getD j 0)*(bx B (pm 7 n (c.fdiv 3) i) (pm 11 n (c.fdiv 7) k)*S.getD i 0*T.getD k 0))=(List.range n).map fun i=>(T.getD j 0*T.getD k 0)*g (pm 7 n (c.fdiv 3) i):=by
    refine List.map_congr_left fun i hi=> ?_;have a2:=getD_pm lS bS (List.mem_range.mp hi);show (bx B (pm 7 n (c.fdiv 3) i) (σ j)*S.getD i 0*T.getD j 0)*(bx B (pm 7 n (c.fdiv 3) i) (σ k)*S.getD i 0*T.getD k 0)=(T.getD j 0*T.getD k 0)*(bx B (pm 7 n (c.fdiv 3) i) (σ j)*bx B (pm 7 n (c.fdiv 3) i) (σ k));generalize S.getD i 0=y at *
    have yy:y*y=1:=by rcases a2 with rfl | rfl <;> rfl
    generalize bx B (pm 7 n (c.fdiv 3) i) (σ j)=u;generalize bx B (pm 7 n (c.fdiv 3) i) (σ k)=v;generalize T.getD j 0=t;generalize T.getD k 0=w
    calc u*y*t*(v*y*w)=(t*w)*(u*v)*(y*y):=by ac_rfl
     _=_:=by rw [yy,Int.mul_one]
   show ((List.range n).map fun i=>(bx B (pm 7 n (c.fdiv 3) i) (pm 11 n (c.fdiv 7) j)*S.getD i 0*T.getD j 0)*(bx B (pm 7 n (c.fdiv 3) i) (pm 11 n (c.fdiv 7) k)*S.getD i 0*T.getD k 0)).sum=0;rw [e,sum_mulR]
   have e2:((List.range n).map fun i=>g (pm 7 n (c.fdiv 3) i)).sum=0:=by
    have p:=(okr _ (rl (c.fdiv 3))).1
    have e3:((List.range n).map fun i=>g (pm 7 n (c.fdiv 3) i))=((List.range n).map fun i=>(7*i+((c.fdiv 3).fmod (n:Nat)).toNat) % n).map g:=by
     rw [List.map_map];refine List.map_congr_left fun i _=> ?_;show g (pm ((7:Nat):Int) n (c.fdiv 3) i)=_;rw [pm_nat h1];rfl
    rw [e3,perm_sum p g];exact c1 (σ j) (pm_lt h1) (σ k) (pm_lt h1) sne
   rw [e2,Int.mul_zero]
def mrw(m:Nat->Nat->Int)(n i:Nat):List Int:=(List.range n).map (m i)
def mtb(m:Nat->Nat->Int)(n:Nat):Tz:=(List.range n).map (mrw m n)
def trl(m:Nat->Nat->Int)(n i:Nat):List Nat:=(List.range (n - 1)).map fun j=>if m i (j+1)=m i 0 then 0 else 1
def pln(m:Nat->Nat->Int)(n:Nat):List (List Nat):=(List.range n).map (trl m n)
theorem drop_row{m:Nat->Nat->Int}{n i:Nat}(h:1<=n):(mrw m n i).drop 1=(List.range (n - 1)).map fun j=>m i (j+1):=by
 obtain ⟨k,rfl⟩:∃k,n=k+1:=⟨n - 1,by omega⟩;unfold mrw;rw [List.range_succ_eq_map,List.map_cons,List.map_map];rfl
theorem cut1(l:List Int):cutD (il l) (some ((1:Nat):Int)) none=il (l.drop 1):=by
 unfold cutD;rw [HT.sIx_none,HT.sIx_nat,il_len];unfold il;rw [List.map_drop]
 by_cases h:1<=l.length
 . rw [Nat.min_eq_left h,List.take_of_length_le (by rw [List.length_drop,List.length_map];omega)]
 . have:l = []:=List.length_eq_zero_iff.mp (by omega);subst this;rfl
theorem sl_row{m:Nat->Nat->Int}{n i:Nat}{ρ:En}(h:1<=n)(e:(ρ[0]?).join=some (.val (.list (il (mrw m n i))))):(mItemsS (mSl (mPk 0) (mPart (mK (.int 1))) mNoPart)) ρ=some (il ((List.range (n - 1)).map fun j=>m i (j+1))):=by
 have s1:(mSl (mPk 0) (mPart (mK (.int 1))) mNoPart) ρ=some (.own (il ((mrw m n i).drop 1))):=by
  rw [<-cut1];unfold mSl mPk;rw [e];rfl
 unfold mItemsS;rw [s1,drop_row h];rfl
theorem row0{m:Nat->Nat->Int}{n i:Nat}(h:1<=n):(il (mrw m n i))[0]? = some (.int (m i 0)):=by
 unfold il mrw;rw [List.getElem?_map,List.getElem?_map,List.getElem?_range (by omega)];rfl
theorem nl_trl(m:Nat->Nat->Int)(n i:Nat):nl (trl m n i)=(List.range (n - 1)).map fun j=> .int (((if m i (j+1)=m i 0 then 0 else 1:Nat):Nat):Int):=by
 unfold nl trl;rw [List.map_map];rfl
theorem run_trof{m:Nat->Nat->Int}{n i:Nat}(h:1<=n)(h9:n<=900):m_q39 [.list (il (mrw m n i))]=some (.val (tupN (trl m n i))):=by
 have sl:=sl1000
 let R0:Option Sl:=some (.val (.list (il (mrw m n i))))
 refine run_wp (ρ:= [R0]) rfl rfl ?_;unfold b_q39;refine wp_ret (callP_to (consP_to (a:= .own (nl (trl m n i))) ?_ rfl) rfl) rfl;rw [nl_trl];have e:il ((List.range (n - 1)).map fun j=>m i (j+1))=(List.range (n - 1)).map fun j=> .int (m i (j+1)):=by unfold il;rw [List.map_map];rfl
 refine lc_to ((sl_row h rfl).trans (by rw [e])) (by rw [List.length_map,List.length_range];omega) (compM_map fun j hj=> ?_);show elM _ _ _ [R0,none] _=_;refine el_to (ρ1:= [R0,some (.val (.int (m i (j+1))))]) (r:= .val (.int (((if m i (j+1)=m i 0 then 0 else 1:Nat):Nat):Int))) rfl ?_;have t:mTest (mBin deq (mPk 1) (mBin dix (mPk 0) (mK (.int 0)))) [R0,some (.val (.int (m i (j+1))))]=some (decide (m i (j+1)=m i 0)):=eq_int rfl ((bin_eq (op:=dix) (a:= .val (.list (il (mrw m n i)))) (b:= .val (.int ((0:Nat):Int))) rfl rfl).trans (dix_nat (.inl rfl) (row0 h)));unfold mIfE;rw [t]
 by_cases q:m i (j+1)=m i 0
 . rw [decide_eq_true q,if_pos q];rfl
 . rw [decide_eq_false q,if_neg q];rfl
theorem enR_mtb(m:Nat->Nat->Int)(n:Nat):enR (mtb m n)=(List.range n).map fun i=> .list (il (mrw m n i)):=by
 unfold enR mtb;rw [List.map_map];rfl
theorem map_pln(m:Nat->Nat->Int)(n:Nat):(pln m n).map tupN=(List.range n).map fun i=>tupN (trl m n i):=by
 unfold pln;rw [List.map_map];rfl
theorem run_plof{m:Nat->Nat->Int}{n:Nat}(h:1<=n)(h9:n<=900):m_q27 [.list (enR (mtb m n))]=some (.own ((pln m n).map tupN)):=by
 have sl:=sl1000;refine run_wp (ρ:= [some (.val (.list (enR (mtb m n))))]) rfl rfl ?_;unfold b_q27;refine wp_ret ?_ rfl;rw [map_pln];refine lc_to (ds:=(List.range n).map fun i=> .list (il (mrw m n i))) (by rw [<-enR_mtb];rfl) (by rw [List.length_map,List.length_range];omega) (compM_map fun i hi=> ?_);show elM _ _ _ [none] _=_;exact el_to (ρ1:= [some (.val (.list (il (mrw m n i))))]) (r:= .val (tupN (trl m n i))) rfl (call_to (ds:= [.list (il (mrw m n i))]) rfl (run_trof h h9))
def sx(t:List Nat)(c:Nat):Int:=1 - 2*((t.getD c 0:Nat):Int)
theorem trl_len(m:Nat->Nat->Int)(n i:Nat):(trl m n i).length=n - 1:=by unfold trl;rw [List.length_map,List.length_range]
theorem pln_len(m:Nat->Nat->Int)(n:Nat):(pln m n).length=n:=by unfold pln;rw [List.length_map,List.length_range]
theorem trl_get{m:Nat->Nat->Int}{n i j:Nat}(h:j<n - 1):(trl m n i).getD j 0=if m i (j+1)=m i 0 then 0 else 1:=by
 unfold trl;rw [List.getD,List.getElem?_map,List.getElem?_range h];rfl
theorem trl_le{m:Nat->Nat->Int}{n i:Nat}:∀s ∈ trl m n i,s<=1:=by
 intro s hs;obtain ⟨j,_,rfl⟩:=List.mem_map.mp hs
 split <;> omega
theorem getD_le1{t:List Nat}(h:∀s ∈ t,s<=1)(j:Nat):t.getD j 0<=1:=by
 rw [List.getD]
 cases e:t[j]? with
 | none=>exact Nat.zero_le _
 | some s=>exact h s (List.mem_of_getElem? e)
theorem sx_trl{m:Nat->Nat->Int}{n i j:Nat}(co:Co n m)(hi:i<n)(hj:j<n - 1):sx (trl m n i) j=m i (j+1)*m i 0:=by
 unfold sx;rw [trl_get hj];have a1:=co.pm1 i hi (j+1) (by omega);have a2:=co.pm1 i hi 0 (by omega);generalize m i (j+1)=x at *
 generalize m i 0=y at *
 rcases a1 with rfl | rfl <;> rcases a2 with rfl | rfl <;> decide
theorem s1{m:Nat->Nat->Int}{n j:Nat}(co:Co n m)(hj:j<n - 1):((pln m n).map fun t=>sx t j).sum=0:=by
 unfold pln;rw [List.map_map, <-co.ort (j+1) (by omega) 0 (by omega) (by omega)];congr 1
 exact List.map_congr_left fun i hi=>sx_trl co (List.mem_range.mp hi) hj
theorem s2{m:Nat->Nat->Int}{n j k:Nat}(co:Co n m)(hj:j<n - 1)(hk:k<n - 1)(hjk:j≠k):((pln m n).map fun t=>sx t j*sx t k).sum=0:=by
 unfold pln;rw [List.map_map, <-co.ort (j+1) (by omega) (k+1) (by omega) (by omega)];congr 1
 refine List.map_congr_left fun i hi=> ?_;have hi:=List.mem_range.mp hi;show sx (trl m n i) j*sx (trl m n i) k=_;rw [sx_trl co hi hj,sx_trl co hi hk];have a2:=co.pm1 i hi 0 (by omega)
 have yy:m i 0*m i 0=1:=by
  generalize m i 0=y at *
  rcases a2 with rfl | rfl <;> rfl
 calc m i (j+1)*m i 0*(m i (k+1)*m i 0)=m i (j+1)*m i (k+1)*(m i 0*m i 0):=by ac_rfl
  _=_:=by rw [yy,Int.mul_one]
theorem pln_mem{m:Nat->Nat->Int}{n:Nat}{t:List Nat}(h:t ∈ pln m n):t.length=n - 1/\∀s ∈ t,s<=1:=by
 obtain ⟨i,_,rfl⟩:=List.mem_map.mp h;exact ⟨trl_len m n i,trl_le⟩
structure Gd (n:Nat) (B:Tz):Prop where
 sg:Sg n B
 col:colC n B=true
 ok:okN n=true
 lo:2<=n
 hi:n<=20
theorem oks:okN 2=true/\okN 4=true/\okN 8=true/\okN 12=true/\okN 20=true:=by
 have h:=ok_all;simp only [Bool.and_eq_true] at h
 exact ⟨h.1.1.1.1,h.1.1.1.2,h.1.1.2,h.1.2,h.2⟩
theorem gd_of{n:Nat}{B:Tz}(h:(colC n B && sgC n B)=true)(ok:okN n=true)(lo:2<=n)(hi:n<=20):Gd n B:=by
 obtain ⟨h1,h2⟩:=Bool.and_eq_true_iff.mp h;exact ⟨sg_of h2,h1,ok,lo,hi⟩
def lvs(u:Nat):List Nat:=List.replicate u 2
def mds(u:Nat):List (List Nat):= []::(List.range u).map fun k=> [k]
theorem lvs_len(u:Nat):(lvs u).length=u:=List.length_replicate ..
theorem lvs_ok(u:Nat):∀s ∈ lvs u,2<=s/\s<=7:=fun s hs=>by
 have:=List.eq_of_mem_replicate hs;omega
theorem lvs_one{u t:Nat}(h:t<u):lv1 (lvs u) t=1:=by
 unfold lv1 lvs;simp [List.getD,List.getElem?_replicate,h]
theorem con_sx{x:List Nat}{t:Nat}(h:x.getD t 0<=1):Tr.con 1 (x.getD t 0)=sx x t:=by
 unfold Tr.con sx;generalize x.getD t 0=s at *
 match s,h with
 | 0,_=>rfl
 | 1,_=>rfl
theorem sx_pm{t:List Nat}{c:Nat}(h:t.getD c 0<=1):sx t c=1\/sx t c = -1:=by
 unfold sx;generalize t.getD c 0=s at *
 match s,h with
 | 0,_=>exact .inl rfl
 | 1,_=>exact .inr rfl
theorem cols_app(L:List Nat)(A B:List (List Nat)):colsP L (A++B)=colsP L A++colsP L B:=by simp [colsP]
theorem mat_congr{N m:Nat}{R R':Ba.Mx}(h:∀k,k<N->∀j,j<m->R k j=R' k j):matD N m R=matD N m R':=by
 unfold matD rowD;refine List.map_congr_left fun k hk=> ?_;refine congrArg PyData.list (List.map_congr_left fun j hj=> ?_);rw [h k (List.mem_range.mp hk) j (List.mem_range.mp hj)]
theorem tab_pre{L:List Nat}{M:List (List Nat)}{X:List (List Nat)}(s k:Nat){j:Nat}(hj:j<(colsP L (M.take s)).length):tabM (colsP L (M.take s)) X k j=tabM (colsP L M) X k j:=by
 have e:colsP L M=colsP L (M.take s)++colsP L (M.drop s):=by rw [<-cols_app,List.take_append_drop]
 have g:(colsP L M).getD j ([],[])=(colsP L (M.take s)).getD j ([],[]):=by
  rw [e];simp only [List.getD];rw [List.getElem?_append_left hj]
 unfold tabM;rw [g]
theorem pre_all{L:List Nat}{M:List (List Nat)}(s:Nat):(colsP L (M.take s)).length<=tot L M:=by
 have e:colsP L M=colsP L (M.take s)++colsP L (M.drop s):=by rw [<-cols_app,List.take_append_drop]
 rw [<-cols_len,e,List.length_append];omega
theorem fit_pre {L : List Nat} (hL : ∀ s ∈ L, 2 <= s /\ s <= 7) (h4 : L.length <= 4) {M : List (List Nat)} {most : Nat} (hM : ∀ e ∈ M, EffOk L most e) (ht : tot L M <= 5) {X : List (List Nat)} (hX : X.length <= 8) (hX1 : 1 <= X.length) {S : Nat -> Int} (hS : ∀ k, k < X.length -> Bt 42 (S k)) (s : Nat) :
 ∃(v:Nat->Int) (E:Int) (d0 d2:PyData),s<M.length->0<E/\Bt 311 E/\(∀k,k<X.length->Bt 950 (Ba.sumN (colsP L (M.take (s+1))).length fun j=>tabM (colsP L M) X k j*v j))/\(∀j,j<(colsP L (M.take (s+1))).length->Ba.sumN X.length (fun k=>tabM (colsP L M) X k j*(S k*E - Ba.sumN (colsP L (M.take (s+1))).length fun j=>tabM (colsP L M) X k j*v j))=0) /\
   m_fit [.list (X.map (rowT (colsP L (M.take (s+1))))),rowD X.length S]=some (.val (.tuple [d0,frD X.length (fun k=>fr (Ba.sumN (colsP L (M.take (s+1))).length fun j=>tabM (colsP L M) X k j*v j) E),d2])):=by
 by_cases hs:s<M.length
 . have hp:=pre_all (L:=L) (M:=M) (s+1);have hM':∀e ∈ M.take (s+1),EffOk L most e:=fun e he=>hM e (List.mem_of_mem_take he)
   have h1:1<=(colsP L (M.take (s+1))).length:=by
    rw [cols_len];exact tot_pos hL hM' (by rw [List.length_take];omega)
   have e:X.map (rowT (colsP L (M.take (s+1))))=matD X.length (colsP L (M.take (s+1))).length (tabM (colsP L M) X):=by
    rw [tab_mat];exact mat_congr fun k _ j hj=>tab_pre (s+1) k hj
   obtain ⟨v,E,d0,d2,a1,a2,a3,a4,a5⟩:=run_fitN (R:=tabM (colsP L M) X) (s:=S) hX1 hX h1 (by omega) (fun k _ j hj=>by rw [<-tab_pre (s+1) k hj];exact tab_bt hL h4 hM' X k hj) hS;refine ⟨v,E,d0,d2,fun _=>⟨a1,a2,a3,a4,?_⟩⟩;rw [e];exact a5
 . exact ⟨fun _=>0,0, .none, .none,fun h=>absurd h hs⟩
structure Sqs (L:List Nat) (X M:List (List Nat)) (S:Nat->Int) (q:Nat->Int×Int):Prop where
 q0:q 0=(0,1)
 pos:∀s,s<=M.length->0<(q s).2/\Int.gcd (q s).1 (q s).2=1/\Bt 1903 (q s).1/\Bt 622 (q s).2
 fit : ∀ s, s < M.length -> ∃ (F : Nat -> Int) (E : Int) (d0 d2 : PyData), 0 < E /\ Bt 311 E /\ (∀ k, k < X.length -> Bt 950 (F k)) /\ q (s + 1) = fr (Ba.sumN X.length fun k => F k * F k) (E * E) /\
  m_fit [.list (X.map (rowT (colsP L (M.take (s+1))))),rowD X.length S]=some (.val (.tuple [d0,frD X.length (fun k=>fr (F k) E),d2]))
def subF(q:Nat->Int×Int)(s:Nat):Int×Int:=fr ((q (s+1)).1*(q s).2 - (q s).1*(q (s+1)).2) ((q (s+1)).2*(q s).2)
theorem cutM(M:List (List Nat))(j:Nat):cutD (M.map tupN) none (some (j:Int))=(M.take j).map tupN:=by
 unfold cutD;rw [HT.sIx_none,HT.sIx_nat,List.length_map,List.drop_zero,Nat.sub_zero, <-List.map_take];congr 1
 by_cases h:j<=M.length
 . rw [Nat.min_eq_left h]
 . rw [Nat.min_eq_right (by omega),List.take_of_length_le (Nat.le_refl _),List.take_of_length_le (by omega)]
theorem run_fsq {L : List Nat} (hL : ∀ s ∈ L, 2 <= s /\ s <= 7) {M : List (List Nat)} {most : Nat} (hM : ∀ e ∈ M, EffOk L most e) (hm : most <= 100) (hl : M.length <= 7) (h4 : L.length <= 4) {X : List (List Nat)} (hX : X.length <= 8) (hx : ∀ x ∈ X, x.length = L.length) {S : Nat -> Int} {q : Nat -> Int × Int} (sq : Sqs L X M S q) {s : Nat} (hs : s < M.length) :
 m_q20 [.list (nl L), .list (X.map tupN), .list ((M.take (s+1)).map tupN),rowD X.length S]=some (.val (encF (q (s+1)))):=by
 obtain ⟨F,E,d0,d2,e1,e2,e3,e4,e5⟩:=sq.fit s hs;have tb:=run_tab hL (fun e he=>hM e (List.mem_of_mem_take he)) hm (by rw [List.length_take];omega) h4 (X:=X) (M:=M.take (s+1)) (by omega) hx;have sp:=run_spreadD (a:=F) hX (by omega) e2 e3;refine run_wp (ρ:= [some (.val (.list (nl L))),some (.val (.list (X.map tupN))),some (.val (.list ((M.take (s+1)).map tupN))),some (.val (rowD X.length S))]) rfl rfl ?_;unfold b_q20;rw [e4];exact wp_ret (call_to (ds:= [frD X.length fun k=>fr (F k) E]) (cons_to (a:= .val (frD X.length fun k=>fr (F k) E)) ((bin_eq (op:=dix) (a:= .val (.tuple [d0,frD X.length (fun k=>fr (F k) E),d2])) (b:= .val (.int ((1:Nat):Int))) (call_to (ds:= [.list (X.map (rowT (colsP L (M.take (s+1))))),rowD X.length S]) (cons_to (call_to (ds:= [.list (nl L), .list (X.map tupN), .list ((M.take (s+1)).map tupN)]) rfl tb) rfl) e5) rfl).trans (dix_nat (.inr rfl) rfl)) rfl) sp) rfl
def sqD(M:List (List Nat))(q:Nat->Int×Int)(n:Nat):List PyData:=(List.range n).map fun s=> .tuple [tupN (M.getD s []),encF (subF q s)]
theorem enum_getM{M:List (List Nat)}{j:Nat}{d:PyData}(h:(enumD (M.map tupN))[j]? = some d):j<M.length/\d = .tuple [.int (j:Nat),tupN (M.getD j [])]:=by
 unfold enumD at h
 rw [List.getElem?_map,List.length_map] at h
 by_cases hj:j<M.length
 . rw [List.getElem?_range hj] at h
   refine ⟨hj,?_⟩
   have e:(M.map tupN)[j]? = some (tupN (M.getD j [])):=by
    rw [List.getElem?_map,List.getElem?_eq_getElem hj];simp [List.getD,List.getElem?_eq_getElem hj]
   simp only [Option.map_some,enum_get e] at h
   exact (Option.some.inj h).symm
 . rw [List.getElem?_eq_none (by rw [List.length_range];omega)] at h
   cases h
def lstF(W:Int)(p:Int×Int):Int×Int:=fr (W*p.2 - p.1*1) (1*p.2)
theorem run_squares {L : List Nat} (hL : ∀ s ∈ L, 2 <= s /\ s <= 7) {M : List (List Nat)} {most : Nat} (hM : ∀ e ∈ M, EffOk L most e) (hm : most <= 100) (hl : M.length <= 7) (h4 : L.length <= 4) {X : List (List Nat)} (hX : X.length <= 8) (hx : ∀ x ∈ X, x.length = L.length) {S : Nat -> Int} (hS : ∀ k, k < X.length -> Bt 42 (S k)) {q : Nat -> Int × Int} (sq : Sqs L X M S q) :
 m_q32 [.list (nl L), .list (X.map tupN), .list (M.map tupN),rowD X.length S]=some (.own (sqD M q M.length ++ [.tuple [.str "left",encF (lstF (Ba.sumN X.length fun k=>S k*S k) (q M.length))]])):=by
 have sl:=sl1000
 let LV:Option Sl:=some (.val (.list (nl L)))
 let XV:Option Sl:=some (.val (.list (X.map tupN)))
 let MV:Option Sl:=some (.val (.list (M.map tupN)))
 let SV:Option Sl:=some (.val (rowD X.length S))
 let W:Int:=Ba.sumN X.length fun k=>S k*S k
 have Wb:Bt 87 W:=bt_sum (p:=42+42) hX fun k hk=>(hS k hk).mul (hS k hk);refine run_wp (ρ:= [LV,XV,MV,SV,none,none,none,none,none,none]) rfl rfl ?_;unfold b_q32;refine wp_asgS lstNil (wp_asgS (r:= .val (encF (0,1))) rfl ?_);refine wp_seq (P:=fun ρ=>∃z6 z7 z8 z9,ρ = [LV,XV,MV,SV,some (.own (sqD M q M.length)),some (.val (encF (q M.length))),z6,z7,z8,z9]) ?_ ?_
 . refine wp_for (ds:=enumD (M.map tupN)) (fun i ρ=>∃z6 z7 z8 z9,ρ = [LV,XV,MV,SV,some (.own (sqD M q i)),some (.val (encF (q i))),z6,z7,z8,z9]) rfl ⟨_,_,_,_,by rw [sq.q0];rfl⟩ ?_ ?_
   . rintro i d ρ hd ⟨z6,z7,z8,z9,rfl⟩;obtain ⟨hi,rfl⟩:=enum_getM hd
     let I7:Option Sl:=some (.val (.int (i:Nat)))
     let E8:Option Sl:=some (.val (tupN (M.getD i [])))
     refine ⟨[LV,XV,MV,SV,some (.own (sqD M q i)),some (.val (encF (q i))),z6,I7,E8,z9],rfl,?_⟩
     have c:(mSl (mPk 2) mNoPart (mPart (mBin dAdd (mPk 7) (mK (.int 1))))) [LV,XV,MV,SV,some (.own (sqD M q i)),some (.val (encF (q i))),z6,I7,E8,z9]=some (.own ((M.take (i+1)).map tupN)):=by
      rw [<-cutM];rfl
     have p0:=sq.pos i (by omega);have p1:=sq.pos (i+1) (by omega);refine wp_asgS (call_to (ds:= [.list (nl L), .list (X.map tupN), .list ((M.take (i+1)).map tupN),rowD X.length S]) (cons_to (a:= .val (.list (nl L))) rfl (cons_to (a:= .val (.list (X.map tupN))) rfl (cons_to c rfl))) (run_fsq hL hM hm hl h4 hX hx sq hi)) ?_
     let Q9:Option Sl:=some (.val (encF (q (i+1))))
     have mi:=run_minus (a:=q (i+1)) (b:=q i) p1.1 p0.1 (p1.2.2.1.mono (by decide)) (p0.2.2.1.mono (by decide)) (p1.2.2.2.mono (by decide)) (p0.2.2.2.mono (by decide));refine wp_seqN (f:=mFrz 9 _) (ρ':= [LV,XV,MV,SV,some (.own (sqD M q (i+1))),some (.val (encF (q i))),z6,I7,E8,Q9]) ((app_to (ρ:= [LV,XV,MV,SV,some (.own (sqD M q i)),some (.val (encF (q i))),z6,I7,E8,Q9]) (r:= .val (.tuple [tupN (M.getD i []),encF (subF q i)])) (ds:=sqD M q i) (tup2 (a:= .val (tupN (M.getD i []))) (b:= .val (encF (subF q i))) rfl (call_to (ds:= [encF (q (i+1)),encF (q i)]) rfl mi)) rfl (by rw [sqD,List.length_map,List.length_range];omega)).trans ?_) ?_
     . show some (Out.nx [LV,XV,MV,SV,some (.own (sqD M q i ++ [.tuple [tupN (M.getD i []),encF (subF q i)]])),some (.val (encF (q i))),z6,I7,E8,Q9])=_;unfold sqD;rw [List.range_succ,List.map_append];rfl
     . exact wp_frz (wp_asg (r:= .val (encF (q (i+1)))) rfl ⟨_,_,_,_,rfl⟩)
   . rintro ρ ⟨z6,z7,z8,z9,rfl⟩;have e:(enumD (M.map tupN)).length=M.length:=by unfold enumD;simp
     rw [e];exact ⟨_,_,_,_,rfl⟩
 . rintro ρ ⟨z6,z7,z8,z9,rfl⟩;have p0:=sq.pos M.length (Nat.le_refl _);have so:=run_sop (n:=X.length) (a:=S) (b:=S) (by omega) (fun k hk=>(hS k hk).mono (by decide)) (fun k hk=>(hS k hk).mono (by decide));refine wp_asgS (r:= .val (encF (W,1))) (tup2 (a:= .val (.int W)) (b:= .val (.int 1)) (call_to (ds:= [rowD X.length S,rowD X.length S]) rfl so) rfl) ?_;have mi:=run_minus (a:=(W,1)) (b:=q M.length) (by show (0:Int)<1;decide) p0.1 (Wb.mono (by decide)) (p0.2.2.1.mono (by decide)) (by show (1:Int).natAbs<2 ^ 4000;exact Nat.one_lt_two_pow (by decide)) (p0.2.2.2.mono (by decide));refine wp_ret ((bin_eq (op:=dAdd) (a:= .own (sqD M q M.length)) (b:= .own [.tuple [.str "left",encF (lstF W (q M.length))]]) rfl (lst1 (a:= .val (.tuple [.str "left",encF (lstF W (q M.length))])) (tup2 (a:= .val (.str "left")) (b:= .val (encF (lstF W (q M.length)))) rfl (call_to (ds:= [encF (W,1),encF (q M.length)]) rfl mi)))).trans (add_own rfl rfl ?_)) rfl;rw [sqD,List.length_map,List.length_range];show _+1<=_;omega
def cv(e x:List Nat):Int:=match e with
 | []=>1
 | k::_=>sx x k
structure Mo (u:Nat) (M:List (List Nat)):Prop where
 nd:M.Nodup
 mem:∀e ∈ M,e = []\/∃k,k<u/\e = [k]
theorem mo_mds(u:Nat):Mo u (mds u):=by
 refine ⟨?_,fun e he=> ?_⟩
 . unfold mds;rw [List.nodup_cons];refine ⟨by simp,?_⟩;rw [List.nodup_iff_pairwise_ne,List.pairwise_map];exact List.Pairwise.imp (fun h e=>h (List.cons.inj e).1) (List.nodup_iff_pairwise_ne.mp List.nodup_range)
 . rcases List.mem_cons.mp he with rfl | he
   . exact .inl rfl
   . obtain ⟨k,hk,rfl⟩:=List.mem_map.mp he;exact .inr ⟨k,List.mem_range.mp hk,rfl⟩
theorem mo_rev{u:Nat}{M:List (List Nat)}(h:Mo u M):Mo u M.reverse:=⟨by rw [List.nodup_iff_pairwise_ne,List.pairwise_reverse];exact (List.nodup_iff_pairwise_ne.mp h.nd).imp fun h e=>h e.symm,fun e he=>h.mem e (List.mem_reverse.mp he)⟩
theorem mo_eff{u:Nat}{M:List (List Nat)}(h:Mo u M):∀e ∈ M,EffOk (lvs u) 4 e:=fun e he=>by
 rcases h.mem e he with rfl | ⟨k,hk,rfl⟩
 . exact ⟨.nil,by simp,by simp [Tr.prodN]⟩
 . exact ⟨by simp,by simp [lvs_len,hk],by simp [Tr.prodN,lvs_one hk]⟩
theorem flat_one{α β:Type}{f:α->List β}{g:α->β}:∀ {l:List α},(∀e ∈ l,f e = [g e])->l.flatMap f=l.map g
 | [],_=>rfl
 | a::l,h=>by
  rw [List.flatMap_cons,h a (by simp),flat_one fun e he=>h e (by simp [he])];rfl
theorem mo_cols{u:Nat}{M:List (List Nat)}(h:Mo u M):colsP (lvs u) M=M.map fun e=>(e,e.map fun _=>1):=by
 refine flat_one fun e he=> ?_;rcases h.mem e he with rfl | ⟨k,hk,rfl⟩
 . rw [bk_nil];rfl
 . have b:=bk_snoc (lvs u) [] k (by rw [lvs_one hk];decide);rw [lvs_one hk,bk_nil] at b
   show (bk (lvs u) ([] ++ [k])).map _=_;rw [b];rfl
theorem mo_len{u:Nat}{M:List (List Nat)}(h:Mo u M):(colsP (lvs u) M).length=M.length:=by rw [mo_cols h,List.length_map]
theorem mo_take{u:Nat}{M:List (List Nat)}(h:Mo u M)(s:Nat):Mo u (M.take s):=⟨h.nd.sublist (List.take_sublist s M),fun e he=>h.mem e (List.mem_of_mem_take he)⟩
theorem mo_tab{u:Nat}{M:List (List Nat)}(h:Mo u M){X:List (List Nat)}(hx:∀x ∈ X,∀s ∈ x,s<=1)(k:Nat){j:Nat}(hj:j<M.length):tabM (colsP (lvs u) M) X k j=cv (M.getD j []) (X.getD k []):=by
 have hg:∀t,(X.getD k []).getD t 0<=1:=fun t=>getD_le1 (fun s hs=>by
  by_cases hk:k<X.length
  . have e:X.getD k []=X[k]:=by simp [List.getD,List.getElem?_eq_getElem hk]
    rw [e] at hs
    exact hx _ (List.getElem_mem hk) s hs
  . have e:X.getD k [] = []:=by simp [List.getD,List.getElem?_eq_none (Nat.le_of_not_lt hk)]
    rw [e] at hs
    simp at hs) t
 unfold tabM
 have e:(colsP (lvs u) M).getD j ([],[])=(M.getD j [],(M.getD j []).map fun _=>1):=by
  rw [mo_cols h];simp [List.getD,List.getElem?_eq_getElem hj]
 rw [e]
 have hm:M.getD j [] ∈ M:=by
  have:M.getD j []=M[j]:=by simp [List.getD,List.getElem?_eq_getElem hj]
  rw [this];exact List.getElem_mem hj
 rcases h.mem _ hm with e | ⟨t,ht,e⟩
 . rw [e];rfl
 . rw [e];show Tr.con 1 ((X.getD k []).getD t 0)*1=sx (X.getD k []) t;rw [Int.mul_one,con_sx (hg t)]
def plX(m:Nat->Nat->Int)(n u:Nat):List (List Nat):=(pln m n).map (List.take u)
theorem plX_len(m:Nat->Nat->Int)(n u:Nat):(plX m n u).length=n:=by rw [plX,List.length_map,pln_len]
theorem plX_le{m:Nat->Nat->Int}{n u:Nat}:∀x ∈ plX m n u,∀s ∈ x,s<=1:=fun x hx s hs=>by
 obtain ⟨t,ht,rfl⟩:=List.mem_map.mp hx;exact (pln_mem ht).2 s (List.mem_of_mem_take hs)
theorem plX_u{m:Nat->Nat->Int}{n u:Nat}(hn:u<n):∀x ∈ plX m n u,x.length=u:=fun x hx=>by
 obtain ⟨t,ht,rfl⟩:=List.mem_map.mp hx;rw [List.length_take,(pln_mem ht).1];omega
theorem sum_plan{m:Nat->Nat->Int}{n u:Nat}(f:List Nat->Int):Ba.sumN n (fun k=>f ((plX m n u).getD k []))=((pln m n).map fun t=>f (t.take u)).sum:=by
 have h:((plX m n u).map f).sum=Ba.sumN n (fun k=>f ((plX m n u).getD k [])):=by
  rw [map_range f [] (plX m n u),plX_len,list_sum_range (fun k=>f ((plX m n u).getD k []))]
 rw [<-h,plX,List.map_map];rfl
theorem sum_ones:∀l:List (List Nat),(l.map fun _=>(1:Int)).sum=l.length
 | []=>rfl
 | a::l=>by
  rw [List.map_cons,List.sum_cons,sum_ones l,List.length_cons];omega
theorem gramK{m:Nat->Nat->Int}{n u:Nat}(co:Co n m)(hn:u<n){M:List (List Nat)}(h:Mo u M){i j:Nat}(hi:i<M.length)(hj:j<M.length):Ba.gram n (tabM (colsP (lvs u) M) (plX m n u)) i j=if i=j then (n:Int) else 0:=by
 have gm:∀ {a},a<M.length->M.getD a [] = []\/∃k,k<u/\M.getD a [] = [k]:=fun {a} ha=>by
  have:M.getD a []=M[a]:=by simp [List.getD,List.getElem?_eq_getElem ha]
  rw [this];exact h.mem _ (List.getElem_mem ha)
 have sxt:∀t ∈ pln m n,∀j,j<u->sx (t.take u) j=sx t j:=fun t ht j hj=>by
  unfold sx;rw [List.getD,List.getElem?_take_of_lt hj,List.getD]
 have pm1:∀t ∈ pln m n,∀k,sx (t.take u) k*sx (t.take u) k=1:=fun t ht k=>by
  rcases sx_pm (t:=t.take u) (c:=k) (getD_le1 (fun s hs=>(pln_mem ht).2 s (List.mem_of_mem_take hs)) k) with e | e <;> rw [e] <;> rfl
 show Ba.sumN n (fun k=>tabM (colsP (lvs u) M) (plX m n u) k i*tabM (colsP (lvs u) M) (plX m n u) k j)=_
 rw [Ba.sum_congr (g:=fun k=>(fun x=>cv (M.getD i []) x*cv (M.getD j []) x) ((plX m n u).getD k [])) fun k _=>by
  rw [mo_tab h plX_le k hi,mo_tab h plX_le k hj]]
 refine (sum_plan fun x=>cv (M.getD i []) x*cv (M.getD j []) x).trans ?_
 by_cases e:i=j
 . subst e;rw [if_pos rfl, <-pln_len m n, <-sum_ones (pln m n),pln_len];congr 1
   refine List.map_congr_left fun t ht=> ?_;rcases gm hi with e | ⟨k,hk,e⟩ <;> rw [e]
   . rfl
   . exact pm1 t ht k
 . rw [if_neg e]
   have ne:M.getD i []≠M.getD j []:=fun q=>by
    have a:M.getD i []=M[i]:=by simp [List.getD,List.getElem?_eq_getElem hi]
    have b:M.getD j []=M[j]:=by simp [List.getD,List.getElem?_eq_getElem hj]
    rw [a,b] at q
    exact e ((List.getElem_inj h.nd).mp q)
   rcases gm hi with e1 | ⟨k,hk,e1⟩ <;> rcases gm hj with e2 | ⟨l,hl,e2⟩ <;> rw [e1,e2] at ne ⊢
   . exact absurd rfl ne
   . rw [<-s1 co (j:=l) (by omega)];congr 1
     refine List.map_congr_left fun t ht=> ?_;show 1*sx (t.take u) l=_;rw [Int.one_mul,sxt t ht l hl]
   . rw [<-s1 co (j:=k) (by omega)];congr 1
     refine List.map_congr_left fun t ht=> ?_;show sx (t.take u) k*1=_;rw [Int.mul_one,sxt t ht k hk]
   . rw [<-s2 co (j:=k) (k:=l) (by omega) (by omega) (fun q=>ne (by rw [q]))];congr 1
     refine List.map_congr_left fun t ht=> ?_;show sx (t.take u) k*sx (t.take u) l=_;rw [sxt t ht k hk,sxt t ht l hl]
theorem diag_sum{m:Nat}{N:Int}{G:Ba.Mx}(hG:∀i,i<m->∀j,j<m->G i j=if i=j then N else 0)(x:Nat->Int){i:Nat}(hi:i<m):Ba.sumN m (fun j=>G i j*x j)=N*x i:=by
 rw [Ba.sum_one (r:=i) hi fun j hj hne=>by rw [hG i hi j hj,if_neg (fun q=>hne q.symm),Int.zero_mul],hG i hi i hi,if_pos rfl]
theorem run_tellK {N m : Nat} {R : Ba.Mx} (h1 : 1 <= N) (hN : N <= 8) (hm : m <= 5) (hR : ∀ k, k < N -> ∀ j, j < m -> Bt 12 (R k j)) (hG : ∀ i, i < m -> ∀ j, j < m -> Ba.gram N R i j = if i = j then (N : Int) else 0) {j0 : Nat} (hj0 : j0 < m) :
 m_q37 [.list (matD N m R),rowD m (fun j=>if j=j0 then 1 else 0)]=some (.val (.tuple [.str "told",frD N (fun k=>fr (R k j0) N)])):=by
 have hs:=sl1000
 let c:Nat->Int:=fun j=>if j=j0 then 1 else 0
 have N0:(N:Int)≠0:=by omega
 have R4:∀k,k<N->∀j,j<m->Bt 4000 (R k j):=fun k hk j hj=>(hR k hk j hj).mono (by decide);have af:=run_asf (n:=m) (a:=c) (by omega);have cp:=run_cp (R:=R) (m:=m) h1 (by omega) (by omega) R4;have hm1:1<=m:=by omega
 have cB:∀j,j<m->(c j).natAbs<=2 ^ 57:=fun j _=>by
  have:1<=2 ^ 57:=Nat.pow_pos (by decide);show (if j=j0 then (1:Int) else 0).natAbs<=2 ^ 57
  split <;> simp
 rcases run_solvedZ (n:=m) (m:=m) (Y:=2 ^ 57) (A:=Ba.gram N R) (c:=c) hm1 (by omega) hm1 (by omega) (Nat.pow_pos (by decide)) (fun i hi j hj=>gramY hN hR hi hj) cB (y_lt (by omega)) (y_lt (by omega)) with ⟨q,_,_,q1,q2,_⟩ | ⟨X,e,e0,eb,xb,hx,hsol⟩
 . exfalso;apply q2;refine Ba.sum_zero fun i hi=> ?_;have z:=q1 i hi
   have z2:Ba.sumN m (fun j=>Ba.gram N R i j*q j)=0:=by
    rw [<-z];exact Ba.sum_congr fun j _=>by rw [Ba.gram_sym,Int.mul_comm]
   rw [diag_sum hG q hi] at z2
   rcases Int.mul_eq_zero.mp z2 with a | a
   . exact absurd a N0
   . rw [a,Int.zero_mul]
 . have eb:Bt 311 e:=(bt_le (Nat.le_trans eb (y_le (d:=5) (by omega)))).mono (by decide);have xb:∀i,i<m->Bt 621 (X i):=fun i hi=>(bt_le (Nat.le_trans (xb i hi) (y_sq (d:=5) (by omega)))).mono (by decide)
   let x:Nat->Int×Int:=fun j=>fr (X j) e
   have hb:∀j,j<m->0<(x j).2/\(x j).2 ∣ e:=fun j hj=>⟨fr_pos e0,fr_dvd e0⟩;have hT:∀j,j<m->Bt 621 (x j).1:=fun j hj=>(xb j hj).fdiv;obtain ⟨c1,c2,c3⟩:=cb_dvd (r:=x) e0 (m:=m) hb;have Eb:Bt 311 (cbN x m):=bt_dvd e0 c2 eb
   have wb:∀j,j<m->Bt 932 (whN m x j):=fun j hj=>by
    show Bt 932 ((x j).1*(cbN x m).fdiv (x j).2);exact ((hT j hj).mul Eb.fdiv)
   have sw:=run_swD (N:=N) (m:=m) (R:=R) (x:=x) (by omega) (by omega) R4 e0 (eb.mono (by decide)) hb (fun j hj=>(hT j hj).mono (by decide)) (fun j hj=>(wb j hj).mono (by decide));have nx:∀i,i<m->(N:Int)*X i=e*c i:=fun i hi=>by rw [<-hx i hi,diag_sum hG X hi]
   have wx:∀i,i<m->whN m x i*N=c i*cbN x m:=fun i hi=>by
    refine Ba.mul_cancel e0 ?_
    have w1:whN m x i*e=X i*cbN x m:=by
     show (x i).1*(cbN x m).fdiv (x i).2*e=_;have q1:(x i).1*e=X i*(x i).2:=fr_cross e0
     have q2:(x i).2*(cbN x m).fdiv (x i).2=cbN x m:=by
      obtain ⟨v,hv⟩:=c3 i hi;rw [hv,Int.mul_fdiv_cancel_left _ (by have:=(hb i hi).1;omega)]
     calc (x i).1*(cbN x m).fdiv (x i).2*e=((x i).1*e)*(cbN x m).fdiv (x i).2:=by ac_rfl
      _=X i*((x i).2*(cbN x m).fdiv (x i).2):=by rw [q1,Int.mul_assoc]
      _=_:=by rw [q2]
    calc e*(whN m x i*N)=(whN m x i*e)*N:=by ac_rfl
     _=(N*X i)*cbN x m:=by rw [w1];ac_rfl
     _=_:=by rw [nx i hi,Int.mul_assoc]
   have ef:∀k,fr (Ba.sumN m fun j=>R k j*whN m x j) (cbN x m)=fr (R k j0) N:=fun k=>by
    refine fr_eq (by omega) N0 ?_;rw [<-Ba.sum_mul_right]
    rw [Ba.sum_one (r:=j0) hj0 fun j hj hne=>by
     rw [Int.mul_assoc,wx j hj];show R k j*((if j=j0 then 1 else 0)*cbN x m)=0;rw [if_neg hne,Int.zero_mul,Int.mul_zero]]
    rw [Int.mul_assoc,wx j0 hj0];show R k j0*((if j0=j0 then 1 else 0)*cbN x m)=_;rw [if_pos rfl,Int.one_mul]
   refine run_wp (ρ:= [some (.val (.list (matD N m R))),some (.val (rowD m c)),none]) rfl rfl ?_;unfold b_q37;refine wp_seqN (ρ':= [some (.val (.list (matD N m R))),some (.val (rowD m c)),some (.val (.tuple [.str "found",frD m x]))]) (asg_to (call_to (ds:= [tabD m m (tz (Ba.gram N R)),frD m (fun i=>(c i,1))]) (cons_to (call_to (ds:= [.list (matD N m R)]) rfl cp) (cons_to (call_to (ds:= [rowD m c]) rfl af) rfl)) hsol)) ?_;refine wp_seqG (wp_ifT (eq_s (a:= .str "found") (b:= .str "found") rfl rfl eq_ff) (wp_ret (r:= .val (.tuple [.str "told",frD N (fun k=>fr (R k j0) N)])) ((tup2 (a:= .val (.str "told")) rfl (call_to (ds:= [.list (matD N m R),frD m x]) (cons_to (a:= .val (.list (matD N m R))) rfl (cons_to (a:= .val (frD m x)) rfl rfl)) sw)).trans ?_) rfl));refine congrArg (fun d=>some (Sl.val (PyData.tuple [.str "told", .list d]))) (List.map_congr_left fun k _=> ?_);show encF _=encF _;rw [ef k]
theorem sub_fr{a b n:Int}(hn:n≠0):fr ((fr a n).1*(fr b n).2 - (fr b n).1*(fr a n).2) ((fr a n).2*(fr b n).2)=fr (a - b) n:=by
 have c1:=fr_cross (a:=a) hn;have c2:=fr_cross (a:=b) hn;have p1:=fr_pos (a:=a) hn;have p2:=fr_pos (a:=b) hn;refine fr_eq (Int.mul_ne_zero (by omega) (by omega)) hn ?_;generalize fr a n=x at *
 generalize fr b n=y at *
 grind
theorem sqs_exK {u : Nat} (hu : u <= 4) {M : List (List Nat)} (hM : Mo u M) (hl : M.length <= 5) {X : List (List Nat)} (hX : X.length <= 8) (hX1 : 1 <= X.length) {S : Nat -> Int} (hS : ∀ k, k < X.length -> Bt 42 (S k)) (hG : ∀ i, i < M.length -> ∀ j, j < M.length -> Ba.gram X.length (tabM (colsP (lvs u) M) X) i j = if i = j then (X.length : Int) else 0) :
 ∃q,Sqs (lvs u) X M S q/\∀s,s<=M.length->q s=fr (Ba.sumN s fun j=>(Ba.sumN X.length fun k=>tabM (colsP (lvs u) M) X k j*S k)*(Ba.sumN X.length fun k=>tabM (colsP (lvs u) M) X k j*S k)) X.length:=by
 have N0:(X.length:Int)≠0:=by omega
 have tl:∀s,s<=M.length->(colsP (lvs u) (M.take s)).length=s:=fun s hs=>by
  rw [mo_len (mo_take hM s),List.length_take,Nat.min_eq_left hs]
 have ht:tot (lvs u) M<=5:=by
  rw [<-cols_len,mo_len hM];exact hl
 let R:=tabM (colsP (lvs u) M) X
 let cj:Nat->Int:=fun j=>Ba.sumN X.length fun k=>R k j*S k
 let q:Nat->Int×Int:=fun s=>fr (Ba.sumN s fun j=>cj j*cj j) X.length
 have key : ∀ s, s < M.length -> ∃ (F : Nat -> Int) (E : Int) (d0 d2 : PyData), 0 < E /\ Bt 311 E /\ (∀ k, k < X.length -> Bt 950 (F k)) /\ q (s + 1) = fr (Ba.sumN X.length fun k => F k * F k) (E * E) /\
  m_fit [.list (X.map (rowT (colsP (lvs u) (M.take (s+1))))),rowD X.length S]=some (.val (.tuple [d0,frD X.length (fun k=>fr (F k) E),d2])):=fun s hs=>by
  obtain ⟨v,E,d0,d2,H⟩:=fit_pre (lvs_ok u) (by rw [lvs_len];omega) (mo_eff hM) ht hX hX1 hS s;obtain ⟨a1,a2,a3,a4,a5⟩:=H hs;rw [tl (s+1) (by omega)] at a3 a4 a5
  let F:Nat->Int:=fun k=>Ba.sumN (s+1) fun j=>R k j*v j
  have G':∀i,i<s+1->∀j,j<s+1->Ba.gram X.length R i j=if i=j then (X.length:Int) else 0:=fun i hi j hj=>hG i (by omega) j (by omega)
  have rf:∀j,j<s+1->Ba.sumN X.length (fun k=>R k j*F k)=X.length*v j:=fun j hj=>by
   rw [<-diag_sum G' v hj];exact (Ba.gram_mul j).symm
  have nv:∀j,j<s+1->(X.length:Int)*v j=cj j*E:=fun j hj=>by
   have z:Ba.sumN X.length (fun k=>R k j*(S k*E - F k))=0:=a4 j hj;have e1:Ba.sumN X.length (fun k=>R k j*(S k*E - F k))=Ba.sumN X.length (fun k=>(R k j*S k)*E+(R k j*F k)*(-1)):=Ba.sum_congr fun k _=>by grind
   rw [e1,Ba.sum_add,Ba.sum_mul_right,Ba.sum_mul_right,rf j hj] at z
   show _=(Ba.sumN X.length fun k=>R k j*S k)*E;omega
  have QQ:(Ba.sumN X.length fun k=>F k*F k)=Ba.sumN (s+1) fun j=>v j*(X.length*v j):=by
   have e1:(Ba.sumN X.length fun k=>F k*F k)=Ba.sumN X.length fun k=>Ba.sumN (s+1) fun j=>v j*(R k j*F k):=Ba.sum_congr fun k _=>by
    show (Ba.sumN (s+1) fun j=>R k j*v j)*F k=_;rw [<-Ba.sum_mul_right];exact Ba.sum_congr fun j _=>by ac_rfl
   rw [e1,Ba.sum_comm];exact Ba.sum_congr fun j hj=>by rw [Ba.sum_mul,rf j hj]
  refine ⟨F,E,d0,d2,a1,a2,a3,?_,a5⟩;have E0:E*E≠0:=Int.mul_ne_zero (by omega) (by omega);refine fr_eq N0 E0 ?_;rw [QQ, <-Ba.sum_mul_right, <-Ba.sum_mul_right];refine Ba.sum_congr fun j hj=> ?_;have:=nv j hj
  calc cj j*cj j*(E*E)=(cj j*E)*(cj j*E):=by ac_rfl
   _=(X.length*v j)*(X.length*v j):=by rw [this]
   _=_:=by ac_rfl
 refine ⟨q,⟨fr_zero N0,fun s hs=>⟨fr_pos N0,fr_gcd N0,?_⟩,key⟩,fun s hs=>rfl⟩
 cases s with
 | zero=>
  rw [show q 0=(0,1) from fr_zero N0]
  exact ⟨by show (0:Int).natAbs<2 ^ 1903;exact Nat.pow_pos (by decide),by show (1:Int).natAbs<2 ^ 622;exact Nat.one_lt_two_pow (by decide)⟩
 | succ s=>
  obtain ⟨F,E,_,_,a1,a2,a3,a4,_⟩:=key s (by omega);rw [a4];have b1:Bt 1903 (Ba.sumN X.length fun k=>F k*F k):=bt_sum (p:=950+950) hX fun k hk=>(a3 k hk).mul (a3 k hk);have b2:Bt 622 (E*E):=a2.mul a2;exact ⟨b1.fdiv,b2.fdiv⟩
theorem il_set(l:List Int)(k:Nat)(y:Int):(il l).set k (.int y)=il (l.set k y):=by
 unfold il;rw [List.map_set]
theorem run_results(c:Int){n:Nat}(hn:n<=100):∃r:List Int,m_q9 [.int c, .int (n:Nat)]=some (.own (il r))/\r.length=n/\∀x ∈ r,Bt 42 x:=by
 have sl:=sl1000
 let C:Option Sl:=some (.val (.int c))
 let N1:Option Sl:=some (.val (.int (n:Nat)))
 have key:Wp b_q9 [C,N1,none,none,none,none] (fun o=>∃(r:List Int) (ρ':En),o = .rt (.own (il r)) ρ'/\r.length=n/\∀x ∈ r,Bt 42 x):=by
  unfold b_q9;refine wp_asgS lstNil (wp_asgS (r:= .val (.int (c.fdiv 2))) (divK rfl (by decide) (by decide)) ?_);refine wp_seq (P:=fun ρ=>∃(r:List Int) (z3 z4 z5:Option Sl),ρ = [C,N1,some (.own (il r)),z3,z4,z5]/\r.length=n/\∀x ∈ r,Bt 42 x) ?_ (by rintro ρ ⟨r,z3,z4,z5,rfl,h1,h2⟩;exact wp_ret rfl ⟨r,_,rfl,h1,h2⟩);refine wp_forR0 (n:=n) (fun k ρ=>∃(r:List Int) (l:Int) (z4 z5:Option Sl),ρ = [C,N1,some (.own (il r)),some (.val (.int l)),z4,z5]/\r.length=k/\∀x ∈ r,Bt 42 x) (rng1_to (j:=n) rfl (by omega)) ⟨[],_,_,_,rfl,rfl,by simp⟩ ?_ (by rintro ρ ⟨r,l,z4,z5,rfl,h⟩;exact ⟨r,_,_,_,rfl,h⟩);rintro k ρ hk ⟨r,l,z4,z5,rfl,h1,h2⟩;refine ⟨_,rfl,?_⟩
  let K4:Option Sl:=some (.val (.int (k:Nat)))
  obtain ⟨w,ew,w0,w1⟩:=run_mixedB c (k:=300+(k:Nat)) (by omega) (by omega);refine wp_asgS (r:= .val (.int w)) (call_to (ds:= [.int c, .int (300+(k:Nat))]) rfl ew) ?_
  let W5:Option Sl:=some (.val (.int w))
  show Wp _ [C,N1,some (.own (il r)),some (.val (.int l)),K4,W5] _
  have small:∀x:Int, -20<=x->x<=20->Bt 42 x:=fun x a b=>by
   show x.natAbs<2 ^ 42;have:20<2 ^ 42:=by decide
   omega
  obtain ⟨y,ey,yb,_⟩:=modN (fa:=mBin dFdiv (mPk 5) (mK (.int 7))) (fb:=mK (.int 41)) (ρ:= [C,N1,some (.own (il r)),some (.val (.int l)),K4,W5]) (i:=w.fdiv 7) (divK rfl (by decide) (by decide)) rfl (by decide)
  have ap:mApp 2 (mBin dSub (mBin dMod (mBin dFdiv (mPk 5) (mK (.int 7))) (mK (.int 41))) (mK (.int 20))) [C,N1,some (.own (il r)),some (.val (.int l)),K4,W5]=some (.nx [C,N1,some (.own (il (r ++ [(y:Int) - 20]))),some (.val (.int l)),K4,W5]):=by
   refine (app_to (r:= .val (.int ((y:Int) - 20))) (ds:=il r) ((bin_eq (op:=dSub) ey (b:= .val (.int 20)) rfl).trans rfl) rfl (by rw [il_len];omega)).trans ?_;rw [il_app];rfl
  refine wp_seqN ap ?_
  have st:∀(r':List Int) (l':Int) (x:Int) (fe:En->Option Sl),r'.length=k+1->fe [C,N1,some (.own (il r')),some (.val (.int l')),K4,W5]=some (.val (.int x))->mSet 2 (mPk 4) fe [C,N1,some (.own (il r')),some (.val (.int l')),K4,W5]=some (.nx [C,N1,some (.own (il (r'.set k x))),some (.val (.int l')),K4,W5]):=fun r' l' x fe hl he=>by
   refine (set_to (r:= .val (.int x)) (ds:=il r') (j:=k) (k:=(k:Nat)) he rfl rfl ?_).trans ?_
   . unfold ixN;rw [if_pos (by omega),if_pos (by rw [il_len];omega)];simp
   . rw [<-il_set];rfl
  have keep:∀(r':List Int) (x:Int),(∀z ∈ r',Bt 42 z)->Bt 42 x->∀z ∈ r'.set k x,Bt 42 z:=fun r' x hr hx z hz=>by
   rcases List.mem_or_eq_of_mem_set hz with h | h
   . exact hr z h
   . rw [h];exact hx
  have b0:∀z ∈ r ++ [(y:Int) - 20],Bt 42 z:=fun z hz=>by
   rcases List.mem_append.mp hz with h | h
   . exact h2 z h
   . cases List.mem_singleton.mp h
     exact small _ (by omega) (by omega)
  refine wp_seq (P:=fun ρ=>∃r':List Int,ρ = [C,N1,some (.own (il r')),some (.val (.int l)),K4,W5]/\r'.length=k+1/\∀x ∈ r',Bt 42 x) ?_ ?_
  . obtain ⟨u,eu,ub,_⟩:=modN (fa:=mPk 5) (fb:=mK (.int 7)) (ρ:= [C,N1,some (.own (il (r ++ [(y:Int) - 20]))),some (.val (.int l)),K4,W5]) (i:=w) rfl rfl (by decide);refine wp_if (eq_int (i:=u) (j:=0) eu rfl) ?_
    cases decide ((u:Int)=0)
    . exact wp_next ⟨_,rfl,by simp [h1],b0⟩
    . let E5:En:= [C,N1,some (.own (il (r ++ [(y:Int) - 20]))),some (.val (.int l)),K4,W5]
      have p12:(mBin dPow (mK (.int 10)) (mK (.int 12))) E5=some (.val (.int (10 ^ 12))):=(bin_eq (op:=dPow) (a:= .val (.int 10)) (b:= .val (.int 12)) rfl rfl).trans (powS (cpowC rfl));have p2:(mBin dRep (mK (.int 2)) (mBin dPow (mK (.int 10)) (mK (.int 12)))) E5=some (.val (.int (2*10 ^ 12))):=(bin_eq (op:=dRep) (a:= .val (.int 2)) rfl p12).trans (mulS (cmL (by decide) (by decide)));have sqw:(mBin dRep (mPk 5) (mPk 5)) E5=some (.val (.int (w*w))):=(bin_eq (op:=dRep) (a:= .val (.int w)) (b:= .val (.int w)) rfl rfl).trans (mulS (cmL (by omega) (by omega)));have b1:=Int.fmod_nonneg_of_pos (w*w) (show (0:Int)<2*10 ^ 12 by decide);have b2:=Int.fmod_lt_of_pos (w*w) (show (0:Int)<2*10 ^ 12 by decide);refine wp_of (st _ l ((w*w).fmod (2*10 ^ 12) - 10 ^ 12) _ (by simp [h1]) ((bin_eq (op:=dSub) ((bin_eq (op:=dMod) sqw p2).trans (modS (by decide))) p12).trans rfl)) ⟨_,rfl,by simp [h1],keep _ _ b0 ?_⟩;show ((w*w).fmod (2*10 ^ 12) - 10 ^ 12).natAbs<2 ^ 42;have:10 ^ 12<2 ^ 42:=by decide
      omega
  rintro ρ ⟨r',rfl,l1,l2⟩;obtain ⟨u,eu,ub,_⟩:=modN (fa:=mPk 0) (fb:=mK (.int 2)) (ρ:= [C,N1,some (.own (il r')),some (.val (.int l)),K4,W5]) (i:=c) rfl rfl (by decide);refine wp_if (eq_int (i:=u) (j:=1) eu rfl) ?_
  cases decide ((u:Int)=1)
  . exact wp_next ⟨r',l,_,_,rfl,l1,l2⟩
  . obtain ⟨x,ex,xb,_⟩:=modN (fa:=mPk 3) (fb:=mK (.int 41)) (ρ:= [C,N1,some (.own (il r')),some (.val (.int l)),K4,W5]) (i:=l) rfl rfl (by decide);exact wp_seqN (st r' l ((x:Int) - 20) _ l1 ((bin_eq (op:=dSub) ex (b:= .val (.int 20)) rfl).trans rfl)) (wp_asg (r:= .val (.int (l.fdiv 41))) (divK rfl (by decide) (by decide)) ⟨r'.set k ((x:Int) - 20),_,_,_,rfl,by simp [l1],keep _ _ l2 (small _ (by omega) (by omega))⟩)
 obtain ⟨o,h1,r,ρ',rfl,h2⟩:=key;exact ⟨r,runD_rt (ρ:= [C,N1,none,none,none,none]) rfl rfl ⟨ρ',h1⟩,h2⟩
theorem lay_all:∀ {xs:List PyData},(∀d ∈ xs,d.canLay0=true)->PyData.canLayAll0 xs=true
 | [],_=>rfl
 | x::xs,h=>by rw [PyData.canLayAll0,h x List.mem_cons_self,lay_all fun d hd=>h d (List.mem_cons_of_mem _ hd)];rfl
theorem dep_all{k:Nat}:∀ {xs:List PyData},(∀d ∈ xs,d.depth<=k)->PyData.depthAll xs<=k
 | [],_=>Nat.zero_le _
 | x::xs,h=>by rw [PyData.depthAll];exact Nat.max_le.mpr ⟨h x List.mem_cons_self,dep_all fun d hd=>h d (List.mem_cons_of_mem _ hd)⟩
theorem lay_tupl{a b:PyData}(h1:a.canLay0=true)(h2:b.canLay0=true):(PyData.tuple [a,b]).canLay0=true:=lay_all fun d hd=>by
 simp only [List.mem_cons,List.not_mem_nil,or_false] at hd
 rcases hd with rfl | rfl
 . exact h1
 . exact h2
theorem frac_inv{n:Nat}(h:1<=n):fr (n:Int) ((n:Int)*n)=(1,(n:Int)):=by
 have n0:(n:Int)≠0:=by omega
 have e:fr (n:Int) ((n:Int)*n)=fr 1 n:=fr_eq (Int.mul_ne_zero n0 n0) n0 (by rw [Int.one_mul]);rw [e];exact fr_same (q:=(1,(n:Int))) (by show (0:Int)<n;omega) (by simp)
theorem run_right{m:Nat->Nat->Int}{n:Nat}(c:Int)(co:Co n m)(h4:4<=n)(h8:n<=8):m_q10 [.int c, .list (enR (mtb m n))]=some (.val (.bool true)):=by
 have sl:=sl1000;have N0:(n:Int)≠0:=by omega
 let C:Option Sl:=some (.val (.int c))
 let T:Option Sl:=some (.val (.list (enR (mtb m n))))
 refine run_wp (ρ:= [C,T,none,none,none,none,none,none,none,none,none,none,none]) rfl rfl ?_;unfold b_q10;obtain ⟨v,ev,bv⟩:=mod_nat (fa:=mPk 0) (fb:=mK (.int 4)) (ρ:= [C,T,none,none,none,none,none,none,none,none,none,none,none]) (i:=c) rfl rfl (by decide);obtain ⟨u,hu⟩:∃u,u=min (n - 1) (v+1):=⟨_,rfl⟩;have u1:1<=u:=by omega
 have u4:u<=4:=by omega
 have un:u<n:=by omega
 have tl:(mCallP dLen (mConsP (mPk 1) mNilP)) [C,T,none,none,none,none,none,none,none,none,none,none,none]=some (.val (.int (n:Nat))):=callP_to (consP_to rfl rfl) (by simp only [dLen,Sl.dat,enR_len,mtb,List.length_map,List.length_range]);refine wp_asgS (r:= .val (.int (u:Nat))) (callP_to (ss:= [.val (.int ((n:Int) - 1)), .val (.int (1+(v:Int)))]) (consP_to ((bin_eq (op:=dSub) tl (b:= .val (.int 1)) rfl).trans rfl) (consP_to ((bin_eq (op:=dAdd) (fa:=mK (.int 1)) rfl ev).trans rfl) rfl)) ?_) ?_
 . show some (Sl.val (.int (if 1+(v:Int)<(n:Int) - 1 then 1+(v:Int) else (n:Int) - 1)))=_;have:(if 1+(v:Int)<(n:Int) - 1 then 1+(v:Int) else (n:Int) - 1)=(u:Nat):=by split <;> omega
   rw [this]
 let U2:Option Sl:=some (.val (.int (u:Nat)))
 show Wp _ [C,T,U2,none,none,none,none,none,none,none,none,none,none] _
 let Y:List (List Nat):=plX m n u
 have pl:m_q27 [.list (enR (mtb m n))]=some (.own ((pln m n).map tupN)):=run_plof (by omega) (by omega)
 have cu:∀t ∈ pln m n,(mSlW (mPk 1) mNoPart (mPart (mPk 0))) [U2,some (.val (tupN t))]=some (.val (tupN (t.take u))):=fun t ht=>by
  have tl:=(pln_mem ht).1;show dSlW (.val (.tuple (nl t))) none (some ((u:Nat):Int))=_;unfold dSlW;simp only [Sl.dat]
  have ct:cutD (nl t) none (some ((u:Nat):Int))=nl (t.take u):=by
   unfold cutD nl;rw [HT.sIx_none,HT.sIx_nat,List.length_map,List.drop_zero,Nat.sub_zero, <-List.map_take,Nat.min_eq_left (by omega)]
  split
  . rename_i hw;have h2:=hw.2;rw [HT.sIx_nat,nl_len] at h2
    rw [List.take_of_length_le (by omega)];rfl
  . rw [ct];rfl
 refine wp_asgS (r:= .own (Y.map tupN)) (lc_to (ds:=(pln m n).map tupN) ?_ (by rw [List.length_map,pln_len];omega) ?_) ?_
 . unfold mItemsS;rw [call_to (F:=m_q27) (f:=mCons (mVar 1) mNil) (ds:= [.list (enR (mtb m n))]) rfl pl];rfl
 . refine (compM_map (en:=tupN) (g:=fun t=>tupN (t.take u)) (xs:=pln m n) fun t ht=>el_to (ρ0:= [U2,none]) (ρ1:= [U2,some (.val (tupN t))]) (r:= .val (tupN (t.take u))) rfl (cu t ht)).trans ?_;simp only [Y,plX,List.map_map];rfl
 let YO:Option Sl:=some (.own (Y.map tupN))
 let YV:Option Sl:=some (.val (.list (Y.map tupN)))
 show Wp _ [C,T,U2,YO,none,none,none,none,none,none,none,none,none] _;have rg:∀z3 z4,(mRng1 (mConsP (mPk 2) mNilP)) [C,T,U2,z3,z4,none,none,none,none,none,none,none,none]=some (rngD 0 u):=fun z3 z4=>rng1_to (j:=u) rfl (by omega)
 let LO:Option Sl:=some (.own (nl (lvs u)))
 let LV:Option Sl:=some (.val (.list (nl (lvs u))))
 refine wp_asgS (r:= .own (nl (lvs u))) (lc_to (ds:=rngD 0 u) (rg _ _) (by simp [rngD];omega) ?_) ?_
 . refine (compM_map (en:=fun k:Nat=> .int (0+(k:Nat))) (g:=fun _=> .int ((2:Nat):Int)) (xs:=List.range u) fun k _=>el_to (r:= .val (.int ((2:Nat):Int))) rfl rfl).trans ?_;unfold nl lvs;rw [List.map_replicate];congr 1
   exact List.ext_getElem (by simp) fun i h1 h2=>by simp
 show Wp _ [C,T,U2,YO,LO,none,none,none,none,none,none,none,none] _;refine wp_asgS (r:= .own ((mds u).map tupN)) ?_ ?_
 . refine (bin_eq (op:=dAdd) (a:= .own [tupN []]) (b:= .own ((List.range u).map fun k=>tupN [k])) (lst1 (a:= .val (tupN [])) (if_pos (e:=none) (show 0<=sizeLine by decide))) (lc_to (ds:=rngD 0 u) (rg _ _) (by simp [rngD];omega) ?_)).trans ((add_own rfl rfl (by simp;omega)).trans ?_)
   . refine compM_map (en:=fun k:Nat=> .int (0+(k:Nat))) (g:=fun k=>tupN [k]) (xs:=List.range u) fun k _=> ?_;refine el_to (ρ1:= [some (.val (.int (0+(k:Nat))))]) (r:= .val (tupN [k])) rfl ((tup1 (a:= .val (.int (0+(k:Nat)))) rfl).trans ?_);rw [Int.zero_add];rfl
   . simp [mds,List.map_map]
 show Wp _ [C,T,U2,YO,LO,some (.own ((mds u).map tupN)),none,none,none,none,none,none,none] _;refine wp_seq (P:=fun ρ=>∃M,Mo u M/\M.length=u+1/\ρ = [C,T,U2,YO,LO,some (.own (M.map tupN)),none,none,none,none,none,none,none]) ?_ ?_
 . obtain ⟨q,hq,qb⟩:=mod_nat (fa:=mBin dFdiv (mPk 0) (mK (.int 7))) (fb:=mK (.int 2)) (ρ:= [C,T,U2,YO,LO,some (.own ((mds u).map tupN)),none,none,none,none,none,none,none]) (i:=c.fdiv 7) ((bin_eq (op:=dFdiv) (a:= .val (.int c)) (b:= .val (.int 7)) rfl rfl).trans (div_k (by decide) (by decide))) rfl (by decide);refine wp_if (eq_int (i:=(q:Nat)) (j:=1) hq rfl) ?_
   split
   . refine wp_asg (r:= .own ((mds u).reverse.map tupN)) ?_ ⟨(mds u).reverse,mo_rev (mo_mds u),by simp [mds],rfl⟩;rw [List.map_reverse];rfl
   . exact wp_next ⟨mds u,mo_mds u,by simp [mds],rfl⟩
 rintro ρ ⟨M,hM,ml,rfl⟩
 let MV:Option Sl:=some (.val (.list (M.map tupN)))
 let R:Ba.Mx:=tabM (colsP (lvs u) M) Y
 have yl:Y.length=n:=plX_len m n u;have hG:∀i,i<M.length->∀j,j<M.length->Ba.gram n R i j=if i=j then (n:Int) else 0:=fun i hi j hj=>gramK co un hM hi hj
 have RB:∀k j,j<M.length->Bt 12 (R k j):=fun k j hj=>tab_bt (lvs_ok u) (by rw [lvs_len];omega) (mo_eff hM) Y k (by rw [mo_len hM];exact hj)
 have tb:m_q36 [.list (nl (lvs u)), .list (Y.map tupN), .list (M.map tupN)]=some (.own (matD n M.length R)):=by
  have:=run_tab (lvs_ok u) (mo_eff hM) (by decide) (by omega) (by rw [lvs_len];omega) (X:=Y) (by omega) (by rw [lvs_len];exact plX_u un);rw [tab_mat,mo_len hM,yl] at this
  exact this
 refine wp_seqN (ρ':= [C,T,U2,YV,LV,MV,some (.own (matD n M.length R)),none,none,none,none,none,none]) ?_ ?_
 . rw [frz_eq,frz_eq,frz_eq];exact asg_to (ρ:= [C,T,U2,YV,LV,MV,none,none,none,none,none,none,none]) (call_to (ds:= [.list (nl (lvs u)), .list (Y.map tupN), .list (M.map tupN)]) rfl tb)
 refine wp_asgS (r:= .val (.int (n:Nat))) (callP_to (consP_to rfl rfl) (by simp only [dLen,Sl.dat,List.length_map,yl])) ?_
 let N7:Option Sl:=some (.val (.int (n:Nat)))
 obtain ⟨r,er,rl,rb⟩:=run_results (c.fdiv 3) (n:=n) (by omega);refine wp_seqN (f:=mFrz 7 _) (ρ':= [C,T,U2,YV,LV,MV,some (.own (matD n M.length R)),N7,some (.own (il r)),none,none,none,none]) (asg_to (ρ:= [C,T,U2,YV,LV,MV,some (.own (matD n M.length R)),N7,none,none,none,none,none]) (call_to (ds:= [.int (c.fdiv 3), .int (n:Nat)]) (cons_to (a:= .val (.int (c.fdiv 3))) ((bin_eq (op:=dFdiv) (a:= .val (.int c)) (b:= .val (.int 3)) rfl rfl).trans (div_k (by decide) (by decide))) rfl) er)) ?_
 let SF:Nat->Int:=fun k=>r.getD k 0
 have ri:il r=(List.range n).map fun k=> .int (SF k):=by
  unfold il;rw [map_range PyData.int 0 r,rl]
 have rd:PyData.list (il r)=rowD n SF:=by rw [ri];rfl
 have hS:∀k,k<n->Bt 42 (SF k):=fun k hk=>by
  have hk':k<r.length:=by omega
  have e:SF k=r[k]:=by simp [SF,List.getD,List.getElem?_eq_getElem hk']
  rw [e];exact rb _ (List.getElem_mem hk')
 let cj:Nat->Int:=fun j=>Ba.sumN n fun k=>R k j*SF k
 have cB:∀j,j<M.length->Bt 57 (cj j):=fun j hj=>bt_sum (p:=12+42) h8 fun k hk=>(RB k j hj).mul (hS k hk)
 let DU:Nat->List PyData:=fun i=>(List.range i).map fun s=> .tuple [tupN (M.getD s []),encF (fr (cj s*cj s) n)]
 refine wp_asgS lstNil ?_
 let RV:Option Sl:=some (.val (.list (matD n M.length R)))
 let SV:Option Sl:=some (.val (.list (il r)))
 have mlen:∀ρ:En,(ρ[5]?).join=MV->(mCallP dLen (mConsP (mPk 5) mNilP)) ρ=some (.val (.int (M.length:Nat))):=fun ρ h=>callP_to (consP_to (a:= .val (.list (M.map tupN))) (as:= []) (by unfold mPk;exact h) rfl) (by simp only [dLen,Sl.dat,List.length_map])
 have nB:Bt 9000 (n:Int):=by
  show (n:Int).natAbs<2 ^ 9000;have:(n:Int).natAbs<2 ^ 4:=by omega
  exact Nat.lt_of_lt_of_le this (Nat.pow_le_pow_right (by decide) (by decide))
 refine wp_seq (P:=fun ρ=>∃z6 z8 z10 z11 z12,ρ = [C,T,U2,YV,LV,MV,z6,N7,z8,some (.own (DU M.length)),z10,z11,z12]/\(z8=some (.own (il r))\/z8=SV)) ?_ ?_
 . refine wp_forR0 (n:=M.length) (fun i ρ=>∃z6 z8 z10 z11 z12,ρ = [C,T,U2,YV,LV,MV,z6,N7,z8,some (.own (DU i)),z10,z11,z12]/\(z6=some (.own (matD n M.length R))\/z6=RV)/\(z8=some (.own (il r))\/z8=SV)) (rng1_to (j:=M.length) (consP_to (mlen _ rfl) rfl) (by omega)) ⟨_,_,_,_,_,rfl, .inl rfl, .inl rfl⟩ ?_ (by rintro ρ ⟨z6,z8,z10,z11,z12,rfl,_,h⟩;exact ⟨_,_,_,_,_,rfl,h⟩);rintro j ρ hj ⟨z6,z8,z10,z11,z12,rfl,h6,h8'⟩;refine ⟨_,rfl,?_⟩
   let J:Option Sl:=some (.val (.int (j:Nat)))
   let D9:Option Sl:=some (.own (DU j))
   show Wp _ [C,T,U2,YV,LV,MV,z6,N7,z8,D9,J,z11,z12] _
   let TD:PyData:= .tuple [.str "told",frD n (fun k=>fr (R k j) n)]
   let T11:Option Sl:=some (.val TD)
   have te:=run_tellK (R:=R) (m:=M.length) (by omega) h8 (by omega) (fun k _ j hj=>RB k j hj) hG hj
   have f6:∀z8 z9 z11 z12,frz1 6 [C,T,U2,YV,LV,MV,z6,N7,z8,z9,J,z11,z12] = [C,T,U2,YV,LV,MV,RV,N7,z8,z9,J,z11,z12]:=fun z8 z9 z11 z12=>by
    rcases h6 with rfl | rfl <;> rfl
   refine wp_seqN (ρ':= [C,T,U2,YV,LV,MV,RV,N7,z8,D9,J,T11,z12]) ?_ ?_
   . rw [frz_eq,f6];refine asg_to (ρ:= [C,T,U2,YV,LV,MV,RV,N7,z8,D9,J,z11,z12]) (call_to (ds:= [.list (matD n M.length R),rowD M.length (fun k=>if k=j then 1 else 0)]) (cons_to (a:= .val (.list (matD n M.length R))) rfl (cons_to (a:= .own ((List.range M.length).map fun k=> .int (if k=j then 1 else 0))) (lc_to (ds:=rngD 0 M.length) (rng1_to (j:=M.length) (consP_to (mlen _ rfl) rfl) (by omega)) (by simp [rngD];omega) ?_) rfl)) te);refine compM_map (en:=fun k:Nat=> .int (0+(k:Nat))) (g:=fun k=> .int (if k=j then 1 else 0)) (xs:=List.range M.length) fun k _=> ?_;refine el_to (ρ0:= [J,none]) (ρ1:= [J,some (.val (.int (0+(k:Nat))))]) (r:= .val (.int (if k=j then 1 else 0))) rfl ?_;rw [Int.zero_add];refine (callP_to (ss:= [.val (.bool (decide ((k:Int)=(j:Int))))]) (consP_to (as:= []) ((bin_eq (op:=deq) (a:= .val (.int (k:Nat))) (b:= .val (.int (j:Nat))) rfl rfl).trans (deq_int _ _)) rfl) rfl).trans ?_
     by_cases e:k=j
     . rw [if_pos e,decide_eq_true (by omega)];rfl
     . rw [if_neg e,decide_eq_false (by omega)];rfl
   have wl:(mLC (subE [some 10,some 7,none]) (mItemsS (mVar 6)) (gVar 2) mYes (mCall m_q6 (mCons (mBin dix (mPk 2) (mPk 0)) (mCons (mVar 1) mNil)))) [C,T,U2,YV,LV,MV,RV,N7,z8,D9,J,T11,z12]=some (.own ((List.range n).map fun k=>encF (fr (R k j) n))):=by
    refine lc_to (ds:=matD n M.length R) rfl (by rw [len_mat];omega) (compM_map fun k hk=> ?_);refine el_to (ρ0:= [J,N7,none]) (ρ1:= [J,N7,some (.val (rowD M.length (R k)))]) (r:= .val (encF (fr (R k j) n))) rfl (call_to (ds:= [.int (R k j), .int (n:Nat)]) (cons_to ((bin_eq (op:=dix) (a:= .val (rowD M.length (R k))) (b:= .val (.int (j:Nat))) rfl rfl).trans (dix_row hj)) rfl) (run_lfrac (by omega) nB))
   have ltd:TD.canLay0=true:=lay_tupl lay_s.2.1 (lay_list (fun _=>rfl) _)
   have dtd:TD.depth<=60:=by
    have h1:(frD n (fun k=>fr (R k j) n)).depth<=4:=by
     show (PyData.list _).depth<=4;rw [PyData.depth];have:=dep_list (en:=fun k:Nat=>encF (fr (R k j) n)) (k:=3) (fun k=>by simp [encF,PyData.depth,PyData.depthAll]) (List.range n);show PyData.depthAll ((List.range n).map fun k:Nat=>encF (fr (R k j) n))+1<=4;omega
    have h2:(PyData.str "told").depth<=4:=by simp [PyData.depth]
    have:=dep_all (xs:= [.str "told",frD n (fun k=>fr (R k j) n)]) (k:=4) fun d hd=>by
     simp only [List.mem_cons,List.not_mem_nil,or_false] at hd
     rcases hd with rfl | rfl
     . exact h2
     . exact h1
    show (PyData.tuple _).depth<=60;rw [PyData.depth];omega
   have sp:m_q31 [frD n (fun k=>fr (R k j) n)]=some (.val (encF (1,(n:Int)))):=by
    have:=run_spreadD (a:=fun k=>R k j) (E:=(n:Int)) h8 N0 (by
     show (n:Int).natAbs<2 ^ 311;have:(n:Int).natAbs<2 ^ 4:=by omega
     exact Nat.lt_of_lt_of_le this (Nat.pow_le_pow_right (by decide) (by decide))) (fun k hk=>(RB k j hj).mono (by decide))
    have g:=hG j hj j hj;rw [if_pos rfl] at g
    rw [show (Ba.sumN n fun k=>R k j*R k j)=(n:Int) from g,frac_inv (by omega)] at this
    exact this
   refine wp_seqN (ρ':= [C,T,U2,YV,LV,MV,RV,N7,z8,D9,J,T11,z12]) ?_ ?_
   . rw [frz_eq,frz_eq];refine if_to (ρ:= [C,T,U2,YV,LV,MV,RV,N7,z8,D9,J,T11,z12]) (b:=false) (or_to (k:=false) (l:=false) (ne_same (a:= .val TD) (b:= .val TD) rfl (tup2 (a:= .val (.str "told")) (b:= .own ((List.range n).map fun k=>encF (fr (R k j) n))) rfl wl) rfl ltd dtd) (ne_same (a:= .val (encF (1,(n:Int)))) (b:= .val (encF (1,(n:Int)))) (call_to (ds:= [frD n (fun k=>fr (R k j) n)]) (cons_to (a:= .val (frD n (fun k=>fr (R k j) n))) rfl rfl) sp) (tup2 (a:= .val (.int 1)) (b:= .val (.int (n:Nat))) rfl rfl) rfl (lay_enc _) (dep_enc _))) rfl
   have f8:frz1 6 (frz1 8 [C,T,U2,YV,LV,MV,RV,N7,z8,D9,J,T11,z12]) = [C,T,U2,YV,LV,MV,RV,N7,SV,D9,J,T11,z12]:=by
    rcases h8' with rfl | rfl <;> rfl
   have f8':frz1 8 (frz1 6 [C,T,U2,YV,LV,MV,RV,N7,z8,D9,J,T11,z12]) = [C,T,U2,YV,LV,MV,RV,N7,SV,D9,J,T11,z12]:=by
    rcases h8' with rfl | rfl <;> rfl
   let O12:Option Sl:=some (.val (.int (cj j)))
   refine wp_seqN (ρ':= [C,T,U2,YV,LV,MV,RV,N7,SV,D9,J,T11,O12]) ?_ ?_
   . rw [frz_eq,frz_eq,f8'];refine asg_to (ρ:= [C,T,U2,YV,LV,MV,RV,N7,SV,D9,J,T11,z12]) (r:= .val (.int (cj j))) (callP_to (ss:= [.own ((List.range n).map fun k=> .int (R k j*SF k))]) (consP_to (as:= []) (lc_to (ds:=(List.range n).map fun k=> .tuple [rowD M.length (R k), .int (SF k)]) ?_ (by rw [List.length_map,List.length_range];omega) (compM_map fun k hk=> ?_)) rfl) sum_to)
     . show some (zipD (matD n M.length R) (il r))=_;rw [ri];unfold matD;rw [zip_range]
     . have hk:=List.mem_range.mp hk;refine el_to (ρ0:= [J,none,none]) (ρ1:= [J,some (.val (rowD M.length (R k))),some (.val (.int (SF k)))]) (r:= .val (.int (R k j*SF k))) rfl ((bin_eq (op:=dRep) ((bin_eq (op:=dix) (a:= .val (rowD M.length (R k))) (b:= .val (.int (j:Nat))) rfl rfl).trans (dix_row hj)) (b:= .val (.int (SF k))) rfl).trans (mulS (.inr (cmulC (RB k j hj) (hS k hk) rfl))))
   refine wp_frz (wp_of (app_to (ρ:= [C,T,U2,YV,LV,MV,RV,N7,SV,D9,J,T11,O12]) (r:= .val (.tuple [tupN (M.getD j []),encF (fr (cj j*cj j) n)])) (ds:=DU j) (tup2 (a:= .val (tupN (M.getD j []))) (b:= .val (encF (fr (cj j*cj j) n))) ((bin_eq (op:=dix) (a:= .val (.list (M.map tupN))) (b:= .val (.int (j:Nat))) rfl rfl).trans (dix_nat (.inl rfl) (by
    rw [List.getElem?_map,List.getElem?_eq_getElem hj];simp [List.getD,List.getElem?_eq_getElem hj]))) (call_to (ds:= [.int (cj j*cj j), .int (n:Nat)]) (cons_to (a:= .val (.int (cj j*cj j))) ((bin_eq (op:=dRep) (a:= .val (.int (cj j))) (b:= .val (.int (cj j))) rfl rfl).trans (mulS (.inr (cmulC (cB j hj) (cB j hj) rfl)))) rfl) (run_lfrac (by omega) nB))) rfl (by simp only [DU,List.length_map,List.length_range];omega)) ⟨RV,SV,J,T11,O12,?_, .inr rfl, .inr rfl⟩)
   show ([C,T,U2,YV,LV,MV,RV,N7,SV,some (.own (DU j ++ [.tuple [tupN (M.getD j []),encF (fr (cj j*cj j) n)]])),J,T11,O12]:En)=_;simp only [DU];rw [List.range_succ,List.map_append];rfl
 . rintro ρ ⟨z6,z8,z10,z11,z12,rfl,h8'⟩;obtain ⟨q,sq,qv⟩:=sqs_exK u4 hM (by omega) (X:=Y) (by omega) (by omega) (S:=SF) (by rw [yl];exact hS) (by rw [yl];exact hG);have rs:=run_squares (lvs_ok u) (mo_eff hM) (by decide) (by omega) (by rw [lvs_len];omega) (X:=Y) (by omega) (by rw [lvs_len];exact plX_u un) (by rw [yl];exact hS) sq;rw [yl] at rs qv
   have sd:sqD M q M.length=DU M.length:=by
    refine List.map_congr_left fun s hs=> ?_;have hs:=List.mem_range.mp hs
    have e:subF q s=fr (cj s*cj s) n:=by
     unfold subF;rw [qv (s+1) (by omega),qv s (by omega),sub_fr N0];congr 1
     show Ba.sumN s _+cj s*cj s - Ba.sumN s _=_;omega
    rw [e]
   have f8:frz1 4 (frz1 5 (frz1 3 (frz1 8 [C,T,U2,YV,LV,MV,z6,N7,z8,some (.own (DU M.length)),z10,z11,z12]))) = [C,T,U2,YV,LV,MV,z6,N7,SV,some (.own (DU M.length)),z10,z11,z12]:=by
    rcases h8' with rfl | rfl <;> rfl
   refine wp_frz (wp_frz (wp_frz (wp_frz ?_)));show Wp _ (frz1 4 (frz1 5 (frz1 3 (frz1 8 [C,T,U2,YV,LV,MV,z6,N7,z8,some (.own (DU M.length)),z10,z11,z12])))) _;rw [f8]
   have ct:(mSl (mCall m_q32 (mCons (mVar 4) (mCons (mVar 3) (mCons (mVar 5) (mCons (mVar 8) mNil))))) mNoPart (mPart (mCallP dLen (mConsP (mPk 5) mNilP)))) [C,T,U2,YV,LV,MV,z6,N7,SV,some (.own (DU M.length)),z10,z11,z12]=some (.own (DU M.length)):=by
    have cq:(mCall m_q32 (mCons (mVar 4) (mCons (mVar 3) (mCons (mVar 5) (mCons (mVar 8) mNil))))) [C,T,U2,YV,LV,MV,z6,N7,SV,some (.own (DU M.length)),z10,z11,z12]=some (.own (sqD M q M.length ++ [.tuple [.str "left",encF (lstF (Ba.sumN n fun k=>SF k*SF k) (q M.length))]])):=by
     refine call_to (ds:= [.list (nl (lvs u)), .list (Y.map tupN), .list (M.map tupN),rowD n SF]) ?_ rs;rw [<-rd];rfl
    unfold mSl;rw [cq,Option.bind_some];show Option.bind (some none) _=_;rw [Option.bind_some];unfold mPart;rw [mlen _ rfl];show some (Sl.own (cutD (sqD M q M.length ++ [_]) none (some ((M.length:Nat):Int))))=_;have hl:(sqD M q M.length).length=M.length:=by simp [sqD]
    unfold cutD;rw [HT.sIx_none,HT.sIx_nat,List.drop_zero,Nat.sub_zero,List.length_append,hl,Nat.min_eq_left (by omega),List.take_append_of_le_length (by omega),List.take_of_length_le (by omega),sd]
   have ld:(PyData.list (DU M.length)).canLay0=true:=lay_all fun d hd=>by
    obtain ⟨s,_,rfl⟩:=List.mem_map.mp hd;exact lay_tupl (lay_list (en:=fun n:Nat=>PyData.int (n:Int)) (fun _=>rfl) _) (lay_enc _)
   have dd:(PyData.list (DU M.length)).depth<=60:=by
    have:=dep_all (xs:=DU M.length) (k:=9) fun d hd=>by
     obtain ⟨s,_,rfl⟩:=List.mem_map.mp hd
     have h1:(tupN (M.getD s [])).depth<=5:=by
      show (PyData.tuple _).depth<=5;rw [PyData.depth];have:=dep_list (en:=fun n:Nat=>PyData.int (n:Int)) (k:=1) (fun _=>by simp [PyData.depth]) (M.getD s []);show PyData.depthAll ((M.getD s []).map fun n:Nat=>PyData.int (n:Int))+1<=5;omega
     have h2:(encF (fr (cj s*cj s) n)).depth<=5:=by simp [encF,PyData.depth,PyData.depthAll]
     have:=dep_all (xs:= [tupN (M.getD s []),encF (fr (cj s*cj s) n)]) (k:=5) fun d hd=>by
      simp only [List.mem_cons,List.not_mem_nil,or_false] at hd
      rcases hd with rfl | rfl
      . exact h1
      . exact h2
     rw [PyData.depth];omega
    rw [PyData.depth];omega
   exact wp_ret (eq_same (a:= .own (DU M.length)) (b:= .own (DU M.length)) ct rfl rfl ld dd) rfl
theorem cut5{ns:List Int}{ρ:En}(h:(ρ[0]?).join=some (.val (.list (ns.map .int)))):(mItemsS (mBin dAdd (mSl (mPk 0) mNoPart (mPart (mK (.int 5)))) (mLst (mCons (mK (.int 0)) mNil)))) ρ=some (il (ns.take 5 ++ [0])):=by
 have c1:(mSl (mPk 0) mNoPart (mPart (mK (.int 5)))) ρ=some (.own (il (ns.take 5))):=by
  have e:cutD (ns.map PyData.int) none (some ((5:Nat):Int))=il (ns.take 5):=by
   unfold cutD il;rw [HT.sIx_none,HT.sIx_nat,List.length_map,List.drop_zero,Nat.sub_zero, <-List.map_take];congr 1
   by_cases h:5<=ns.length
   . rw [Nat.min_eq_left h]
   . rw [Nat.min_eq_right (by omega),List.take_of_length_le (Nat.le_refl _),List.take_of_length_le (by omega)]
  rw [<-e];unfold mSl mPk;rw [h];rfl
 have c2:(mBin dAdd (mSl (mPk 0) mNoPart (mPart (mK (.int 5)))) (mLst (mCons (mK (.int 0)) mNil))) ρ=some (.own (il (ns.take 5 ++ [0]))):=by
  refine (bin_eq (op:=dAdd) c1 (lst1 (a:= .val (.int 0)) rfl)).trans ((add_own (xs:=il (ns.take 5)) (ys:= [.int 0]) rfl rfl ?_).trans (by rw [il_app];rfl));rw [il_len,List.length_take];have:=sl1000;show _+1<=_;omega
 unfold mItemsS;rw [c2];rfl
theorem law_true(ns:List Int)(hns:ns.length<=63):m_law [.list (ns.map .int)]=some (.val (.bool true)):=by
 have sl:=sl1000
 let S:Option Sl:=some (.val (.list (ns.map .int)))
 refine run_wp (ρ:= [S,none,none]) rfl rfl ?_;unfold b_law;refine wp_seq (P:=fun _=>True) ?_ (fun ρ _=>wp_ret rfl rfl);refine wp_forL (en:=PyData.int) (xs:=ns.take 5 ++ [0]) (fun _ ρ=>∃z1 z2,ρ = [S,z1,z2]) (cut5 rfl) ⟨_,_,rfl⟩ ?_ (fun _ _=>trivial);rintro k c ρ hk ⟨z1,z2,rfl⟩;refine ⟨_,rfl,?_⟩
 let C1:Option Sl:=some (.val (.int c))
 show Wp _ [S,C1,z2] _;obtain ⟨b,eb,bb,_⟩:=modN (fa:=mBin dFdiv (mPk 1) (mK (.int 2))) (fb:=mK (.int 2)) (ρ:= [S,C1,z2]) (i:=c.fdiv 2) (divK rfl (by decide) (by decide)) rfl (by decide)
 have hb:m_q5 [.int (2+(b:Int))]=some (.own (enR (dbs (b+2)))):=run_base _ (by
  rw [Int.fmod_eq_of_lt (by omega) (by omega)];omega)
 refine wp_asgS (r:= .own (enR (dbs (b+2)))) (call_to (ds:= [.int (2+(b:Int))]) (cons_to ((bin_eq (op:=dAdd) (a:= .val (.int 2)) rfl eb).trans rfl) rfl) hb) ?_
 obtain ⟨n0,g0,l0⟩:∃n,Gd n (dbs (b+2))/\4<=n/\n<=8:=by
  match b,bb with
  | 0,_=>exact ⟨4,gd_of col_d2 oks.2.1 (by decide) (by decide),by decide,by decide⟩
  | 1,_=>exact ⟨8,gd_of col_d3 oks.2.2.1 (by decide) (by decide),by decide,by decide⟩
  | b+2,h=>exact absurd h (by omega)
 refine wp_seq (P:=fun ρ=>∃n B,Gd n B/\(4<=n/\n<=8)/\ρ = [S,C1,some (.own (enR B))]) ?_ ?_
 . obtain ⟨q,hq,qb,_⟩:=modN (fa:=mPk 1) (fb:=mK (.int 3)) (ρ:= [S,C1,some (.own (enR (dbs (b+2))))]) (i:=c) rfl rfl (by decide);refine wp_if (eq_int (i:=(q:Nat)) (j:=0) hq rfl) ?_
   split
   . obtain ⟨p,hp,pb,_⟩:=modN (fa:=mBin dFdiv (mPk 1) (mK (.int 3))) (fb:=mK (.int 2)) (ρ:= [S,C1,some (.own (enR (dbs (b+2))))]) (i:=c.fdiv 3) (divK rfl (by decide) (by decide)) rfl (by decide);have ls:(mLst (mCons (mK (.int 3)) (mCons (mK (.int 7)) mNil))) [S,C1,some (.own (enR (dbs (b+2))))]=some (.own [.int 3, .int 7]):=if_pos (e:=none) (show 2<=sizeLine by decide)
     have pick:∀ {r n:Nat},1<=r->r<=100->Gd n (ofP r)->4<=n/\n<=8->([.int 3, .int 7]:List PyData)[p]? = some (.int (r:Nat))->Wp (mAsg 2 (mCall m_q26 (mCons (mBin dix (mLst (mCons (mK (.int 3)) (mCons (mK (.int 7)) mNil))) (mBin dMod (mBin dFdiv (mPk 1) (mK (.int 3))) (mK (.int 2)))) mNil))) [S,C1,some (.own (enR (dbs (b+2))))] (Nx fun ρ=>∃n B,Gd n B/\(4<=n/\n<=8)/\ρ = [S,C1,some (.own (enR B))]):=fun {r n} r1 r2 g hn e=>
      wp_asg (r:= .own (enR (ofP r))) (call_to (ds:= [.int (r:Nat)]) (cons_to ((bin_eq (op:=dix) ls hp).trans (dix_nat (.inl rfl) e)) rfl) (run_ofp r1 r2)) ⟨n,ofP r,g,hn,rfl⟩
     match p,pb with
     | 0,_=>exact pick (r:=3) (by decide) (by decide) (gd_of col_3 oks.2.1 (by decide) (by decide)) (by decide) rfl
     | 1,_=>exact pick (r:=7) (by decide) (by decide) (gd_of col_7 oks.2.2.1 (by decide) (by decide)) (by decide) rfl
     | p+2,h=>exact absurd h (by omega)
   . exact wp_next ⟨n0,dbs (b+2),g0,l0,rfl⟩
 rintro ρ ⟨n,B,g,hn,rfl⟩;refine wp_frz ?_
 let B2:Option Sl:=some (.val (.list (enR B)))
 show Wp _ [S,C1,B2] _;obtain ⟨Ss,Ts,l1,l2,b1,b2,em⟩:=run_mixed_up (c.fdiv 6) (by have:=g.lo;omega) (by have:=g.hi;omega) g.sg;have co:=co_mixed (c:=c.fdiv 6) (by have:=g.lo;omega) g.sg g.col g.ok l1 l2 b1 b2;have rr:=run_right (c.fdiv 5) co hn.1 hn.2;exact wp_ifF (not_to (k:=true) (test_eq (call_to (ds:= [.int (c.fdiv 5), .list (enR (mxd B n (c.fdiv 6) Ss Ts))]) (cons_to (divK rfl (by decide) (by decide)) (cons_to (a:= .own (enR (mxd B n (c.fdiv 6) Ss Ts))) (call_to (ds:= [.int (c.fdiv 6), .list (enR B)]) (cons_to (divK rfl (by decide) (by decide)) rfl) em) rfl)) rr))) (wp_next ⟨C1,B2,rfl⟩)
abbrev Na_ (K:W.Frag) (n:Str) (f:Addr):Prop:=W.nsIn K mainGlobals n=some (some (.ref f))
abbrev Nz_ (K:W.Frag) (n:Str):Prop:=W.nsIn K mainGlobals n=some none
abbrev Co_ (K:W.Frag) (c:Value) (n:Str):Prop:=W.codeIn K c n=true
abbrev Ke_ (K:W.Frag) (f:Addr):Prop:=W.keepIn K (.ref f)=true
abbrev Lo_ (K:W.Frag) (f:Addr) (oc:Value) (od:Option Addr) (n q:Str) (s:Stmt) (kV dc pm:Value) (an:Option Addr) (cd ct:Value) (sl:Array (Option Value)):Prop:=K.lookup f=some ⟨oc,od, .func (W.fnOf n q (defArgs s) (defBody s) (defScope s) .none kV dc pm an cd ct),sl⟩
local macro_rules | `(tactic| walk_at "u1") => `(tactic| exact fun _ _ _ _ _ _ us hl => match us, hl with | [_], _ => rfl)
local macro_rules | `(tactic| walk_at "u2") => `(tactic| exact fun _ _ _ _ _ _ us hl => match us, hl with | [_, _], _ => rfl)
local macro_rules | `(tactic| walk_at "u3") => `(tactic| exact fun _ _ _ _ _ _ us hl => match us, hl with | [_, _, _], _ => rfl)
local macro_rules | `(tactic| walk_at "u4") => `(tactic| exact fun _ _ _ _ _ _ us hl => match us, hl with | [_, _, _, _], _ => rfl)
theorem all_mk {l : W.OpenLaw} {w : World} {K : W.Frag} {h : Heap} {mg : Str -> Option Value} {fa f1 f2 f3 f4 f5 f6 f7 f8 f9 f10 f11 f12 f13 f14 f15 f16 f17 f18 f19 f20 f21 f22 f23 f24 f25 f26 f27 f28 f29 f30 f31 f32 f33 f34 f35 f36 f37 f38 f39 f40 f41 f42 f43 f44 f45 C_S t_NOUGHT t_UNIT : Addr} {od1 an1 od2 an2 od3 an3 od4 an4 od5 an5 od6 an6 od7 an7 od8 an8 od9 an9 od10 an10 od11 an11 od12 an12 od13 an13 od14 an14 od15 an15 od16 an16 od17 an17 od18 an18 od19 an19 od20 an20 od21 an21 od22 an22 od23 an23 od24 an24 od25 an25 od26 an26 od27 an27 od28 an28 od29 an29 od30 an30 od31 an31 od32 an32 od33 an33 od34 an34 od35 an35 od36 an36 od37 an37 od38 an38 od39 an39 od40 an40 od41 an41 od42 an42 od43 an43 od44 an44 od45 an45 to_NOUGHT to_UNIT : Option Addr} {sl1 sl2 sl3 sl4 sl5 sl6 sl7 sl8 sl9 sl10 sl11 sl12 sl13 sl14 sl15 sl16 sl17 sl18 sl19 sl20 sl21 sl22 sl23 sl24 sl25 sl26 sl27 sl28 sl29 sl30 sl31 sl32 sl33 sl34 sl35 sl36 sl37 sl38 sl39 sl40 sl41 sl42 sl43 sl44 sl45 ts_NOUGHT ts_UNIT : Array (Option Value)} {oc1 kV1 dc1 pm1 cd1 ct1 oc2 kV2 dc2 pm2 cd2 ct2 oc3 kV3 dc3 pm3 cd3 ct3 oc4 kV4 dc4 pm4 cd4 ct4 oc5 kV5 dc5 pm5 cd5 ct5 oc6 kV6 dc6 pm6 cd6 ct6 oc7 kV7 dc7 pm7 cd7 ct7 oc8 kV8 dc8 pm8 cd8 ct8 oc9 kV9 dc9 pm9 cd9 ct9 oc10 kV10 dc10 pm10 cd10 ct10 oc11 kV11 dc11 pm11 cd11 ct11 oc12 kV12 dc12 pm12 cd12 ct12 oc13 kV13 dc13 pm13 cd13 ct13 oc14 kV14 dc14 pm14 cd14 ct14 oc15 kV15 dc15 pm15 cd15 ct15 oc16 kV16 dc16 pm16 cd16 ct16 oc17 kV17 dc17 pm17 cd17 ct17 oc18 kV18 dc18 pm18 cd18 ct18 oc19 kV19 dc19 pm19 cd19 ct19 oc20 kV20 dc20 pm20 cd20 ct20 oc21 kV21 dc21 pm21 cd21 ct21 oc22 kV22 dc22 pm22 cd22 ct22 oc23 kV23 dc23 pm23 cd23 ct23 oc24 kV24 dc24 pm24 cd24 ct24 oc25 kV25 dc25 pm25 cd25 ct25 oc26 kV26 dc26 pm26 cd26 ct26 oc27 kV27 dc27 pm27 cd27 ct27 oc28 kV28 dc28 pm28 cd28 ct28 oc29 kV29 dc29 pm29 cd29 ct29 oc30 kV30 dc30 pm30 cd30 ct30 oc31 kV31 dc31 pm31 cd31 ct31 oc32 kV32 dc32 pm32 cd32 ct32 oc33 kV33 dc33 pm33 cd33 ct33 oc34 kV34 dc34 pm34 cd34 ct34 oc35 kV35 dc35 pm35 cd35 ct35 oc36 kV36 dc36 pm36 cd36 ct36 oc37 kV37 dc37 pm37 cd37 ct37 oc38 kV38 dc38 pm38 cd38 ct38 oc39 kV39 dc39 pm39 cd39 ct39 oc40 kV40 dc40 pm40 cd40 ct40 oc41 kV41 dc41 pm41 cd41 ct41 oc42 kV42 dc42 pm42 cd42 ct42 oc43 kV43 dc43 pm43 cd43 ct43 oc44 kV44 dc44 pm44 cd44 ct44 oc45 kV45 dc45 pm45 cd45 ct45 : Value} {tk_NOUGHT_0 tk_NOUGHT_1 tk_UNIT_0 tk_UNIT_1 : Tok} {tn_NOUGHT tn_UNIT : Nat} (X : K.In h) (G : h.Ns mainGlobals mg) (hfa : mg "law" = some (.ref fa))
 (aC_Stairs:Na_ K "Stairs" C_S)
 (pg_Stairs:W.plainGet K C_S Str.empty=true)
 (hd_Stairs:W.hasDictIn K C_S=true)
 (po_Stairs:W.plainOver K C_S=true)
 (sa_Stairs:W.findIn K (.ref C_S) "__setattr__" = some (some (.builtin "object.__setattr__")))
 (mk_Stairs:W.makesIn K C_S=true)
 (kc_Stairs:Ke_ K C_S)
 (n_Stairs_rows:W.findIn K (.ref C_S) "rows" = some none)
 (n_Stairs_leads:W.findIn K (.ref C_S) "leads" = some none)
 (n_Stairs_last:W.findIn K (.ref C_S) "last" = some none)
 (a1:Na_ K "_law_base" f1)
 (l1:Lo_ K f1 oc1 od1 "_law_base" "_law_base" s_q5 kV1 dc1 pm1 an1 cd1 ct1 sl1)
 (c1:Co_ K cd1 "_law_base")
 (k1:Ke_ K f1)
 (a2:Na_ K "of_prime" f2)
 (l2:Lo_ K f2 oc2 od2 "of_prime" "of_prime" s_q26 kV2 dc2 pm2 an2 cd2 ct2 sl2)
 (c2:Co_ K cd2 "of_prime")
 (k2:Ke_ K f2)
 (a3:Na_ K "trial_of" f3)
 (l3:Lo_ K f3 oc3 od3 "trial_of" "trial_of" s_q39 kV3 dc3 pm3 an3 cd3 ct3 sl3)
 (c3:Co_ K cd3 "trial_of")
 (k3:Ke_ K f3)
 (a4:Na_ K "plan_of" f4)
 (l4:Lo_ K f4 oc4 od4 "plan_of" "plan_of" s_q27 kV4 dc4 pm4 an4 cd4 ct4 sl4)
 (c4:Co_ K cd4 "plan_of")
 (k4:Ke_ K f4)
 (a5:Na_ K "product_of" f5)
 (l5:Lo_ K f5 oc5 od5 "product_of" "product_of" s_q28 kV5 dc5 pm5 an5 cd5 ct5 sl5)
 (c5:Co_ K cd5 "product_of")
 (k5:Ke_ K f5)
 (a6:Na_ K "trial_at" f6)
 (l6:Lo_ K f6 oc6 od6 "trial_at" "trial_at" s_q38 kV6 dc6 pm6 an6 cd6 ct6 sl6)
 (c6:Co_ K cd6 "trial_at")
 (k6:Ke_ K f6)
 (a7:Na_ K "all_trials" f7)
 (l7:Lo_ K f7 oc7 od7 "all_trials" "all_trials" s_q12 kV7 dc7 pm7 an7 cd7 ct7 sl7)
 (c7:Co_ K cd7 "all_trials")
 (k7:Ke_ K f7)
 (a8:Na_ K "effect_columns" f8)
 (l8:Lo_ K f8 oc8 od8 "effect_columns" "effect_columns" s_q19 kV8 dc8 pm8 an8 cd8 ct8 sl8)
 (c8:Co_ K cd8 "effect_columns")
 (k8:Ke_ K f8)
 (a9:Na_ K "columns_of" f9)
 (l9:Lo_ K f9 oc9 od9 "columns_of" "columns_of" s_q16 kV9 dc9 pm9 an9 cd9 ct9 sl9)
 (c9:Co_ K cd9 "columns_of")
 (k9:Ke_ K f9)
 (a10:Na_ K "contrast" f10)
 (l10:Lo_ K f10 oc10 od10 "contrast" "contrast" s_q18 kV10 dc10 pm10 an10 cd10 ct10 sl10)
 (c10:Co_ K cd10 "contrast")
 (k10:Ke_ K f10)
 (a11:Na_ K "value_at" f11)
 (l11:Lo_ K f11 oc11 od11 "value_at" "value_at" s_q40 kV11 dc11 pm11 an11 cd11 ct11 sl11)
 (c11:Co_ K cd11 "value_at")
 (k11:Ke_ K f11)
 (a12:Na_ K "table_of" f12)
 (l12:Lo_ K f12 oc12 od12 "table_of" "table_of" s_q36 kV12 dc12 pm12 an12 cd12 ct12 sl12)
 (c12:Co_ K cd12 "table_of")
 (k12:Ke_ K f12)
 (a13:Na_ K "_law_mixed" f13)
 (l13:Lo_ K f13 oc13 od13 "_law_mixed" "_law_mixed" s_q7 kV13 dc13 pm13 an13 cd13 ct13 sl13)
 (c13:Co_ K cd13 "_law_mixed")
 (k13:Ke_ K f13)
 (a14:Na_ K "_law_results" f14)
 (l14:Lo_ K f14 oc14 od14 "_law_results" "_law_results" s_q9 kV14 dc14 pm14 an14 cd14 ct14 sl14)
 (c14:Co_ K cd14 "_law_results")
 (k14:Ke_ K f14)
 (a15:Na_ K "greatest_divisor" f15)
 (l15:Lo_ K f15 oc15 od15 "greatest_divisor" "greatest_divisor" s_q23 kV15 dc15 pm15 an15 cd15 ct15 sl15)
 (c15:Co_ K cd15 "greatest_divisor")
 (k15:Ke_ K f15)
 (a16:Na_ K "common_bottom" f16)
 (l16:Lo_ K f16 oc16 od16 "common_bottom" "common_bottom" s_q17 kV16 dc16 pm16 an16 cd16 ct16 sl16)
 (c16:Co_ K cd16 "common_bottom")
 (k16:Ke_ K f16)
 (a17:Na_ K "whole_row" f17)
 (l17:Lo_ K f17 oc17 od17 "whole_row" "whole_row" s_q41 kV17 dc17 pm17 an17 cd17 ct17 sl17)
 (c17:Co_ K cd17 "whole_row")
 (k17:Ke_ K f17)
 (a18:W.findIn K (.ref C_S) "place_of_lead" = some (some (.ref f18)))
 (i18:W.isFn K (.ref f18)=true)
 (l18:Lo_ K f18 oc18 od18 "place_of_lead" "Stairs.place_of_lead" s_q2 kV18 dc18 pm18 an18 cd18 ct18 sl18)
 (c18:Co_ K cd18 "Stairs.place_of_lead")
 (k18:Ke_ K f18)
 (a19:W.findIn K (.ref C_S) "exchange" = some (some (.ref f19)))
 (i19:W.isFn K (.ref f19)=true)
 (l19:Lo_ K f19 oc19 od19 "exchange" "Stairs.exchange" s_q1 kV19 dc19 pm19 an19 cd19 ct19 sl19)
 (c19:Co_ K cd19 "Stairs.exchange")
 (k19:Ke_ K f19)
 (a20:Na_ K "cleared_row" f20)
 (l20:Lo_ K f20 oc20 od20 "cleared_row" "cleared_row" s_q14 kV20 dc20 pm20 an20 cd20 ct20 sl20)
 (c20:Co_ K cd20 "cleared_row")
 (k20:Ke_ K f20)
 (a21:W.findIn K (.ref C_S) "step_down" = some (some (.ref f21)))
 (i21:W.isFn K (.ref f21)=true)
 (l21:Lo_ K f21 oc21 od21 "step_down" "Stairs.step_down" s_q4 kV21 dc21 pm21 an21 cd21 ct21 sl21)
 (c21:Co_ K cd21 "Stairs.step_down")
 (k21:Ke_ K f21)
 (a22:W.findIn K (.ref C_S) "__init__" = some (some (.ref f22)))
 (i22:W.isFn K (.ref f22)=true)
 (l22:Lo_ K f22 oc22 od22 "__init__" "Stairs.__init__" s_q0 kV22 dc22 pm22 an22 cd22 ct22 sl22)
 (c22:Co_ K cd22 "Stairs.__init__")
 (k22:Ke_ K f22)
 (a23:Na_ K "stairs_of" f23)
 (l23:Lo_ K f23 oc23 od23 "stairs_of" "stairs_of" s_q33 kV23 dc23 pm23 an23 cd23 ct23 sl23)
 (c23:Co_ K cd23 "stairs_of")
 (k23:Ke_ K f23)
 (a24:Na_ K "fraction" f24)
 (l24:Lo_ K f24 oc24 od24 "fraction" "fraction" s_q21 kV24 dc24 pm24 an24 cd24 ct24 sl24)
 (c24:Co_ K cd24 "fraction")
 (k24:Ke_ K f24)
 (a25:Na_ K "fractions_over" f25)
 (l25:Lo_ K f25 oc25 od25 "fractions_over" "fractions_over" s_q22 kV25 dc25 pm25 an25 cd25 ct25 sl25)
 (c25:Co_ K cd25 "fractions_over")
 (k25:Ke_ K f25)
 (a26:W.findIn K (.ref C_S) "reduced_column" = some (some (.ref f26)))
 (i26:W.isFn K (.ref f26)=true)
 (l26:Lo_ K f26 oc26 od26 "reduced_column" "Stairs.reduced_column" s_q3 kV26 dc26 pm26 an26 cd26 ct26 sl26)
 (c26:Co_ K cd26 "Stairs.reduced_column")
 (k26:Ke_ K f26)
 (a27:Na_ K "solution" f27)
 (l27:Lo_ K f27 oc27 od27 "solution" "solution" s_q29 kV27 dc27 pm27 an27 cd27 ct27 sl27)
 (c27:Co_ K cd27 "solution")
 (k27:Ke_ K f27)
 (a28:Na_ K "laid_over" f28)
 (l28:Lo_ K f28 oc28 od28 "laid_over" "laid_over" s_q24 kV28 dc28 pm28 an28 cd28 ct28 sl28)
 (c28:Co_ K cd28 "laid_over")
 (k28:Ke_ K f28)
 (a29:Na_ K "witness" f29)
 (l29:Lo_ K f29 oc29 od29 "witness" "witness" s_q42 kV29 dc29 pm29 an29 cd29 ct29 sl29)
 (c29:Co_ K cd29 "witness")
 (k29:Ke_ K f29)
 (a30:Na_ K "solved" f30)
 (l30:Lo_ K f30 oc30 od30 "solved" "solved" s_q30 kV30 dc30 pm30 an30 cd30 ct30 sl30)
 (c30:Co_ K cd30 "solved")
 (k30:Ke_ K f30)
 (a31:Na_ K "as_fractions" f31)
 (l31:Lo_ K f31 oc31 od31 "as_fractions" "as_fractions" s_q13 kV31 dc31 pm31 an31 cd31 ct31 sl31)
 (c31:Co_ K cd31 "as_fractions")
 (k31:Ke_ K f31)
 (a32:Na_ K "sum_of_products" f32)
 (l32:Lo_ K f32 oc32 od32 "sum_of_products" "sum_of_products" s_q34 kV32 dc32 pm32 an32 cd32 ct32 sl32)
 (c32:Co_ K cd32 "sum_of_products")
 (k32:Ke_ K f32)
 (a33:Na_ K "column_products" f33)
 (l33:Lo_ K f33 oc33 od33 "column_products" "column_products" s_q15 kV33 dc33 pm33 an33 cd33 ct33 sl33)
 (c33:Co_ K cd33 "column_products")
 (k33:Ke_ K f33)
 (a34:Na_ K "sums_with" f34)
 (l34:Lo_ K f34 oc34 od34 "sums_with" "sums_with" s_q35 kV34 dc34 pm34 an34 cd34 ct34 sl34)
 (c34:Co_ K cd34 "sums_with")
 (k34:Ke_ K f34)
 (a35:Na_ K "telling" f35)
 (l35:Lo_ K f35 oc35 od35 "telling" "telling" s_q37 kV35 dc35 pm35 an35 cd35 ct35 sl35)
 (c35:Co_ K cd35 "telling")
 (k35:Ke_ K f35)
 (a36:Na_ K "spread" f36)
 (l36:Lo_ K f36 oc36 od36 "spread" "spread" s_q31 kV36 dc36 pm36 an36 cd36 ct36 sl36)
 (c36:Co_ K cd36 "spread")
 (k36:Ke_ K f36)
 (a37:Na_ K "_law_fraction" f37)
 (l37:Lo_ K f37 oc37 od37 "_law_fraction" "_law_fraction" s_q6 kV37 dc37 pm37 an37 cd37 ct37 sl37)
 (c37:Co_ K cd37 "_law_fraction")
 (k37:Ke_ K f37)
 (a38:Na_ K "minus" f38)
 (l38:Lo_ K f38 oc38 od38 "minus" "minus" s_q25 kV38 dc38 pm38 an38 cd38 ct38 sl38)
 (c38:Co_ K cd38 "minus")
 (k38:Ke_ K f38)
 (a39:Na_ K "fit" f39)
 (l39:Lo_ K f39 oc39 od39 "fit" "fit" s_fit kV39 dc39 pm39 an39 cd39 ct39 sl39)
 (c39:Co_ K cd39 "fit")
 (k39:Ke_ K f39)
 (a40:Na_ K "fitted_square" f40)
 (l40:Lo_ K f40 oc40 od40 "fitted_square" "fitted_square" s_q20 kV40 dc40 pm40 an40 cd40 ct40 sl40)
 (c40:Co_ K cd40 "fitted_square")
 (k40:Ke_ K f40)
 (a41:Na_ K "squares" f41)
 (l41:Lo_ K f41 oc41 od41 "squares" "squares" s_q32 kV41 dc41 pm41 an41 cd41 ct41 sl41)
 (c41:Co_ K cd41 "squares")
 (k41:Ke_ K f41)
 (a42:Na_ K "_law_right" f42)
 (l42:Lo_ K f42 oc42 od42 "_law_right" "_law_right" s_q10 kV42 dc42 pm42 an42 cd42 ct42 sl42)
 (c42:Co_ K cd42 "_law_right")
 (k42:Ke_ K f42)
 (a43:Na_ K "_law_signs" f43)
 (l43:Lo_ K f43 oc43 od43 "_law_signs" "_law_signs" s_q11 kV43 dc43 pm43 an43 cd43 ct43 sl43)
 (c43:Co_ K cd43 "_law_signs")
 (k43:Ke_ K f43)
 (a44:Na_ K "_law_mixed_up" f44)
 (l44:Lo_ K f44 oc44 od44 "_law_mixed_up" "_law_mixed_up" s_q8 kV44 dc44 pm44 an44 cd44 ct44 sl44)
 (c44:Co_ K cd44 "_law_mixed_up")
 (k44:Ke_ K f44)
 (a45:Na_ K "law" f45)
 (l45:Lo_ K f45 oc45 od45 "law" "law" s_law kV45 dc45 pm45 an45 cd45 ct45 sl45)
 (c45:Co_ K cd45 "law")
 (k45:Ke_ K f45)
 (a_NOUGHT:Na_ K "NOUGHT" t_NOUGHT)
 (l_NOUGHT:K.lookup t_NOUGHT=some ⟨.type "tuple",to_NOUGHT, .seq #[.int 0 tk_NOUGHT_0, .int 1 tk_NOUGHT_1] tn_NOUGHT,ts_NOUGHT⟩)
 (a_UNIT:Na_ K "UNIT" t_UNIT)
 (l_UNIT:K.lookup t_UNIT=some ⟨.type "tuple",to_UNIT, .seq #[.int 1 tk_UNIT_0, .int 1 tk_UNIT_1] tn_UNIT,ts_UNIT⟩)
 (z0:Nz_ K "abs")
 (z1:Nz_ K "enumerate")
 (z2:Nz_ K "int")
 (z3:Nz_ K "len")
 (z4:Nz_ K "list")
 (z5:Nz_ K "min")
 (z6:Nz_ K "range")
 (z7:Nz_ K "reversed")
 (z8:Nz_ K "sum")
 (z9:Nz_ K "tuple")
 (z10:Nz_ K "zip")
 : ∃fd:FuncData,(∀(s:Shared) (v:Value),BindsTo s fd ⟨[v],[]⟩ [("_law_script",v)])/\∀base:Heap,K.In base->base.Ns mainGlobals mg->FnOk l.prog w K mg base CX0 13 fa fd ["_law_script"] (spLaw K):=by
 have e:=hfa.symm.trans (W.mg_of X G a45)
 cases e
 have F_q5:=fun_mk (st:=s_q5) l1 c1 k1;have b_q5:=F_q5.binds (ps:= ["_law_cell"]) (by walk_at "u1");have F_q26:=fun_mk (st:=s_q26) l2 c2 k2;have b_q26:=F_q26.binds (ps:= ["p"]) (by walk_at "u1");have F_q39:=fun_mk (st:=s_q39) l3 c3 k3;have b_q39:=F_q39.binds (ps:= ["row"]) (by walk_at "u1");have F_q27:=fun_mk (st:=s_q27) l4 c4 k4;have b_q27:=F_q27.binds (ps:= ["table"]) (by walk_at "u1");have F_q28:=fun_mk (st:=s_q28) l5 c5 k5;have b_q28:=F_q28.binds (ps:= ["numbers"]) (by walk_at "u1");have F_q38:=fun_mk (st:=s_q38) l6 c6 k6;have b_q38:=F_q38.binds (ps:= ["levels", "place"]) (by walk_at "u2");have F_q12:=fun_mk (st:=s_q12) l7 c7 k7;have b_q12:=F_q12.binds (ps:= ["levels"]) (by walk_at "u1");have F_q19:=fun_mk (st:=s_q19) l8 c8 k8;have b_q19:=F_q19.binds (ps:= ["levels", "effect"]) (by walk_at "u2");have F_q16:=fun_mk (st:=s_q16) l9 c9 k9;have b_q16:=F_q16.binds (ps:= ["levels", "model"]) (by walk_at "u2");have F_q18:=fun_mk (st:=s_q18) l10 c10 k10;have b_q18:=F_q18.binds (ps:= ["number", "step"]) (by walk_at "u2");have F_q40:=fun_mk (st:=s_q40) l11 c11 k11;have b_q40:=F_q40.binds (ps:= ["column", "trial"]) (by walk_at "u2");have F_q36:=fun_mk (st:=s_q36) l12 c12 k12;have b_q36:=F_q36.binds (ps:= ["levels", "plan", "model"]) (by walk_at "u3");have F_q7:=fun_mk (st:=s_q7) l13 c13 k13;have b_q7:=F_q7.binds (ps:= ["_law_cell", "_law_k"]) (by walk_at "u2");have F_q9:=fun_mk (st:=s_q9) l14 c14 k14;have b_q9:=F_q9.binds (ps:= ["_law_cell", "_law_many"]) (by walk_at "u2");have F_q23:=fun_mk (st:=s_q23) l15 c15 k15;have b_q23:=F_q23.binds (ps:= ["one", "other"]) (by walk_at "u2");have F_q17:=fun_mk (st:=s_q17) l16 c16 k16;have b_q17:=F_q17.binds (ps:= ["row"]) (by walk_at "u1");have F_q41:=fun_mk (st:=s_q41) l17 c17 k17;have b_q41:=F_q41.binds (ps:= ["row"]) (by walk_at "u1");have F_q2:=fun_mk (st:=s_q2) l18 c18 k18;have b_q2:=F_q2.binds (ps:= ["self", "top", "column"]) (by walk_at "u3");have F_q1:=fun_mk (st:=s_q1) l19 c19 k19;have b_q1:=F_q1.binds (ps:= ["self", "top", "place"]) (by walk_at "u3");have F_q14:=fun_mk (st:=s_q14) l20 c20 k20;have b_q14:=F_q14.binds (ps:= ["row", "lead_row", "column", "last"]) (by walk_at "u4");have F_q4:=fun_mk (st:=s_q4) l21 c21 k21;have b_q4:=F_q4.binds (ps:= ["self", "column"]) (by walk_at "u2");have F_q0:=fun_mk (st:=s_q0) l22 c22 k22;have b_q0:=F_q0.binds (ps:= ["self", "rows"]) (by walk_at "u2");have F_q33:=fun_mk (st:=s_q33) l23 c23 k23;have b_q33:=F_q33.binds (ps:= ["table"]) (by walk_at "u1");have F_q21:=fun_mk (st:=s_q21) l24 c24 k24;have b_q21:=F_q21.binds (ps:= ["top", "bottom"]) (by walk_at "u2");have F_q22:=fun_mk (st:=s_q22) l25 c25 k25;have b_q22:=F_q22.binds (ps:= ["numbers", "bottom"]) (by walk_at "u2");have F_q3:=fun_mk (st:=s_q3) l26 c26 k26;have b_q3:=F_q3.binds (ps:= ["self", "column"]) (by walk_at "u2");have F_q29:=fun_mk (st:=s_q29) l27 c27 k27;have b_q29:=F_q29.binds (ps:= ["table", "column"]) (by walk_at "u2");have F_q24:=fun_mk (st:=s_q24) l28 c28 k28;have b_q24:=F_q24.binds (ps:= ["table"]) (by walk_at "u1")
 have F_q42:=fun_mk (st:=s_q42) l29 c29 k29;have b_q42:=F_q42.binds (ps:= ["table", "column"]) (by walk_at "u2");have F_q30:=fun_mk (st:=s_q30) l30 c30 k30;have b_q30:=F_q30.binds (ps:= ["table", "column"]) (by walk_at "u2");have F_q13:=fun_mk (st:=s_q13) l31 c31 k31;have b_q13:=F_q13.binds (ps:= ["numbers"]) (by walk_at "u1");have F_q34:=fun_mk (st:=s_q34) l32 c32 k32;have b_q34:=F_q34.binds (ps:= ["one", "other"]) (by walk_at "u2");have F_q15:=fun_mk (st:=s_q15) l33 c33 k33;have b_q15:=F_q15.binds (ps:= ["rows"]) (by walk_at "u1");have F_q35:=fun_mk (st:=s_q35) l34 c34 k34;have b_q35:=F_q35.binds (ps:= ["rows", "fractions"]) (by walk_at "u2");have F_q37:=fun_mk (st:=s_q37) l35 c35 k35;have b_q37:=F_q37.binds (ps:= ["rows", "combination"]) (by walk_at "u2");have F_q31:=fun_mk (st:=s_q31) l36 c36 k36;have b_q31:=F_q31.binds (ps:= ["weights"]) (by walk_at "u1");have F_q6:=fun_mk (st:=s_q6) l37 c37 k37;have b_q6:=F_q6.binds (ps:= ["_law_top", "_law_bottom"]) (by walk_at "u2");have F_q25:=fun_mk (st:=s_q25) l38 c38 k38;have b_q25:=F_q25.binds (ps:= ["one", "other"]) (by walk_at "u2");have F_fit:=fun_mk (st:=s_fit) l39 c39 k39;have b_fit:=F_fit.binds (ps:= ["rows", "results"]) (by walk_at "u2");have F_q20:=fun_mk (st:=s_q20) l40 c40 k40;have b_q20:=F_q20.binds (ps:= ["levels", "plan", "model", "results"]) (by walk_at "u4");have F_q32:=fun_mk (st:=s_q32) l41 c41 k41;have b_q32:=F_q32.binds (ps:= ["levels", "plan", "model", "results"]) (by walk_at "u4");have F_q10:=fun_mk (st:=s_q10) l42 c42 k42;have b_q10:=F_q10.binds (ps:= ["_law_cell", "_law_table"]) (by walk_at "u2");have F_q11:=fun_mk (st:=s_q11) l43 c43 k43;have b_q11:=F_q11.binds (ps:= ["_law_cell", "_law_start", "_law_many"]) (by walk_at "u3");have F_q8:=fun_mk (st:=s_q8) l44 c44 k44;have b_q8:=F_q8.binds (ps:= ["_law_cell", "_law_table"]) (by walk_at "u2");have F_law:=fun_mk (st:=s_law) l45 c45 k45;have b_law:=F_law.binds (ps:= ["_law_script"]) (by walk_at "u1");have B:Bl mg:=⟨W.mg_none_of X G z0,W.mg_none_of X G z1,W.mg_none_of X G z2,W.mg_none_of X G z3,W.mg_none_of X G z4,W.mg_none_of X G z5,W.mg_none_of X G z6,W.mg_none_of X G z7,W.mg_none_of X G z8,W.mg_none_of X G z9,W.mg_none_of X G z10⟩
 have K_S:Klass K C_S ["rows", "leads", "last"]:=⟨⟨pg_Stairs,hd_Stairs,po_Stairs,sa_Stairs⟩,fun f hf=>by
  simp only [List.mem_cons,List.not_mem_nil,or_false] at hf
  rcases hf with rfl | rfl | rfl
  . exact n_Stairs_rows
  . exact n_Stairs_leads
  . exact n_Stairs_last⟩
 have C_NOUGHT:GlobC K mg "NOUGHT" c_NOUGHT:=⟨.ref t_NOUGHT, .ref t_NOUGHT,W.mg_of X G a_NOUGHT,rfl,fun H0=>Rep.tuple (xs:= [V.int 0,V.int 1]) (.inr ⟨_,_,_,l_NOUGHT,rfl,rfl,by show 2<=sizeLine;decide, .cons ⟨_,rfl⟩ (.cons ⟨_,rfl⟩ (.nil))⟩) (.cons (.int _) (.cons (.int _) .nil))⟩;have C_UNIT:GlobC K mg "UNIT" c_UNIT:=⟨.ref t_UNIT, .ref t_UNIT,W.mg_of X G a_UNIT,rfl,fun H0=>Rep.tuple (xs:= [V.int 1,V.int 1]) (.inr ⟨_,_,_,l_UNIT,rfl,rfl,by show 2<=sizeLine;decide, .cons ⟨_,rfl⟩ (.cons ⟨_,rfl⟩ (.nil))⟩) (.cons (.int _) (.cons (.int _) .nil))⟩;refine ⟨W.fnOf "law" "law" (defArgs s_law) (defBody s_law) (defScope s_law) .none kV45 dc45 pm45 an45 cd45 ct45,fun s v=> .of_eq rfl,fun base _ _=> ?_⟩;have D_q5:Def l.prog w K mg base 1 "_law_base" ["_law_cell"] (spD K m_q5):=⟨_,_,ok_q5 B F_q5,W.mg_of X G a1,k1,b_q5⟩;have D_q26:Def l.prog w K mg base 1 "of_prime" ["p"] (spD K m_q26):=⟨_,_,ok_q26 B F_q26,W.mg_of X G a2,k2,b_q26⟩;have D_q39:Def l.prog w K mg base 1 "trial_of" ["row"] (spD K m_q39):=⟨_,_,ok_q39 B F_q39,W.mg_of X G a3,k3,b_q39⟩;have D_q27:Def l.prog w K mg base 2 "plan_of" ["table"] (spD K m_q27):=⟨_,_,ok_q27 B D_q39 F_q27,W.mg_of X G a4,k4,b_q27⟩;have D_q28:Def l.prog w K mg base 1 "product_of" ["numbers"] (spD K m_q28):=⟨_,_,ok_q28 B F_q28,W.mg_of X G a5,k5,b_q28⟩;have D_q38:Def l.prog w K mg base 1 "trial_at" ["levels", "place"] (spD K m_q38):=⟨_,_,ok_q38 B F_q38,W.mg_of X G a6,k6,b_q38⟩;have D_q12:Def l.prog w K mg base 2 "all_trials" ["levels"] (spD K m_q12):=⟨_,_,ok_q12 B D_q28 D_q38 F_q12,W.mg_of X G a7,k7,b_q12⟩;have D_q19:Def l.prog w K mg base 3 "effect_columns" ["levels", "effect"] (spD K m_q19):=⟨_,_,ok_q19 B D_q12 F_q19,W.mg_of X G a8,k8,b_q19⟩;have D_q16:Def l.prog w K mg base 4 "columns_of" ["levels", "model"] (spD K m_q16):=⟨_,_,ok_q16 B D_q19 F_q16,W.mg_of X G a9,k9,b_q16⟩;have D_q18:Def l.prog w K mg base 1 "contrast" ["number", "step"] (spD K m_q18):=⟨_,_,ok_q18 B F_q18,W.mg_of X G a10,k10,b_q18⟩;have D_q40:Def l.prog w K mg base 2 "value_at" ["column", "trial"] (spD K m_q40):=⟨_,_,ok_q40 B D_q18 F_q40,W.mg_of X G a11,k11,b_q40⟩;have D_q36:Def l.prog w K mg base 5 "table_of" ["levels", "plan", "model"] (spD K m_q36):=⟨_,_,ok_q36 B D_q16 D_q40 F_q36,W.mg_of X G a12,k12,b_q36⟩;have D_q7:Def l.prog w K mg base 1 "_law_mixed" ["_law_cell", "_law_k"] (spD K m_q7):=⟨_,_,ok_q7 B F_q7,W.mg_of X G a13,k13,b_q7⟩;have D_q9:Def l.prog w K mg base 2 "_law_results" ["_law_cell", "_law_many"] (spD K m_q9):=⟨_,_,ok_q9 B D_q7 F_q9,W.mg_of X G a14,k14,b_q9⟩;have D_q23:Def l.prog w K mg base 1 "greatest_divisor" ["one", "other"] (spD K m_q23):=⟨_,_,ok_q23 B F_q23,W.mg_of X G a15,k15,b_q23⟩;have D_q17:Def l.prog w K mg base 2 "common_bottom" ["row"] (spD K m_q17):=⟨_,_,ok_q17 B D_q23 F_q17,W.mg_of X G a16,k16,b_q17⟩;have D_q41:Def l.prog w K mg base 3 "whole_row" ["row"] (spD K m_q41):=⟨_,_,ok_q41 B D_q17 F_q41,W.mg_of X G a17,k17,b_q41⟩;have D_q2:MDef l.prog w K mg base 1 C_S "place_of_lead" ["self", "top", "column"] (spM K C_S ["rows", "leads", "last"] m_q2):=⟨_,_,ok_q2 B K_S F_q2,⟨a18,i18,k18⟩,b_q2⟩
 have D_q1:MDef l.prog w K mg base 1 C_S "exchange" ["self", "top", "place"] (spM K C_S ["rows", "leads", "last"] m_q1):=⟨_,_,ok_q1 B K_S F_q1,⟨a19,i19,k19⟩,b_q1⟩;have D_q14:Def l.prog w K mg base 1 "cleared_row" ["row", "lead_row", "column", "last"] (spD K m_q14):=⟨_,_,ok_q14 B F_q14,W.mg_of X G a20,k20,b_q14⟩;have D_q4:MDef l.prog w K mg base 2 C_S "step_down" ["self", "column"] (spM K C_S ["rows", "leads", "last"] m_q4):=⟨_,_,ok_q4 B D_q2 D_q1 D_q14 K_S F_q4,⟨a21,i21,k21⟩,b_q4⟩;have D_q0:KDef l.prog w K mg base 3 C_S "Stairs" ["self", "rows"] (spM K C_S ["rows", "leads", "last"] m_q0):=⟨_,_,ok_q0 B D_q4 K_S F_q0,⟨mk_Stairs,a22,i22,kc_Stairs⟩,W.mg_of X G aC_Stairs,b_q0⟩;have D_q33:Def l.prog w K mg base 5 "stairs_of" ["table"] (spO K C_S ["rows", "leads", "last"] m_q33):=⟨_,_,ok_q33 B D_q41 D_q0 K_S F_q33,W.mg_of X G a23,k23,b_q33⟩;have D_q21:Def l.prog w K mg base 2 "fraction" ["top", "bottom"] (spD K m_q21):=⟨_,_,ok_q21 B D_q23 F_q21,W.mg_of X G a24,k24,b_q21⟩;have D_q22:Def l.prog w K mg base 3 "fractions_over" ["numbers", "bottom"] (spD K m_q22):=⟨_,_,ok_q22 B D_q21 F_q22,W.mg_of X G a25,k25,b_q22⟩;have D_q3:MDef l.prog w K mg base 1 C_S "reduced_column" ["self", "column"] (spR K C_S ["rows", "leads", "last"] m_q3):=⟨_,_,ok_q3 B K_S F_q3,⟨a26,i26,k26⟩,b_q3⟩;have D_q29:Def l.prog w K mg base 6 "solution" ["table", "column"] (spD K m_q29):=⟨_,_,ok_q29 B D_q33 D_q22 D_q3 C_NOUGHT K_S F_q29,W.mg_of X G a27,k27,b_q29⟩;have D_q24:Def l.prog w K mg base 1 "laid_over" ["table"] (spD K m_q24):=⟨_,_,ok_q24 B F_q24,W.mg_of X G a28,k28,b_q24⟩;have D_q42:Def l.prog w K mg base 7 "witness" ["table", "column"] (spD K m_q42):=⟨_,_,ok_q42 B D_q24 D_q29 C_NOUGHT C_UNIT F_q42,W.mg_of X G a29,k29,b_q42⟩;have D_q30:Def l.prog w K mg base 8 "solved" ["table", "column"] (spD K m_q30):=⟨_,_,ok_q30 B D_q29 D_q42 F_q30,W.mg_of X G a30,k30,b_q30⟩;have D_q13:Def l.prog w K mg base 1 "as_fractions" ["numbers"] (spD K m_q13):=⟨_,_,ok_q13 B F_q13,W.mg_of X G a31,k31,b_q13⟩;have D_q34:Def l.prog w K mg base 1 "sum_of_products" ["one", "other"] (spD K m_q34):=⟨_,_,ok_q34 B F_q34,W.mg_of X G a32,k32,b_q34⟩;have D_q15:Def l.prog w K mg base 2 "column_products" ["rows"] (spD K m_q15):=⟨_,_,ok_q15 B D_q24 D_q13 D_q34 F_q15,W.mg_of X G a33,k33,b_q15⟩;have D_q35:Def l.prog w K mg base 4 "sums_with" ["rows", "fractions"] (spD K m_q35):=⟨_,_,ok_q35 B D_q17 D_q41 D_q22 D_q34 F_q35,W.mg_of X G a34,k34,b_q35⟩;have D_q37:Def l.prog w K mg base 9 "telling" ["rows", "combination"] (spD K m_q37):=⟨_,_,ok_q37 B D_q30 D_q13 D_q15 D_q35 C_NOUGHT F_q37,W.mg_of X G a35,k35,b_q37⟩;have D_q31:Def l.prog w K mg base 4 "spread" ["weights"] (spD K m_q31):=⟨_,_,ok_q31 B D_q17 D_q41 D_q21 D_q34 F_q31,W.mg_of X G a36,k36,b_q31⟩;have D_q6:Def l.prog w K mg base 1 "_law_fraction" ["_law_top", "_law_bottom"] (spD K m_q6):=⟨_,_,ok_q6 B F_q6,W.mg_of X G a37,k37,b_q6⟩;have D_q25:Def l.prog w K mg base 3 "minus" ["one", "other"] (spD K m_q25):=⟨_,_,ok_q25 B D_q21 F_q25,W.mg_of X G a38,k38,b_q25⟩;have D_fit:Def l.prog w K mg base 9 "fit" ["rows", "results"] (spD K m_fit):=⟨_,_,ok_fit B D_q24 D_q34 D_q30 D_q13 D_q15 D_q35 D_q25 F_fit,W.mg_of X G a39,k39,b_fit⟩
 have D_q20:Def l.prog w K mg base 10 "fitted_square" ["levels", "plan", "model", "results"] (spD K m_q20):=⟨_,_,ok_q20 B D_q31 D_fit D_q36 F_q20,W.mg_of X G a40,k40,b_q20⟩;have D_q32:Def l.prog w K mg base 11 "squares" ["levels", "plan", "model", "results"] (spD K m_q32):=⟨_,_,ok_q32 B D_q20 D_q25 D_q34 C_NOUGHT F_q32,W.mg_of X G a41,k41,b_q32⟩;have D_q10:Def l.prog w K mg base 12 "_law_right" ["_law_cell", "_law_table"] (spD K m_q10):=⟨_,_,ok_q10 B D_q27 D_q36 D_q9 D_q37 D_q31 D_q6 D_q32 F_q10,W.mg_of X G a42,k42,b_q10⟩;have D_q11:Def l.prog w K mg base 2 "_law_signs" ["_law_cell", "_law_start", "_law_many"] (spD K m_q11):=⟨_,_,ok_q11 B D_q7 F_q11,W.mg_of X G a43,k43,b_q11⟩;have D_q8:Def l.prog w K mg base 3 "_law_mixed_up" ["_law_cell", "_law_table"] (spD K m_q8):=⟨_,_,ok_q8 B D_q11 F_q8,W.mg_of X G a44,k44,b_q8⟩;exact (ok_law B D_q5 D_q26 D_q10 D_q8 F_law).imp (fun vs H Q E h=>law_imp law_true h)
theorem walk {l : W.OpenLaw} {q : Program} {loose : List Str} {XP : (Str -> Option Value) -> Heap -> Prop} {YP : World -> Heap -> Prop} {d : DefRec} {K : Params -> W.Frag} (hn : l.most = some 63) (hdf : d.params.defaults = [])
 (hY:∀(w:World) (h:Heap),YP w h->(K w.params).In h)
 (F:∀(w:World) (mg:Str->Option Value) (fa:Addr) (h:Heap),(K w.params).In h->h.Ns mainGlobals mg->mg d.name=some (.ref fa) ->
  ∃fd:FuncData,(∀(s:Shared) (u:Value),BindsTo s fd ⟨[u],[]⟩ [("_law_script",u)])/\∀base:Heap,(K w.params).In base->base.Ns mainGlobals mg->FnOk l.prog w (K w.params) mg base CX0 13 fa fd ["_law_script"] (spLaw (K w.params))) :
 W.WalkO q loose XP YP l.row.toRowW d [] (fun f vs=>PySem.call f vs) :=
 L2.walk_of (n:=63) (k:=13) (x:= "_law_script") (CX:=fun _=>CX0) (sp:=fun w=>spLaw (K w.params)) hn (by decide) hdf ⟨rfl,by decide,by decide⟩ hY F (fun _ _ a ns hl _ hS=>⟨a,ns,rfl,hS,hl,fun _=>rfl⟩) fun _ _ _ _ _ z=>z
end
end K75
namespace PySem.W.Fast
def tw6080531468989912518:=0
def tw4991260618946578421:=0
def tw10812500787159265035:=0
def tw4561809035303038811:=0
def tw1094254411337507284:=0
def tw9529146432858634242:=0
end PySem.W.Fast
open PySem PySem.W PyProof.Rows
set_option maxRecDepth 100000 in
set_option maxHeartbeats 0 in
theorem PySem.Challenge.cw_trialfield_k75_whole_single_things_of_ev_holds : PySem.Challenge.rw_trialfield_k75_whole_single_things_of_ev.Holds := by
 w_on;o_law;k_head;(case hw=>w_witness2)
 k_fill
 refine K75.walk (l := PySem.Challenge.rw_trialfield_k75_whole_single_things_of_ev) rfl rfl (fun w h Y => PySem.W.kIn_of Y) ?F
 case F=>
  intro w mg fa h KX G hmg;refine' K75.all_mk KX G hmg ?_ ?_ ?_ ?_ ?_ ?_ ?_ ?_ ?_ ?_ ?_ ?_ ?_ ?_ ?_ ?_ ?_ ?_ ?_ ?_ ?_ ?_ ?_ ?_ ?_ ?_ ?_ ?_ ?_ ?_ ?_ ?_ ?_ ?_ ?_ ?_ ?_ ?_ ?_ ?_ ?_ ?_ ?_ ?_ ?_ ?_ ?_ ?_ ?_ ?_ ?_ ?_ ?_ ?_ ?_ ?_ ?_ ?_ ?_ ?_ ?_ ?_ ?_ ?_ ?_ ?_ ?_ ?_ ?_ ?_ ?_ ?_ ?_ ?_ ?_ ?_ ?_ ?_ ?_ ?_ ?_ ?_ ?_ ?_ ?_ ?_ ?_ ?_ ?_ ?_ ?_ ?_ ?_ ?_ ?_ ?_ ?_ ?_ ?_ ?_ ?_ ?_ ?_ ?_ ?_ ?_ ?_ ?_ ?_ ?_ ?_ ?_ ?_ ?_ ?_ ?_ ?_ ?_ ?_ ?_ ?_ ?_ ?_ ?_ ?_ ?_ ?_ ?_ ?_ ?_ ?_ ?_ ?_ ?_ ?_ ?_ ?_ ?_ ?_ ?_ ?_ ?_ ?_ ?_ ?_ ?_ ?_ ?_ ?_ ?_ ?_ ?_ ?_ ?_ ?_ ?_ ?_ ?_ ?_ ?_ ?_ ?_ ?_ ?_ ?_ ?_ ?_ ?_ ?_ ?_ ?_ ?_ ?_ ?_ ?_ ?_ ?_ ?_ ?_ ?_ ?_ ?_ ?_ ?_ ?_ ?_ ?_ ?_ ?_ ?_ ?_ ?_ ?_ ?_ ?_ ?_ ?_ ?_ ?_ ?_ ?_ ?_ ?_ ?_ ?_ ?_ ?_ ?_ ?_ ?_
  all_goals (first | ((first | unfold K75.Na_ | unfold K75.Nz_ | unfold K75.Co_ | unfold K75.Ke_ | unfold K75.Lo_);k_is) | k_is | skip)
